import PyProof.Rows.All
import Wide.All
import OpenK.AllK
import Wide.FinOn
import Lean
import PyProof.EqAt
import PyProof.EqKinds
import PyProof.TupleCall
import PySem.Challenge.RW_moodtree_k21_the_first_bad_row
set_option Elab.async false
set_option linter.all false
set_option maxRecDepth 100000
set_option maxHeartbeats 4000000
open PySem.W (instObj hideAll hideAll_size Frag lookIn plainGet hasDictIn findIn handedIn plainOver takerIn makesIn typeIn emptyDict isFn keepIn cellsFrom_some fnOf codeIn kitOne funFrames_hide nsOkIn nsIn tailIn tail_of_in isNs_of_in clsIn kitAny exmOne KeysLit mapOf_K)
theorem Wl{p:Prop}(h:p:=by lia):p:=h
def Wp{p:Prop}(h:p:=by decide +kernel):p:=h
def WA{p:Prop}(h:p:=by decide):p:=h
def WE{p:Prop}(h:p:=by simp):p:=h
theorem WF{p:Prop}(h:p:=by simp_all):p:=h
theorem WI{p:Prop}(h:p:=by grind):p:=h
theorem WJ{p:Prop}(h:p:=by simp;lia):p:=h
local macro_rules | `(#[$a,*])=>if a.getElems.isEmpty then Lean.Macro.throwUnsupported else `(⟨$a,*⟩)
noncomputable section
namespace L2
open PySem PySem.Spec PyProof.Rows
abbrev cq:=@if_neg
abbrev d6:=@List.mem_cons_self
abbrev di:=@if_pos
abbrev ee:=@List.mem_cons_of_mem
abbrev d4:=@List.length_map
abbrev d3:=@List.mem_cons
abbrev ed:=@of_decide_eq_true
abbrev eM:=@List.getD_eq_getElem?_getD
abbrev eE:=@Nat.le_of_ble_eq_true
abbrev eg:=@List.mem_append
abbrev eL:=@List.mem_append_right
abbrev eC:=@List.mem_singleton
abbrev et:=@Bool.and_eq_true
abbrev d5:=@wpAny_bind
abbrev eB:=@List.append_assoc
abbrev eA:=@List.not_mem_nil
abbrev ea:=@Nat.le_refl
abbrev eu:=@decide_eq_false
abbrev eP:=@of_decide_eq_false
abbrev ff:=@Heap.get?_push_of_some
abbrev eD:=@decide_eq_true
abbrev er:=@Nat.le_trans
abbrev ew:=@List.mem_map
abbrev ft:=@List.mem_append_left
abbrev e5:=@Option.some.inj
abbrev fw:=@List.mem_of_getElem?
abbrev eJ:=@List.map_cons
abbrev fg:=@Bool.false_ne_true
abbrev e6:=@List.append_nil
abbrev gc:=@List.getElem?_eq_getElem
abbrev eI:=@List.map_map
abbrev fv:=@List.length_append
abbrev fo:=@decide_eq_true_eq
abbrev e4:=@Heap.lt_size
abbrev gz:=@List.getElem?_eq_some_iff
abbrev e7:=@PySem.W.mg_of
abbrev fT:=@List.getElem?_map
abbrev f6:=@Int.emod_lt_of_pos
abbrev fx:=@List.map_append
abbrev fR:=@List.all_eq_true
abbrev eR:=@wpAny_pure
abbrev fD:=@Int.emod_nonneg
abbrev gx:=@List.length_range
abbrev fc:=@Nat.zero_le
abbrev gv:=@List.length_cons
abbrev gm:=@Bool.and_false
abbrev hE:=@Heap.get?_push_size
abbrev hB:=@List.map_congr_left
abbrev hz:=@Nat.lt_of_lt_of_le
abbrev hP:=@List.filter_cons_of_neg
abbrev g4:=@List.cons_append
abbrev fA:=@sizeLine_eq
abbrev gh:=@Nat.ne_of_lt
abbrev hq:=@List.cons_ne_nil
abbrev fb:=@or_false
abbrev gC:=@List.mem_range
abbrev hu:=@List.lookup_cons
abbrev hF:=@List.filter_append
abbrev hW:=@Option.map_eq_some_iff
abbrev hV:=@List.length_singleton
abbrev gr:=@wpAny_mono
abbrev hU:=@List.getElem?_range
abbrev iv:=@Option.isSome_iff_exists
abbrev hO:=@List.nodup_append
abbrev i5:=@List.getElem?_append_right
abbrev hT:=@PySem.W.mg_none_of
abbrev hJ:=@List.length_take
abbrev hS:=@List.take_length
abbrev hZ:=@List.take_add_one
abbrev hY:=@List.foldl_append
abbrev iw:=@List.length_replicate
abbrev hG:=@Bool.true_and
abbrev i9:=@Int.eq_ofNat_of_zero_le
abbrev hX:=@List.nodup_cons
abbrev i8:=@List.perm_append_comm
abbrev hR:=@List.cons.inj
abbrev ij:=@List.mem_filter
abbrev hH:=@Nat.le_of_lt
abbrev lj:=@List.getElem?_append_left
abbrev i2:=@List.filterMap_cons
abbrev ir:=@wpAny_truthy_bool
abbrev iq:=@List.Sublist.refl
abbrev h9:=@Bool.false_and
abbrev ip:=@List.foldl_cons
abbrev lh:=@List.filter_cons_of_pos
abbrev i1:=@Int.toNat_natCast
abbrev i0:=@List.flatMap_cons
abbrev jl:=@beq_eq_false_iff_ne
abbrev jf:=@List.Sublist.append
abbrev lb:=@List.Perm.append_left
abbrev hI:=@beq_iff_eq
abbrev jb:=@Bool.not_eq_true'
abbrev o8:=@PyProof.Rows.callWith_type1
abbrev k4:=@PySem.W.hideAll_get
abbrev kS:=@PySem.mem_of_lookup
abbrev kA:=@List.flatMap_append
abbrev h7:=@Nat.le_succ
abbrev nu:=@PySem.F.plainAttrs_str
abbrev nr:=@List.filter_eq_nil_iff
abbrev kz:=@PySem.W.of_hideAll
abbrev ky:=@wpAny_Call_Name_kw
abbrev kx:=@Nat.add_sub_cancel
abbrev o7:=@List.sublist_append_right
abbrev jR:=@List.find?_cons
abbrev l3:=@List.ext_getElem?
abbrev l2:=@Nat.le_succ_of_le
abbrev i3:=@List.any_cons
abbrev pd:=@decide_eq_false_iff_not
abbrev nN:=@List.map_eq_nil_iff
abbrev jP:=@List.nodup_nil
abbrev uk:=@List.dropLast_concat_getLast
abbrev nH:=@List.mem_filterMap
abbrev nC:=@StrLaws.join_split
abbrev l1:=@wpAny_passesOwn
abbrev lL:=@Bool.eq_iff_iff
abbrev lx:=@PySem.W.kia_one
abbrev lr:=@Bool.or_eq_true
abbrev jO:=@List.all_cons
abbrev uj:=@Array.getElem?_eq_some_iff
abbrev jN:=@wpAny_holding
abbrev ui:=@List.exists_cons_of_ne_nil
abbrev nz:=@List.reverse_cons
abbrev ue:=@List.drop_eq_getElem_cons
abbrev o9:=@codeAny_call_builtin
abbrev lp:=@codeAny_mono
abbrev ub:=@wpAny_comprehension_free
abbrev nv:=@decide_eq_decide
abbrev js:=@F.called_set
abbrev t5:=@List.length_eq_zero_iff
abbrev uK:=@wpAny_getItem_str_slice
abbrev uu:=@PySem.StrLaws.found_one
abbrev i4:=@wpAny_call
abbrev pl:=@Nat.lt_of_le_of_lt
abbrev nT:=@List.length_set
abbrev nR:=@Nat.not_lt_zero
abbrev wq:=@List.eq_nil_of_length_eq_zero
abbrev ph:=@Option.isSome_map
abbrev pf:=@wpAny_loadPart_at
abbrev l5:=@Nat.sub_self
abbrev tw:=@StrLaws.strSub_toList
abbrev tm:=@PySem.W.hideAll_none
abbrev tj:=@Heap.get?_none_of_le
abbrev ti:=@List.getElem?_set_ne
abbrev o1:=@Nat.lt_succ_self
abbrev oT:=@List.length_drop
abbrev ja:=@typeIs_str
abbrev tf:=@F.excAttr_ValueError
abbrev oP:=@Nat.succ_le_succ
abbrev oN:=@List.getElem_mem
abbrev m4:=@Nat.lt_irrefl
abbrev wd:=@PySem.F.excBase_ValueError
abbrev sT:=@List.perm_iff_count
abbrev sL:=@List.length_pos_iff
abbrev sx:=@List.length_reverse
abbrev wb:=@PySem.F.slot_dict_getitem
abbrev v3:=@List.mem_or_eq_of_mem_set
abbrev oI:=@List.range_succ
abbrev vT:=@Option.isNone_iff_eq_none
abbrev sv:=@PySem.W.callWith_K
abbrev IM:=@PySem.F.args_tuple_add_2
abbrev sr:=@tupleKind_room_in1
abbrev so:=@F.args_str_split_2
abbrev sk:=@Code.quiet_builtin
abbrev IP:=@PySem.F.entry_tuple_add
abbrev wo:=@Nat.add_sub_cancel_left
abbrev wg:=@F.plain_set_update_loop
abbrev we:=@Nat.toDigits_of_lt_base
abbrev tL:=@List.size_toArray
abbrev tJ:=@F.entry_str_split
abbrev tI:=@List.all_eq_false
abbrev tE:=@StrLaws.subAt_one
abbrev nc:=@wpAny_field
abbrev m5:=@Int.le_refl
abbrev o4:=@wpAny_standAt
abbrev Key:=Sum Int Str
noncomputable def ym:Key->Value->Bool
 | .inl k,v=>Value.isInt k v
 | .inr x,v=>Value.isStrOf x v
noncomputable def Ll(w:World):Key->Int
 | .inl k=>hashInt k
 | .inr x=>hashStr w x
theorem dH:∀{k:Key} {v:Value},ym k v=true->(∃i t,k=Sum.inl i/\v=Value.int i t)\/(∃x t,k=Sum.inr x/\v=Value.str x t)
 | .inl i,v,h=>by
  obtain⟨t,e⟩:=Value.isInt_shape h;exact .inl #[i,t,rfl,e]
 | .inr x,v,h=>by
  obtain⟨t,e⟩:=Value.isStrOf_shape h;exact .inr #[x,t,rfl,e]
def Kc(i:Int)(t:Tok):ym (.inl i) (.int i t)=true:=by simp[ym,Value.isInt]
def Kd(x:Str)(t:Tok):ym (.inr x) (.str x t)=true:=by simp[ym,Value.isStrOf]
theorem Zn(a b:Int):decide ((Sum.inl a:Key)=Sum.inl b)=(a==b):=by
 by_cases e:a=b
 .subst e;simp
 simp_all
def Zo(a b:Str):decide ((Sum.inr a:Key)=Sum.inr b)=decide (a=b):=by simp
def Zq(a:Int)(b:Str):decide ((Sum.inl a:Key)=Sum.inr b)=false:=eu (λq=>nomatch q)
def Zr(a:Str)(b:Int):decide ((Sum.inr a:Key)=Sum.inl b)=false:=eu (λq=>nomatch q)
def ez(prog:Program)(w:World):PySem.KeyKind prog w Key where
 is:=ym
 hash:=Ll w
 inj:=λv a b f c=>by
  obtain⟨i,t,rfl,rfl⟩|⟨x,t,rfl,rfl⟩:=dH f
  .obtain⟨j,u,rfl,e⟩|⟨y,u,rfl,e⟩:=dH c
   .injection e with e1 _;rw[e1]
   .exact nomatch e
  .obtain⟨j,u,rfl,e⟩|⟨y,u,rfl,e⟩:=dH c
   .exact nomatch e
   .injection e with e1 _;rw[e1]
 byValue:=λk v h=>by
  obtain⟨i,t,rfl,rfl⟩|⟨x,t,rfl,rfl⟩:=dH h<;>rfl
 pyHash:=λhv h=>by
  obtain⟨i,t,rfl,rfl⟩|⟨x,t,rfl,rfl⟩:=dH hv
  .exact wpAny_pyHash_int h
  .exact wpAny_pyHash_str h
 eqBool:=λd hv h=>by
  obtain⟨i,t,rfl,rfl⟩|⟨x,t,rfl,rfl⟩:=dH d
  .obtain⟨j,u,rfl,rfl⟩|⟨y,u,rfl,rfl⟩:=dH hv
   .rw[Zn]at h;exact wpAny_eqBool_int h
   .rw[Zq]at h;exact SeqAt.EqAt.int_str i t y u _ _ _ _ h
  .obtain⟨j,u,rfl,rfl⟩|⟨y,u,rfl,rfl⟩:=dH hv
   .rw[Zr]at h;exact SeqAt.EqAt.str_int x t j u _ _ _ _ h
   .rw[Zo]at h;exact wpAny_eqBool_str h
 «strs»:=λk x t v h=>by
  obtain⟨i,u,rfl,e⟩|⟨y,u,rfl,e⟩:=dH h
  .exact nomatch e
  .injection e with e1 _;subst e1;cases v<;>rfl
def BU(prog:Program)(w:World)(i:Int)(t:Tok):(ez prog w).is (.inl i) (.int i t)=true:=Kc i t
def BV(prog:Program)(w:World)(x:Str)(t:Tok):(ez prog w).is (.inr x) (.str x t)=true:=Kd x t
inductive V where
 | non|bl (b:Bool)|int (i:Int)|str (x:Str)|Et (b:Array UInt8)|flt (b:UInt64)|ref (a:Addr)|ty (n:String)
 deriving DecidableEq
def RelV:V->Value->Prop
 | .non,u=>u=Value.none
 | .bl b,u=>u=Value.bool b
 | .int i,u=>∃t,u=Value.int i t
 | .str x, u => ∃ t, u = Value.str x t
 | .Et b,u=>∃t,u=Value.bytes b t
 | .flt b,u=>∃t,u=Value.float b t
 | .ref a,u=>u=Value.ref a
 | .ty n,u=>u=Value.type n
abbrev _root_.BS:=List V
abbrev _root_.B0:=List Value
abbrev Vals:BS->B0->Prop:=Paired RelV
variable{xs:BS}{us:B0}
theorem Vals.length(r:Vals xs us):xs.length=us.length:=Paired.length r
theorem Vals.get:∀{xs:BS} {us:B0} {i:Nat} {x:V},Vals xs us->xs[i]? = some x->∃u,us[i]? = some u/\RelV x u
 | _,_,_,_,.nil,e=>by simp at e
 | _,_,0,_,.cons r _,e=>by simp_all
 | _,_,i+1,x,.cons _ t,e=>by
  obtain⟨u,h1,a⟩:=Vals.get t (‹_›);exact#[u,‹_›,a]
theorem Vals.append:∀{xs ys:BS} {us ws:B0},Vals xs us->Vals ys ws->Vals (xs++ys) (us++ws)
 | _,_,_,_,.nil,s=>s
 | _,_,_,_,.cons r t,s=>.cons r (Vals.append t s)
theorem Vals.take:∀{xs:BS} {us:B0} (n:Nat),Vals xs us->Vals (xs.take n) (us.take n)
 | _,_,0,_=>.nil
 | _,_,_+1,.nil=>.nil
 | _,_,n+1,.cons r t=>.cons r (Vals.take n t)
theorem Vals.drop:∀{xs:BS} {us:B0} (n:Nat),Vals xs us->Vals (xs.drop n) (us.drop n)
 | _,_,0,r=>r
 | _,_,_+1,.nil=>.nil
 | _,_,n+1,.cons _ t=>Vals.drop n t
abbrev _root_.D2:=Option Value
def oJ:Option V->D2->Prop
 | some v,some u=>RelV v u
 | none,none=>True
 | _,_=>False
def KV{κ:Type}:List (κ×V)->List (κ×Value)->Prop:=Paired λ(p:κ×V) (q:κ×Value)=>p.1=q.1/\RelV p.2 q.2
noncomputable def kV:Key->V
 | .inl i=>.int i
 | .inr x=>.str x
abbrev _root_.EM:=List Key
abbrev _root_.Bi:=List (EM×V)
abbrev _root_.Bz:=List (Str×V)
abbrev _root_.Ch:=List (Key×V)
abbrev _root_.Db:=Array Value
inductive HO where
 | lst (xs:BS)
 | tup (xs:BS)
 | dK (aN:Ch)|dT (aN:Bi) (ep:Nat)
 | set (S:Int->Bool) (n:Nat)
 | ins (C dx:Addr) (fs:Bz)
 | own (x:Addr)
 | xd (fs:Bz)
 | met (f x:Addr)
 | oA (lo hi:Int)
 | d7 (o:Obj) (u:HO)
 | Ui (ps:Db)
 | tabs (q:Str)
 | X3 (q:Str)
 | ext (φ:Heap->Prop)
abbrev Hp:=Addr->Option HO
noncomputable def upd(H:Hp)(a:Addr)(o:HO):Hp:=λb=>if b=a then some o else H b
variable{H:Hp}{a:Addr}{o:HO}
theorem aJ:upd H a o a=some o:=by unfold upd;simp_all
variable{b:Addr}
def az(h:b≠a):upd H a o b=H b:=by unfold upd;rw[cq h]
def O1{u:HO}(h:H a=some o)(h':H b=some u)(d:o≠u):a≠b:=by
 intro e;subst e;rw[h]at h';exact d (e5 h')
theorem aS(h:H a=some o)(h':H b=none):a≠b:=by
 intro e;simp_all
section
variable(P:Program)(w:World)
def eS(H:Hp)(h:Heap)(a:Addr):HO->Prop
 | .lst xs=>xs.length<=sizeLine/\∃(its:B0) (n:Nat),Vals xs its/\h.get? a=some {cls:=.type "list",data:=.seq its.toArray n}
 | .tup xs=>xs.length<=sizeLine/\∃its:B0,Vals xs its/\IsTup h a its.toArray
 | .dK aN=>aN.length<=sizeLine/\(a==sysModules)=false/\∃vs,KV aN vs/\h.DictOf (ez P w) a vs
 | .dT aN en=>aN.length<=sizeLine/\(a==sysModules)=false/\∃xs:List (EM×Addr×Value),
   Paired (λ(p:EM×V) (q:EM×Addr×Value)=>p.1=q.1/\H q.2.1=some (.tup (p.1.map kV))/\RelV p.2 q.2.2) aN xs ∧
   ∃o es ep,h.get? a=some o/\o.ExactDict/\o.data=.dict es ep/\es.toList=xs.map (entryOfKey (tupleKind (ez P w)))/\(xs.map (·.1)).Nodup/\ep=en
 | .set S n=>h.SetOf (intKind P w) a S n
 | .ins C dx fs=>H dx=some (.own a)/\fs.length<=1000/\dx≠a/\h.get? a=some (instObj C dx) ∧
   ∃mA,h.Ns1 dx mA/\(∀f,oJ (fs.lookup f) (mA f))/\PySem.Within mA (fs.map (·.1))
 | .own _=>∃o,h.get? a=some o
 | .xd fs=>∃mA,h.Ns1 a mA/\∀f,oJ (fs.lookup f) (mA f)
 | .oA lo hi=>∃t u v,h.get? a=some {cls:=.type "range",data:=.fields (List.toArray [.int lo t,.int hi u,.int 1 v])}
 | .d7 o u=>h.get? a=some o/\eS H h a u
 | .Ui ps=>h.get? a=some {cls:=.none,data:=.fields ps}
 | .tabs q=>∃ps:Db,h.get? a=some {cls:=.none,data:=.fields ps}/\TriplesOk ps.toList/\∀pos d,codeAmong pos ps.toList=some d->∃c,d=.ref c/\H c=some (.X3 q)
 | .X3 q=>∃o vs t,h.get? a=some o/\o.data=.fields vs/\vs[1]? = some (.str q t)
 | .met f x=>h.get? a=some (PySem.W.methodObj (.ref f) (.ref x))
 | .ext φ=>φ h/\(∃o,h.get? a=some o)/\∀h1 b:Heap,φ h1->(∀o,h1.get? a=some o->b.get? a=some o)->φ b
def lY(H:Hp)(h:Heap):Prop:=∀a o,H a=some o->eS P w H h a o
end
variable{P:Program}{w:World}{H':Hp}{h h':Heap}
theorem eS.lt(x:eS P w H h a o):a<h.objs.size:=by
 cases o with
 | lst xs=>obtain⟨_,_,_,_,e⟩:=x;exact e4 e
 | tup xs=>obtain⟨_,_,_,p⟩:=x;exact p.lt
 | dK aN=>obtain⟨_,_,_,_,o,_,_,e,_⟩:=x;exact e4 e
 | dT aN ep=>obtain⟨_,_,_,_,o,_,_,e,_⟩:=x;exact e4 e
 | set S n=>obtain⟨o,_,_,_,e,_⟩:=x;exact e4 e
 | ins C dx fs=>obtain⟨_,_,_,e,_⟩:=x;exact e4 e
 | own y=>obtain⟨_,e⟩:=x;exact e4 e
 | xd fs=>obtain⟨_,⟨_,_,_,e,_⟩,_⟩:=x;exact e4 e
 | oA lo hi=>obtain⟨_,_,_,e⟩:=x;exact e4 e
 | d7 b u=>obtain⟨e,_⟩:=x;exact e4 e
 | Ui ps=>exact e4 (x)
 | tabs q=>obtain⟨_,e,_⟩:=x;exact e4 e
 | X3 q=>obtain⟨_,_,_,e,_⟩:=x;exact e4 e
 | met f y=>exact e4 (x)
 | ext φ=>obtain⟨_,⟨_,e⟩,_⟩:=x;exact e4 e
theorem Paired.Zt{α β:Type}{F G:α->β->Prop}:∀{d:List α} {c:List β},Paired F d c->(∀a b,F a b->G a b)->Paired G d c
 | _,_,.nil,_=>.nil
 | _,_,.cons r t,f=>.cons (f _ _ r) (Paired.Zt t f)
theorem eS.oK(x:eS P w H h a o)(k:∀b u,(b=a\/H b=some (.own a))->h.get? b=some u->h'.get? b=some u)
  (l:∀b,H b=some (.own a)->H' b=some (.own a)) (j:∀b xs,H b=some (.tup xs)->H' b=some (.tup xs)) (gX:∀b q,H b=some (.X3 q)->H' b=some (.X3 q):=by intro _ _ q;exact q):eS P w H' h' a o:=by
 induction o with
 | lst xs=>obtain⟨z,its,n,r,e⟩:=x;exact#[z,its,n,r,k _ _ (.inl rfl) e]
 | tup xs=>obtain⟨z,its,r,g,e,c⟩:=x;exact#[z,its,r,g,k _ _ (.inl rfl) e,c]
 | dK aN=>obtain⟨z,y,vs,r,g,es,ep,e,c⟩:=x;exact#[z,y,vs,r,g,es,ep,k _ _ (.inl rfl) e,c]
 | dT aN ep=>
  obtain⟨z,y,xs,r,g,es,ep,e,c⟩:=x;exact#[z,y,xs,Paired.Zt r λp q z=>#[z.1,j _ _ z.2.1,z.2.2],g,es,ep,k _ _ (.inl rfl) e,c]
 | set S n=>obtain⟨g,es,ep,t,e,c⟩:=x;exact#[g,es,ep,t,k _ _ (.inl rfl) e,c]
 | ins C dx fs=>
  obtain⟨d,z,ne,e,mA,⟨od,es,ep,e2,c⟩,r⟩:=x;exact#[l _ d,z,ne,k _ _ (.inl rfl) e,mA,#[od,es,ep,k _ _ (.inr d) e2,c],r]
 | own y=>obtain⟨g,e⟩:=x;exact#[g,k _ _ (.inl rfl) e]
 | xd fs=>obtain⟨mA,⟨od,es,ep,e,c⟩,r⟩:=x;exact#[mA,#[od,es,ep,k _ _ (.inl rfl) e,c],r]
 | oA lo hi=>obtain⟨t,u,v,e⟩:=x;exact#[t,u,v,k _ _ (.inl rfl) e]
 | d7 g u i=>obtain⟨e,q⟩:=x;exact#[k _ _ (.inl rfl) e,i q]
 | Ui ps=>
  have e:=x;exact k a _ (.inl rfl) e
 | met f y=>
  have e:=x;exact k a _ (.inl rfl) e
 | tabs q=>obtain⟨ps,e,tr,cs⟩:=x;exact#[ps,k _ _ (.inl rfl) e,tr,λpos m z=>let ⟨c,e1,e2⟩:=cs pos m z;#[c,e1,gX _ _ e2]]
 | X3 q=>obtain⟨g,vs,t,e,r⟩:=x;exact#[g,vs,t,k _ _ (.inl rfl) e,r]
 | ext φ=>obtain⟨p,⟨o,e⟩,st⟩:=x;exact#[st _ _ p λo q=>k _ _ (.inl rfl) q,#[o,k _ _ (.inl rfl) e],st]
theorem lY.lt(x:lY P w H h)(e:H a=some o):a<h.objs.size:=(x a o e).lt
theorem lY.fresh(x:lY P w H h)(e:h.objs.size<=a):H a=none:=by
 cases q:H a with
 | none=>rfl
 | some u=>exact absurd (hz (x.lt q) e) (m4 _)
theorem lY.kept(x:lY P w H h)(k:∀b u,h.get? b=some u->h'.get? b=some u):lY P w H h':=λa o e=>
 (x a o e).oK (λb u _ q=>k b u q) (λ_ q=>q) λ_ _ q=>q
theorem lY.laid(x:lY P w H h)(k:∀b u,h.get? b=some u->h'.get? b=some u)(hp:h.objs.size<=a)(new:eS P w (upd H a o) h' a o):lY P w (upd H a o) h':=λb u e=>by
 have d:=x.fresh hp;by_cases f:b=a
 .subst f;rw[aJ]at e;grind
 .rw[az f]at e;exact(x b u e).oK (λc v _ q=>k c v q) (λc q=>az (aS q d)▸q) (λc xs q=>az (aS q d)▸q) λc z q=>az (aS q d)▸q
def Rd(H:Hp)(a:Addr)(u:HO):Prop:=H a=some u\/∃o,H a=some (.d7 o u)
theorem Rd.ok{u:HO}(r:Rd H a u)(x:lY P w H h):eS P w H h a u:=by
 obtain r|⟨o,r⟩:=r
 .exact x a u r
 .obtain⟨_,q⟩:=x a _ r;exact q
def p7:Option HO->Prop
 | some (.lst _)=>True
 | some (.dK _)=>True
 | some (.dT _ _)=>True
 | some (.set _ _)=>True
 | some (.ins _ _ _)=>True
 | some (.ext _)=>True
 | some (.tabs _)=>True
 | _=>False
variable{x e:Addr}{o':HO}
theorem lY.write(ok:lY P w H h)(d:p7 (H x))(he:e=x\/H e=some (.own x))(k:∀b u,b≠e->h.get? b=some u->h'.get? b=some u)(f:∃u,h'.get? e=some u)
  (new:eS P w (upd H x o') h' x o'):lY P w (upd H x o') h':=λb u q=>by
 have j:∀c y,H c=some (.own y)->c≠x:=λc y r z=>by subst z;rw[r]at d;exact d
 have i:∀c xs,H c=some (.tup xs)->c≠x:=λc xs r z=>by subst z;rw[r]at d;exact d
 have l:∀c q,H c=some (.X3 q)->c≠x:=λc q r z=>by subst z;rw[r]at d;exact d
 by_cases g:b=x
 .subst g;rw[aJ]at q;grind
 .rw[az g]at q;by_cases a:b=e
  .have m:H b=some (.own x):=by
    obtain z|z:=he
    .exact absurd (a.trans z) g
    .rw[a];exact z
   rw[q]at m;cases m;obtain⟨v,hv⟩:=f;exact#[v,a▸hv ]
  .refine(ok b u q).oK (λc v n r=>k c v ?_ r) (λc r=>az (j c b r)▸r) (λc xs r=>az (i c xs r)▸r) λc z r=>az (l c z r)▸r;grind
abbrev _root_.BY:=List Addr
structure Un(fs ex:BY)(H H':Hp)(h h':Heap):Prop where
 keep:∀b o,h.get? b=some o->H b=none->b∉fs->b∉ex->h'.get? b=some o
 slot:∀b o,h.get? b=some o->H b=none->b∈fs->b∉ex->∃sl,h'.get? b=some {o with slots:=sl}
 free:∀b o,h.get? b=some o->H b=none->b∉ex->H' b=none
 there:∀b o,h.get? b=some o->b∉ex->∃o',h'.get? b=some o'
 mh:∀b xs,H b=some (.tup xs)->H' b=some (.tup xs)
 dO:∀b o u,H b=some (.d7 o u)->H' b=some (.d7 o u)
 mj:∀b ps,H b=some (.Ui ps)->∃more,H' b=some (.Ui (ps++more))
section
variable{fs ex:BY}{H1:Hp}{h1:Heap}
theorem Un.any(u:Un fs ex H H1 h h1){a:Obj}(q:h.get? b=some a)(n:H b=none)(c:b∉ex):∃sl,h1.get? b=some {a with slots:=sl}:=by
 by_cases d:b∈fs
 .exact u.slot b a q n d c
 .exact#[ _,u.keep b a q n d c]
theorem Un.kept(k:∀b u,h.get? b=some u->h'.get? b=some u):Un fs ex H H h h':=
 #[λb a q _ _ _=>k b a q,λb a q _ _ _=>#[ _,k b a q],λ_ _ _ n _=>n,λb a q _=>#[a,k b a q],λ_ _ q=>q,λ_ _ _ q=>q,λ_ ps q=>#[#[],‹_› ]]
theorem Un.refl:Un fs ex H H h h:=Un.kept λ_ _ q=>q
theorem Un.laid(k:∀b u,h.get? b=some u->h'.get? b=some u)(hp:h.objs.size<=a)(c:H a=none):Un fs ex H (upd H a o) h h' where
 keep:=λb u q _ _ _=>k b u q
 slot:=λb u q _ _ _=>#[ _,k b u q]
 free:=λb u q n _=>az (gh (hz (e4 q) hp))▸n
 there:=λb u q _=>#[u,k b u q]
 mh:=λb xs q=>az (aS q c)▸q
 dO:=λb u xs q=>az (aS q c)▸q
 mj:=λb ps q=>#[#[],by rw[az (aS q c),q];simp]
theorem Un.write(d:p7 (H x))(he:e=x\/H e=some (.own x))(k:∀b u,b≠e->h.get? b=some u->h'.get? b=some u)(c:∃u,h'.get? e=some u):Un fs ex H (upd H x o) h h':=by
 have g:∀b,H b=none->b≠x:=λb n z=>by subst z;rw[n]at d;exact d
 have f:∀b,H b=none->b≠e:=λb n z=>by simp_all
 have hm:∀b u,H b=some u->¬ p7 (some u)->b≠x:=λb u q nm z=>by simp_all
 refine#[λb u q n _ _=>k b u (f b n) q,λb u q n _ _=>#[ _,k b u (f b n) q],λb u q n _=>az (g b n)▸n,λb u q _=>?_,
  λb xs q=>az (hm b _ q λz=>z)▸q,λb u xs q=>az (hm b _ q λz=>z)▸q,λb ps q=>#[#[],by rw[az (hm b _ q λz=>z),q];simp]]
 by_cases a:b=e
 .subst a;exact c
 .exact#[u,k b u a q]
end
noncomputable def x5(h:Heap)(H:Hp):BY:=(List.range h.objs.size).filter λa=>(H a).isSome
def zx(h:Heap)(H:Hp):Heap:=hideAll h (x5 h H)
def Ke(h:Heap)(H:Hp):(zx h H).objs.size=h.objs.size:=hideAll_size _ _
theorem N4{o:Obj}(e:h.get? b=some o)(n:H b=none):(zx h H).get? b=some o:=
 k4 _ e λhm=>by
  have q:=(ij.1 hm).2;simp_all
theorem UB{o:Obj}(e:(zx h H).get? b=some o):h.get? b=some o/\H b=none:=by
 have a:=kz _ e;refine#[a,?_];cases q:H b with
 | none=>rfl
 | some x=>
  have hm:b∈x5 h H:=ij.2 #[gC.2 (e4 a),by simp[q]];have z:(zx h H).get? b=none:=tm _ hm;simp_all
abbrev _root_.At:=List (Addr×Obj)
noncomputable def UC(g h:Heap)(L:Addr):At:=(List.range h.objs.size).filterMap λa=>if a=L\/(g.get? a).isSome=true then none else(h.get? a).map λo=>(a,o)
def rest(g h:Heap)(L d:Addr):At:=(UC g h L).filter λp=>decide (p.1≠d)
abbrev _root_.BM:=Str->D2
structure Mod(K:Frag)(mg:BM)(base:Heap):Prop where
 Uj:K.In base
 glob:base.Ns mainGlobals mg
 blt:∃mb,base.Ns builtinsNs mb/\∀x:Str,x≠"__name__"->mb x=bootBuiltins x
 nolimit:base.NoLimit
abbrev _root_.AT:=List Str
abbrev _root_.BA:=Value->Shared->Prop
abbrev _root_.Cn:=List Env
structure Cx where
 prog:Program
 w:World
 K:Frag
 mg:Str->D2
 base:Heap
 A:Around
 N:AT
 eh:Shared
 h5:Hp
 env:Env
 outer:Cn
 stack:Cn
 ex:BY
 fn:Str->Bool
 calm:Bool
 pn:At
 xe:Value->Shared->Prop
noncomputable def lK(l:Cn):BY:=l.filterMap (·.frame)
abbrev Cx.fs(X:Cx):BY:=lK X.outer
def N5(sc:Scope)(x:Str):Prop:=sc.names.lookup x=some .local\/sc.names.lookup x=some .cell\/sc.names.lookup x=some .free
def Loc(sc:Scope)(x:Str):Prop:=sc.names.lookup x=some .local\/sc.names.lookup x=some .cell
def Look(env:Env)(h:Heap)(m:BM)(x:Str)(u:Value):Prop:=
 (env.kindOf x=some .local/\m x=some u)\/((env.kindOf x=some .cell\/env.kindOf x=some .free)/\∃c,env.cells.lookup x=some c/\h.IsCell c (some u))
structure Cx.Ok(X:Cx):Prop where
 mod:Mod X.K X.mg X.base
 kind:X.env.scope.kind=.function
 glob:X.env.globals=mainGlobals
 blt:X.env.builtins=builtinsNs
 above:X.eh.heap.objs.size<=X.env.locals
 inj:∀x y c,X.env.cells.lookup x=some c->X.env.cells.lookup y=some c->x=y
 has:∀x,(X.env.kindOf x=some .cell\/X.env.kindOf x=some .free)->∃c,X.env.cells.lookup x=some c
 Zu:∀x c,X.fn x=true->X.env.cells.lookup x=some c->X.eh.heap.objs.size<=c
 hd:X.calm=true->X.A.handled=none
 frames:X.A.frames=some X.stack
 ma:X.stack=X.outer\/(X.stack=X.env::X.outer/\X.env.frame=some X.env.locals)
 r8:∀b∈X.ex,b≠X.env.locals/\∀x c,X.env.cells.lookup x=some c->c≠b
 bs:∀b o,X.base.get? b=some o->X.eh.heap.get? b=some o/\X.h5 b=none
 N6:X.base.objs.size<=X.eh.heap.objs.size
 Eu:∀b o,X.base.get? b=some o->b∉X.ex
 Kf:∀b∈X.ex,b∉X.fs
 pI:X.eh.heap.FunFrames X.base X.outer
 Uk:∀b∈X.fs,X.h5 b=none
structure Inv(X:Cx)(pins:At)(U:List (Option V))(H:Hp)(s:Shared):Prop where
 ok:X.Ok
 os:s.os=X.eh.os
 bare:AllBare s.gens
 base:Un X.fs X.ex X.h5 H X.eh.heap s.heap
 loc:∃m,s.heap.Ns X.env.locals m/\∀(i:Nat) (x:Str) (v:V),X.N[i]? = some x->U[i]? = some (some v)->N5 X.env.scope x->∃u,RelV v u/\Look X.env s.heap m x u
 cell:∀x c,X.env.cells.lookup x=some c->∃v,s.heap.IsCell c v
 free:H X.env.locals=none
 iU:∀x c,X.env.cells.lookup x=some c->H c=none
 pin:∀p∈X.pn++pins,s.heap.get? p.1=some p.2/\H p.1=none/\p.1≠X.env.locals/\p.1∉X.fs/\∀v,p.2.data ≠ .cell v
 bO:lY X.prog X.w H s.heap
 len:U.length=X.N.length
variable{X:Cx}{pins:At}{U:List (Option V)}{s:Shared}
theorem Cx.Ok.L9(ok:X.Ok){o:Obj}(e:X.base.get? b=some o):b∉X.fs:=λa=>by
 have:=(ok.pI.mem a).1;grind
theorem Inv.bs(I:Inv X pins U H s):∀b o,X.base.get? b=some o->s.heap.get? b=some o/\H b=none:=λb o e=>
 #[I.base.keep b o (I.ok.bs b o e).1 (I.ok.bs b o e).2 (I.ok.L9 e) (I.ok.Eu b o e),I.base.free b o (I.ok.bs b o e).1 (I.ok.bs b o e).2 (I.ok.Eu b o e)]
theorem Inv.bk(I:Inv X pins U H s):∀b o,X.base.get? b=some o->s.heap.get? b=some o:=λb o e=>(I.bs b o e).1
theorem Inv.mod(I:Inv X pins U H s):Mod X.K X.mg X.base:=I.ok.mod
theorem Inv.j7(I:Inv X pins U H s):X.K.In s.heap:=I.ok.mod.Uj.keeps I.bk
theorem Inv.lt(I:Inv X pins U H s):X.env.locals<s.heap.objs.size:=let ⟨_,a,_⟩:=I.loc;a.lt
theorem Inv.sz(I:Inv X pins U H s):X.eh.heap.objs.size<=s.heap.objs.size:=er I.ok.above (hH I.lt)
theorem Inv.LU(I:Inv X pins U H s)(h:s.heap.objs.size<=a):a∉X.fs:=λc=>by
 obtain⟨_,o,b,_⟩:=I.ok.pI.mem c;exact absurd (hz (e4 b) (er I.sz h)) (m4 _)
theorem Inv.X4(I:Inv X pins U H s):∀x c,X.env.cells.lookup x=some c->c≠X.env.locals:=λx c e z=>by
 obtain⟨v,o,b,hd⟩:=I.cell x c e;obtain⟨m,⟨o',es,ep,d,a,_⟩,_⟩:=I.loc;grind
theorem Inv.pI(I:Inv X pins U H s):s.heap.FunFrames X.base X.outer:=by
 have all:∀(l:Cn),(∀b∈lK l,b∈X.fs)->X.eh.heap.FunFrames X.base l->s.heap.FunFrames X.base l:=by
  intro l
  induction l with
  | nil=>intro _ _;trivial
  | cons env r f=>
   intro d j;obtain⟨k,⟨L,o,hf,i,h,hd⟩,g⟩:=j;have c:=d L (by unfold lK;rw[i2,hf];exact d6);obtain⟨sl,e⟩:=I.base.slot L o h (I.ok.Uk L c) c λz=>I.ok.Kf L z c;exact#[k,#[L,_,hf,i,e,hd],f (λb a=>d b (by unfold lK;rw[i2,hf];exact ee _ a)) g]
 exact all _ (λ_ a=>a) I.ok.pI
theorem Inv.stack(I:Inv X pins U H s):s.heap.FunFrames X.base X.stack:=by
 obtain e|⟨e,hf⟩:=I.ok.ma
 .rw[e];exact I.pI
 .rw[e];obtain⟨m,a,_⟩:=I.loc;refine .cons (by rw[I.ok.kind];decide) hf a ?_ I.pI;exact tj (er I.ok.N6 I.ok.above)
theorem Inv.uG(I:Inv X pins U H s):∀b∈lK X.stack,b∈X.env.locals::X.fs:=λb a=>by
 obtain e|⟨e,hf⟩:=I.ok.ma
 .rw[e]at a;exact ee _ a
 .rw[e]at a;unfold lK at a;rw[i2,hf]at a;exact a
theorem Inv.pJ(I:Inv X pins U H s):∀b∈lK X.stack,H b=none:=λb a=>by
 obtain e|a:=d3.1 (I.uG b a)
 .rw[e];exact I.free
 .obtain⟨_,o,c,_⟩:=I.ok.pI.mem a;exact I.base.free b o c (I.ok.Uk b a) λz=>I.ok.Kf b z a
variable{t':Nat}
theorem Inv.step{g':Array GenState}{J:Drawn}{ch:BY}(I:Inv X pins U H s)
  (y:∀b∈ch,(b∈X.ex\/X.eh.heap.objs.size<=b)/\b≠X.env.locals/\(∀x c,X.env.cells.lookup x=some c->c≠b)/\∀p∈X.pn++pins,p.1≠b)
  (keep:∀b o,b≠X.env.locals->b∉X.fs->b∉ch->s.heap.get? b=some o->H b=none->h'.get? b=some o)
  (slot:∀b o,b≠X.env.locals->b∈X.fs->b∉ch->s.heap.get? b=some o->H b=none->∃sl,h'.get? b=some {o with slots:=sl}) (free:∀b o,b∉ch->s.heap.get? b=some o->H b=none->H' b=none)
  (there:∀b o,b∉ch->s.heap.get? b=some o->∃o',h'.get? b=some o')
  (mh:∀b xs,H b=some (.tup xs)->H' b=some (.tup xs)) (dO:∀b o u,H b=some (.d7 o u)->H' b=some (.d7 o u)) (mj:∀b ps,H b=some (.Ui ps)->∃more,H' b=some (.Ui (ps++more)))
  (ns:∀m,s.heap.Ns X.env.locals m->h'.Ns X.env.locals m) (bO:lY X.prog X.w H' h') (G:AllBare g') :
  Inv X pins U H' {s with heap:=h',gens:=g',drawn:=J,toks:=t'}:=by
 have t:∀b o,X.eh.heap.get? b=some o->b≠X.env.locals:=λb o e=>gh (hz (e4 e) I.ok.above);have g:∀b o,X.eh.heap.get? b=some o->b∉X.ex->b∉ch:=λb o e a h=>by
  rcases(y b h).1 with z|z
  .exact a z
  .exact absurd (hz (e4 e) z) (m4 _)
 have cellK:∀x c,X.env.cells.lookup x=some c->∀v,s.heap.IsCell c v->h'.IsCell c v:=λx c e v ⟨o,j,hd⟩=>by
  have f:c∉ch:=λz=>(y c z).2.2.1 x c e rfl;by_cases B:c∈X.fs
  .obtain⟨sl,q⟩:=slot c o (I.X4 x c e) B f j (I.iU x c e);exact#[_,q,hd]
  .exact#[o,keep c o (I.X4 x c e) B f j (I.iU x c e),hd]
 refine#[I.ok,I.os,G,#[λb o e n h a=>?_,λb o e n h a=>?_,λb o e n a=>?_,λb o e a=>?_,λb xs e=>mh b xs (I.base.mh b xs e),λb o xs e=>dO b o xs (I.base.dO b o xs e),λb ps e=>?_],?_,λx c e=>?_,?_,λx c e=>?_,λp hp=>?_,bO,I.len]
 .exact keep b o (t b o e) h (g b o e a) (I.base.keep b o e n h a) (I.base.free b o e n a)
 .obtain⟨sl,e1⟩:=I.base.slot b o e n h a;obtain⟨A,e2⟩:=slot b _ (t b o e) h (g b o e a) e1 (I.base.free b o e n a);exact#[A,e2]
 .obtain⟨o',e1⟩:=I.base.there b o e a;exact free b o' (g b o e a) e1 (I.base.free b o e n a)
 .obtain⟨o',e1⟩:=I.base.there b o e a;exact there b o' (g b o e a) e1
 .obtain⟨D,e1⟩:=I.base.mj b ps e;obtain⟨C,e2⟩:=mj b _ e1;exact#[D++C,by rw[e2,Array.append_assoc]]
 .obtain⟨m,E,F⟩:=I.loc;refine#[m,ns m E,λi x v e1 e2 e3=>?_];obtain⟨u,r,l⟩:=F i x v e1 e2 e3;refine#[u,r,?_];obtain l|⟨k,c,e,z⟩:=l
  .exact .inl l
  .exact .inr #[k,c,e,cellK x c e _ z]
 .obtain⟨v,z⟩:=I.cell x c e;exact#[v,cellK x c e v z]
 .obtain⟨m,⟨o,_,_,j,_⟩,_⟩:=I.loc;exact free _ o (λz=>(y _ z).2.1 rfl) j I.free
 .obtain⟨v,o,j,hd⟩:=I.cell x c e;exact free c o (λz=>(y c z).2.2.1 x c e rfl) j (I.iU x c e)
 .obtain⟨e,n,ne,nf,d⟩:=I.pin p hp;have f:p.1∉ch:=λz=>(y p.1 z).2.2.2 p hp rfl;exact#[keep p.1 p.2 ne nf f e n,free p.1 p.2 f e n,ne,nf,d]
theorem Inv.un(I:Inv X pins U H s)(u:Un X.fs [] H H' s.heap h')(bO:lY X.prog X.w H' h'):Inv X pins U H' {s with heap:=h',toks:=t'}:=by
 obtain⟨m,⟨o,es,ep,f,r⟩,_⟩:=id I.loc;obtain⟨sl,i⟩:=u.any f I.free WE;exact I.step (ch:=[]) (λ_ z=>nomatch z) (λb o _ a _ e n=>u.keep b o e n a WE) (λb o _ a _ e n=>u.slot b o e n a WE) (λb o _ e n=>u.free b o e n WE) (λb o _ e=>u.there b o e WE) u.mh u.dO u.mj (λj hm=>by
  obtain⟨o',c,d,g,h⟩:=hm;rw[f]at g;cases g;exact#[_,c,d,i,h]) bO I.bare
theorem Inv.call{g':Array GenState}{t:Drawn}{ch:BY}(I:Inv X pins U H s)(u:Un (lK X.stack) ch H H' s.heap h')(bO:lY X.prog X.w H' h')(l:AllBare g')
  (i:∀b∈ch,(b∈X.ex\/X.eh.heap.objs.size<=b)/\b≠X.env.locals/\(∀x c,X.env.cells.lookup x=some c->c≠b)/\∀p∈X.pn++pins,p.1≠b) :
  Inv X pins U H' {s with heap:=h',gens:=g',drawn:=t,toks:=t'}:=by
 obtain⟨m,⟨o,es,ep,h,r⟩,_⟩:=id I.loc;obtain⟨sl,d⟩:=u.any h I.free λz=>(i _ z).2.1 rfl;exact I.step i (λb o d q a e n=>u.keep b o e n (λz=>(d3.1 (I.uG b z)).elim d q) a) (λb o _ _ a e n=>u.any e n a) (λb o a e n=>u.free b o e n a) (λb o a e=>u.there b o e a) u.mh u.dO u.mj (λv hm=>by
  obtain⟨o',f,g,j,k⟩:=hm;rw[h]at j;cases j;exact#[_,f,g,d,k]) bO l
theorem Inv.turned{it:Addr}(I:Inv X pins U H s)(k:∀b o,b≠it->s.heap.get? b=some o->h'.get? b=some o)(l:H it=none)(f:it≠X.env.locals)
  (h1:it∈X.ex\/X.eh.heap.objs.size<=it) (j:∀x c,X.env.cells.lookup x=some c->c≠it) (i:∀p∈X.pn++pins,p.1≠it):Inv X pins U H {s with heap:=h',toks:=t'}:=by
 have d:∀b u,H b=some u->b≠it:=λb u e z=>by grind
 refine I.step (ch:=[it]) (λb h=>?_) (λb o _ _ a e _=>k b o (λz=>a (by simp[z])) e) (λb o _ _ a e _=>#[ _,k b o (λz=>a (by simp[z])) e]) (λ_ _ _ _ n=>n)
  (λb o a e=>#[o,k b o (λz=>a (by simp[z])) e]) (λ_ _ e=>e) (λ_ _ _ e=>e) (λb ps e=>#[#[],‹_› ]) (λm hm=>?_) (λb u e=>?_) I.bare
 .have e:=by simpa using h
  subst e;exact#[h1,f,j,i]
 .obtain⟨o,es,ep,g,r⟩:=hm;exact#[o,es,ep,k _ o (Ne.symm f) g,r]
 .refine(I.bO b u e).oK (λc v a q=>k c v ?_ q) (λ_ q=>q) λ_ _ q=>q;obtain z|z:=a
  .rw[z];exact d b u e
  .exact d c _ z
theorem Inv.tok(I:Inv X pins U H s)(t:Nat):Inv X pins U H {s with toks:=t}:=I.un Un.refl I.bO
theorem Inv.kept(I:Inv X pins U H s)(k:∀b u,s.heap.get? b=some u->h'.get? b=some u):Inv X pins U H {s with heap:=h',toks:=t'}:=I.un (Un.kept k) (I.bO.kept k)
theorem Inv.laid(I:Inv X pins U H s)(k:∀b u,s.heap.get? b=some u->h'.get? b=some u)(hp:s.heap.objs.size<=a)(new:eS X.prog X.w (upd H a o) h' a o) :
  Inv X pins U (upd H a o) {s with heap:=h',toks:=t'}:=I.un (Un.laid k hp (I.bO.fresh hp)) (I.bO.laid k hp new)
theorem Inv.write(I:Inv X pins U H s)(c:p7 (H x))(he:e=x\/H e=some (.own x))(k:∀b u,b≠e->s.heap.get? b=some u->h'.get? b=some u)(a:∃u,h'.get? e=some u)
  (new:eS X.prog X.w (upd H x o) h' x o):Inv X pins U (upd H x o) {s with heap:=h',toks:=t'}:=I.un (Un.write c he k a) (I.bO.write c he k a new)
theorem Inv.uc{a:At}(I:Inv X pins U H s)(h:∀p∈a,s.heap.get? p.1=some p.2/\H p.1=none/\p.1≠X.env.locals/\p.1∉X.fs/\∀v,p.2.data ≠ .cell v):Inv X a U H s:=
 #[I.ok,I.os,I.bare,I.base,I.loc,I.cell,I.free,I.iU,λp hp=>(eg.1 hp).elim (λz=>I.pin p (ft _ z)) (h p),I.bO,I.len]
variable{i:Nat}
def uH{N:AT}(c:N.Nodup){j:Nat}{x:Str}(a:N[i]? = some x)(b:N[j]? = some x):i=j:=by
 obtain⟨h1,e1⟩:=gz.1 a;obtain⟨d,e2⟩:=gz.1 b;exact(List.getElem_inj c).1 (e1.trans e2.symm)
abbrev _root_.Dx:=Unit->Shared->Prop
variable{M:Model}{A:Around}{E:BA}{v:V}{u:Value}{Q:Dx}
abbrev _root_.ET:=List Keyword
abbrev _root_.AB(X:Cx)(p:Pos)(e:Expr):Prop:=((backTo p (starEach [e] X.env)).all (λx=>!x.1)&&(backToKw p (keywordEach [] X.env)).all (λx=>x.1.isSome)&&decide ([e].length+([]:ET).length+(if ([]:ET).isEmpty then 0 else 1)<30))=true
abbrev _root_.CC:=List Expr
abbrev _root_.AC(X:Cx)(e:Expr)(es:CC):Prop:=starEach (e::es) X.env=(false,eval e X.env)::starEach es X.env
abbrev _root_.AD(x:Str):Prop:=(x==("__debug__":Str))=false
abbrev _root_.AE(x:Str):Prop:=(x==("__classdict__":Str))=false
abbrev _root_.AL(X:Cx)(p:Pos)(es:CC):Prop:=(backTo p (starEach es X.env)).any (·.1)=false
abbrev _root_.AM(X:Cx)(y:Str):Prop:=X.fn y=true\/X.env.scope.names.lookup y=some .local
abbrev _root_.AN(X:Cx)(e:Expr):Prop:=∀x,foldedSetIterable e X.env x=pure x
abbrev _root_.AR(X:Cx)(e d:Expr):Prop:=starEach [e,d] X.env=[(false,eval e X.env),(false,eval d X.env)]
abbrev _root_.AS(X:Cx)(e:Expr)(f:Str):Prop:=attributeBase e f X.env (eval e X.env)=eval e X.env
def Kg{x:Str}(I:Inv X pins U H s)(Y:X.N.Nodup)(hi:X.N[i]? = some x)(l:Loc X.env.scope x)(r:RelV v u)
  (h:∀s',Inv X pins (U.set i (some v)) H s'->(∃a,Heap.SameBut a s.heap s'.heap/\(a=X.env.locals\/X.env.cells.lookup x=some a))->Q () s') (hf:AM X x:=by first|exact .inl rfl|exact .inr rfl|assumption):wpAny M A (storeName X.env x u) Q E s:=by
 obtain⟨m,T,W⟩:=id I.loc;have Zv:(X.env.scope.kind == .class || (X.env.scope.kind == .module&&X.env.locals != X.env.globals))=false:=by rw[I.ok.kind];rfl
 have B:i<U.length:=by rw[I.len];exact(gz.1 hi).1
 have X4:=I.X4;have tracked:∀{a:Addr} {h':Heap},(∃o,s.heap.get? a=some o/\H a=none)->Heap.SameBut a s.heap h'->lY X.prog X.w H h':=λ{a h'} ha f b ob e=>by
  obtain⟨_,_,X5⟩:=ha;refine(I.bO b ob e).oK (λc K g q=>(f.2 c ?_).trans q) (λ_ q=>q) λ_ _ q=>q;rintro rfl;obtain rfl|g:=g
  .rw[X5]at e;cases e
  .rw[X5]at g;cases g
 obtain t|t:=l
 .refine wpAny_storeName_local t T (λh' S f=>?_) Zv;obtain⟨oL,_,_,R,_⟩:=id T;refine h _ #[I.ok,I.os,I.bare,#[λb o e n F l=>?_,λb o e n F l=>?_,I.base.free,λb o e l=>?_,I.base.mh,I.base.dO,I.base.mj],#[_,S,λj y v' e1 e2 e3=>?_],λy c e=>?_,I.free,I.iU,λp hp=>?_,tracked #[oL,R,I.free] f,by simpa using I.len] #[_,f,.inl rfl]
  .exact(f.2 b (gh (hz (e4 e) I.ok.above))).trans (I.base.keep b o e n F l)
  .obtain⟨sl,e1⟩:=I.base.slot b o e n F l;exact#[sl,(f.2 b (gh (hz (e4 e) I.ok.above))).trans e1]
  .obtain⟨o',e1⟩:=I.base.there b o e l;exact#[o',(f.2 b (gh (hz (e4 e) I.ok.above))).trans e1]
  .by_cases C:j=i
   .subst C;rw[hi]at e1;cases e1;rw[List.getElem?_set_self B]at e2;cases e2;exact#[u,r,.inl #[t,WE]]
   .rw[ti (Ne.symm C)]at e2;obtain⟨O,P,q⟩:=W j y v' e1 e2 e3;refine#[O,P,?_];obtain⟨k,e⟩|⟨k,c,e,z⟩:=q
    .refine .inl #[k,?_];have:y≠x:=λe=>C (uH Y e1 (e▸hi));simp[this,e]
    .exact .inr #[k,c,e,z.sameBut f (X4 y c e)]
  .obtain⟨K,z⟩:=I.cell y c e;exact#[K,z.sameBut f (X4 y c e)]
  .obtain⟨e,n,ne,nf,d⟩:=I.pin p hp;exact#[(f.2 p.1 ne).trans e,n,ne,nf,d]
 .have D:X.fn x=true:=by
   obtain z|z:=hf
   .exact z
   .rw[z]at t;cases t
  obtain⟨c,g⟩:=I.ok.has x (.inl t);obtain⟨K,z⟩:=I.cell x c g;refine wpAny_storeName_cell I.ok.kind t g z (λh' J f=>?_);obtain⟨oc,Z,V⟩:=id z;refine h {s with heap:=h'} #[I.ok,I.os,I.bare,#[λb o e n F l=>?_,λb o e n F l=>?_,I.base.free,λb o e l=>?_,I.base.mh,I.base.dO,I.base.mj],#[m,T.sameBut f (Ne.symm (X4 x c g)),λj y v' e1 e2 e3=>?_],λy L e=>?_,I.free,I.iU,λp hp=>?_,tracked #[oc,Z,I.iU x c g] f,by simpa using I.len] #[c,f,.inr g]
  .exact(f.2 b (gh (hz (e4 e) (I.ok.Zu x c D g)))).trans (I.base.keep b o e n F l)
  .obtain⟨sl,e1⟩:=I.base.slot b o e n F l;exact#[sl,(f.2 b (gh (hz (e4 e) (I.ok.Zu x c D g)))).trans e1]
  .obtain⟨o',e1⟩:=I.base.there b o e l;exact#[o',(f.2 b (gh (hz (e4 e) (I.ok.Zu x c D g)))).trans e1]
  .by_cases C:j=i
   .subst C;rw[hi]at e1;cases e1;rw[List.getElem?_set_self B]at e2;cases e2;exact#[u,r,.inr #[.inl t,c,g,J]]
   .rw[ti (Ne.symm C)]at e2;obtain⟨O,P,q⟩:=W j y v' e1 e2 e3;refine#[O,P,?_];obtain q|⟨k,L,e,z'⟩:=q
    .exact .inl q
    .refine .inr #[k,L,e,z'.sameBut f ?_];rintro rfl;exact C (uH Y e1 (I.ok.inj _ _ _ e g▸hi))
  .by_cases G:L=c
   .subst G;exact#[_,J]
   .obtain⟨w2,z2⟩:=I.cell y L e;exact#[w2,z2.sameBut f G]
  .obtain⟨e,n,ne,nf,d⟩:=I.pin p hp;refine#[(f.2 p.1 ?_).trans e,n,ne,nf,d];intro q;rw[q,Z]at e;have q':oc=p.2:=e5 e;exact d K (by rw[<- q'];exact V)
def pK{x:Str}(I:Inv X pins U H s)(b:X.N.Nodup)(hi:X.N[i]? = some x)(a:Loc X.env.scope x)(r:RelV v u)
  (h:∀s',Inv X pins (U.set i (some v)) H s'->Q () s') (hf:AM X x:=by first|exact .inl rfl|exact .inr rfl|assumption):wpAny M A (storeName X.env x u) Q E s:=
 Kg I b hi a r (λs' c _=>h s' c) hf
theorem Inv.X7{s':Shared}{ch:BY}(I:Inv X pins U H s)(a:s'.os=s.os)(u:Un (lK X.stack) ch H H' s.heap s'.heap)(bO:lY X.prog X.w H' s'.heap)(d:AllBare s'.gens)
  (f:∀b∈ch,(b∈X.ex\/X.eh.heap.objs.size<=b)/\b≠X.env.locals/\(∀x c,X.env.cells.lookup x=some c->c≠b)/\∀p∈X.pn++pins,p.1≠b):Inv X pins U H' s':=by
 obtain⟨h',g',g,t',o'⟩:=s';have e:=a;subst e;exact I.call u bO d f
abbrev _root_.B2:=Option Addr
abbrev XK:=Value->B2->Hp->Prop
abbrev St:=List (Option V)
abbrev VK:=V->Hp->Prop
abbrev TE:=St->Hp->VK->Prop
abbrev _root_.EQ:=Bool->Hp->Prop
abbrev TT:=St->Hp->EQ->Prop
abbrev _root_.EN:=BS->Hp->Prop
abbrev TA:=St->Hp->EN->Prop
structure Ends where
 nx:St->Hp->Prop
 rt:VK
 bk:St->Hp->Prop:=λ_ _=>False
 ct:St->Hp->Prop:=λ_ _=>False
abbrev TS:=Ends->St->Hp->Prop
def EP(X:Cx)(pins:At)(U:St)(Q:VK)(u:Value)(s':Shared):Prop:=∃v H',Inv X pins U H' s'/\RelV v u/\Q v H'
def TP(X:Cx)(pins:At)(U:St)(Q:EQ)(b:Bool)(s':Shared):Prop:=∃H',Inv X pins U H' s'/\Q b H'
def AP(X:Cx)(pins:At)(U:St)(Q:EN)(us:B0)(s':Shared):Prop:=∃vs H',Inv X pins U H' s'/\Vals vs us/\Q vs H'
def SP(X:Cx)(pins:At)(D:Ends)(f:Flow)(s':Shared):Prop:=
 match f with
 | .next=>∃U' H',Inv X pins U' H' s'/\D.nx U' H'
 | .brk=>∃U' H',Inv X pins U' H' s'/\D.bk U' H'
 | .cont=>∃U' H',Inv X pins U' H' s'/\D.ct U' H'
 | .ret u=>∃v U' H',Inv X pins U' H' s'/\RelV v u/\D.rt v H'
def PE(X:Cx)(e:Expr)(t:TE):Prop:=
 ∀(pins:At) (s:Shared) (U:St) (H:Hp) (Q:VK),Inv X pins U H s->t U H Q->wpAny (model X.prog X.w) X.A (eval e X.env) (EP X pins U Q) X.xe s
def PT(X:Cx)(e:Expr)(t:TT):Prop:=
 ∀(pins:At) (s:Shared) (U:St) (H:Hp) (Q:EQ),Inv X pins U H s->t U H Q->wpAny (model X.prog X.w) X.A (isTrue e X.env (eval e X.env)) (TP X pins U Q) X.xe s
def PW(X:Cx)(e:Expr)(t:TT):Prop:=
 ∀(whole:Sem Value) (pins:At) (s:Shared) (U:St) (H:Hp) (Q:EQ),Inv X pins U H s->t U H Q->wpAny (model X.prog X.w) X.A (isTrue e X.env whole) (TP X pins U Q) X.xe s
def PA(X:Cx)(es:CC)(t:TA):Prop:=
 ∀(pos:Pos) (pins:At) (s:Shared) (U:St) (H:Hp) (Q:EN),Inv X pins U H s->t U H Q->wpAny (model X.prog X.w) X.A (spliced (backTo pos (starEach es X.env))) (AP X pins U Q) X.xe s
def PS(X:Cx)(st:Stmt)(t:TS):Prop:=
 ∀(pins:At) (s:Shared) (U:St) (H:Hp) (D:Ends),Inv X pins U H s->t D U H->wpAny (model X.prog X.w) X.A (exec st X.env) (SP X pins D) X.xe s
abbrev _root_.CO:=List Stmt
def Hv(X:Cx)(st:CO)(t:TS):Prop:=
 ∀(pins:At) (s:Shared) (U:St) (H:Hp) (D:Ends),Inv X pins U H s->t D U H->wpAny (model X.prog X.w) X.A (execs st X.env) (SP X pins D) X.xe s
noncomputable def cJ{α:Type}{t:Sem α}{Q b:α->Shared->Prop}(h:wpAny M A t Q E s)(c:∀a s,Q a s->b a s):wpAny M A t b E s:=gr h c λ_ _ x=>x
section
noncomputable def LS(i:Nat):TE:=λU H Q=>∃v,U[i]? = some (some v)/\Q v H
def tC(v:V):TE:=λ_ H Q=>Q v H
def jS{x:Str}{pos:Pos}(j:X.N[i]? = some x)(hv:N5 X.env.scope x)(hd:AD x:=by decide)(gX:AE x:=by decide):PE X (.Name x pos) (LS i):=by
 intro pins s U H Q I h;obtain⟨v,e,h⟩:=h;obtain⟨m,f,g⟩:=I.loc;obtain⟨u,r,l⟩:=g i x v j e hv;have fin:EP X pins U Q u s:=#[v,H,I,r,h];obtain⟨a,hm⟩|⟨a,c,d,b⟩:=l
 .exact wpAny_Name (wpAny_loadName_local I.ok.kind a f hm fin) hd
 .obtain a|a:=a
  .exact wpAny_Name (wpAny_loadName_cell I.ok.kind a d b fin) hd
  .exact wpAny_Name (wpAny_loadName_free I.ok.kind a d b fin gX) hd
noncomputable def Zw{i j pos}:PE X (.Constant (.int i) j pos) (tC (.int i)):=λ_ _ _ H _ I h=>wpAny_Constant_int #[.int i,H,I.tok _,#[_,rfl],h]
noncomputable def O0{b j pos}:PE X (.Constant (.bool b) j pos) (tC (.bl b)):=λ_ _ _ H _ I h=>Constant_bool #[.bl b,H,I,rfl,h]
noncomputable def Zx{j pos}:PE X (.Constant .none j pos) (tC .non):=λ_ _ _ H _ I h=>Constant_none #[.non,H,I,rfl,h]
noncomputable def Zy{x j pos}:PE X (.Constant (.str x) j pos) (tC (.str x)):=λ_ _ _ H _ I h=>Calls.Constant_str #[.str x,H,I.tok _,#[_,rfl],h]
def Gl(X:Cx)(x:Str):Prop:=X.env.kindOf x=some .globalImplicit
def gE{U:St}{x:Str}{pos:Pos}{Q:BA}(I:Inv X pins U H s)(a:Gl X x)(hm:X.mg x=some u)(h:Q u s)
  (hd:AD x:=by decide):wpAny (model X.prog X.w) X.A (eval (.Name x pos) X.env) Q E s:=
 Calls.Name_function_global I.ok.kind a (Calls.loadGlobal_global (I.ok.glob▸I.mod.glob.keeps I.bk) hm h) hd
def oM{U:St}{x:Str}{pos:Pos}{Q:BA}(I:Inv X pins U H s)(b:Gl X x)(hm:X.mg x=none)(hv:bootBuiltins x=some u)(h:Q u s)
  (a:x≠"__name__":=by decide) (hd:AD x:=by decide):wpAny (model X.prog X.w) X.A (eval (.Name x pos) X.env) Q E s:=by
 obtain⟨mb,h1,c⟩:=I.mod.blt;exact Calls.Name_function_global I.ok.kind b (Calls.loadGlobal_builtin (I.ok.glob▸I.mod.glob.keeps I.bk) hm (I.ok.blt▸h1.keeps I.bk) ((c x a).trans hv) h) hd
def ud{x:Str}{pos:Pos}(a:Gl X x)(hm:X.mg x=some u)(r:RelV v u)(hd:AD x:=by decide):PE X (.Name x pos) (tC v):=
 λ_ _ _ H _ I h=>gE I a hm #[v,H,I,r,h] hd
def Hw{x:Str}{pos:Pos}(b:Gl X x)(hm:X.mg x=none)(hv:bootBuiltins x=some u)(r:RelV v u)(a:x≠"__name__":=by decide)(hd:AD x:=by decide):PE X (.Name x pos) (tC v):=
 λ_ _ _ H _ I h=>oM I b hm hv #[v,H,I,r,h] a hd
variable{a b:Expr}{ta tb:TE}{pos:Pos}
def PC(X:Cx)(op:CmpOp)(a b:Expr)(t:TE):Prop:=
 ∀(pins:At) (s:Shared) (U:St) (H:Hp) (Q:VK),Inv X pins U H s->t U H Q →
  wpAny (model X.prog X.w) X.A (eval a X.env) (λv d=>wpAny (model X.prog X.w) X.A (eval b X.env) (λu c=>wpAny (model X.prog X.w) X.A (compareOp op v u) (EP X pins U Q) X.xe c) X.xe d) X.xe s
theorem BW(b:Expr){op:CmpOp}(h:op ≠ .In)(a:op ≠ .NotIn):behindInMarks op b=false:=by
 have e1:(op==CmpOp.In)=false:=by grind
 have e2:(op==CmpOp.NotIn)=false:=by grind
 cases b<;>simp[behindInMarks,e1,e2]
noncomputable def LP(ta:TE):TE:=λU H Q=>ta U H λx H1=>Q (.bl (decide (x=.non))) H1
theorem RelV.N7{x:V}{v:Value}(r:RelV x v):(v==Value.none)=decide (x=.non):=by
 cases x with
 | non=>cases r;rfl
 | bl _=>cases r;rfl
 | int _=>obtain⟨t,rfl⟩:=r;rfl
 | str _=>obtain⟨t,rfl⟩:=r;rfl
 | Et _=>obtain⟨t,rfl⟩:=r;rfl
 | flt _=>obtain⟨t,rfl⟩:=r;rfl
 | ref _=>cases r;rfl
 | ty _=>cases r;rfl
def zy{j pos'}(d:PE X a ta):PC X .Is a (.Constant .none j pos') (LP ta):=by
 intro pins s U H Q I h;refine cJ (d pins s U H _ I h) λv s1 zz=>?_;obtain⟨x,H1,e,b,c⟩:=zz;exact Constant_none (is_none_gen #[.bl _,H1,e,by rw[b.N7];rfl,c])
noncomputable def tB(t:TE):TT:=λU H Q=>t U H λx H1=>∃c,x=.bl c/\Q c H1
def Ew{op:CmpOp}{t:TE}(h:PC X op a b t)(h1:behindInMarks op b=false:=by first|exact BW _ WA WA|rfl):PE X (.Compare a [op] [b] pos) t:=λpins s U H Q I hw=>wpAny_Compare1 (h pins s U H Q I hw) h1
def zA{op:CmpOp}{t:TE}(h:PC X op a b t)(h1:behindInMarks op b=false:=by first|exact BW _ WA WA|rfl):PT X (.Compare a [op] [b] pos) (tB t):=by
 intro pins s U H Q I hw;refine wpAny_isTrue_Compare1 (cJ (h pins s U H _ I hw) λv s1 h1=>cJ h1 λu s2 g=>cJ g λc s3 zz=>?_) h1;obtain⟨x,H1,i,e,f⟩:=zz;obtain⟨d,rfl,q⟩:=f;cases e;exact ir #[H1,i,q]
def Zz{e:Expr}{t:TE}(h:PE X e t)(he:∀whole,isTrue e X.env whole=(do let v ← whole;standAt e.pos;holding [v] (truthy v)):=by intro _;rfl):PT X e (tB t):=by
 intro pins s U H Q I hw;refine isTrue_plain (cJ (h pins s U H _ I hw) λv s1 zz=>?_) (he _);obtain⟨x,H1,c,a,b⟩:=zz;obtain⟨d,rfl,q⟩:=b;cases a;exact ir #[H1,c,q]
variable{tA tB':TT}{rest:CC}
noncomputable def LO(t u:TT):TT:=λU H Q=>t U H λc H1=>if c=true then u U H1 Q else Q false H1
noncomputable def Hd(t u:TT):TT:=λU H Q=>t U H λc H1=>if c=true then Q true H1 else u U H1 Q
noncomputable def LM(t:TT):TT:=λU H Q=>t U H λc H1=>Q (!c) H1
theorem UD(b:PT X a tA):PW X (.BoolOp .And [a] pos) tA:=by
 intro d pins s U H Q I h;refine isTrue_and (cJ (b pins s U H Q I h) λc s1 e=>?_);cases c with
 | true=>exact isTrue_and_nil e
 | false=>exact e
theorem ZC(b:PT X a tA):PW X (.BoolOp .Or [a] pos) tA:=by
 intro d pins s U H Q I h;refine isTrue_or (cJ (b pins s U H Q I h) λc s1 e=>?_);cases c with
 | false=>exact isTrue_or_nil e
 | true=>exact e
theorem ZD(i:PT X a tA)(g:PW X (.BoolOp .And (b::rest) pos) tB'):PW X (.BoolOp .And (a::b::rest) pos) (LO tA tB'):=by
 intro f pins s U H Q I h;refine isTrue_and (cJ (i pins s U H _ I h) λc s1 zz=>?_);obtain⟨H1,e,d⟩:=zz;cases c with
 | true=>exact g f pins s1 U H1 Q e d
 | false=>exact#[H1,e,d]
theorem OT(i:PT X a tA)(g:PW X (.BoolOp .Or (b::rest) pos) tB'):PW X (.BoolOp .Or (a::b::rest) pos) (Hd tA tB'):=by
 intro f pins s U H Q I h;refine isTrue_or (cJ (i pins s U H _ I h) λc s1 zz=>?_);obtain⟨H1,e,d⟩:=zz;cases c with
 | true=>exact#[H1,e,d]
 | false=>exact g f pins s1 U H1 Q e d
noncomputable def ZE(b:PT X a tA):PT X (.UnaryOp .Not a pos) (LM tA):=λpins s U H Q I h=>isTrue_not (b pins s U H _ I h)
noncomputable def OR(ta tb:TE):TE:=λU H Q=>ta U H λx H1=>∃c,x=.bl c/\if c=true then tb U H1 Q else Q (.bl false) H1
noncomputable def LL(ta tb:TE):TE:=λU H Q=>ta U H λx H1=>∃c,x=.bl c/\if c=true then Q (.bl true) H1 else tb U H1 Q
noncomputable def OP(ta:TE):TE:=λU H Q=>ta U H λx H1=>∃c,x=.bl c/\Q (.bl (!c)) H1
noncomputable def ZF{op}{t:TE}(h:PE X a t):PE X (.BoolOp op [a] pos) t:=λpins s U H Q I hw=>BoolOp_one (h pins s U H Q I hw)
theorem ZG(i:PE X a ta)(g:PE X (.BoolOp .And (b::rest) pos) tb):PE X (.BoolOp .And (a::b::rest) pos) (OR ta tb):=by
 intro pins s U H Q I h;refine BoolOp_and (cJ (i pins s U H _ I h) λv s1 zz=>?_);obtain⟨x,H1,e,f,d⟩:=zz;obtain⟨c,rfl,d⟩:=d;cases f;refine ir ?_;cases c with
 | true=>exact g pins s1 U H1 Q e d
 | false=>exact#[.bl _,H1,e,rfl,d]
theorem ON(i:PE X a ta)(g:PE X (.BoolOp .Or (b::rest) pos) tb):PE X (.BoolOp .Or (a::b::rest) pos) (LL ta tb):=by
 intro pins s U H Q I h;refine BoolOp_or (cJ (i pins s U H _ I h) λv s1 zz=>?_);obtain⟨x,H1,e,f,d⟩:=zz;obtain⟨c,rfl,d⟩:=d;cases f;refine ir ?_;cases c with
 | false=>exact g pins s1 U H1 Q e d
 | true=>exact#[.bl true,H1,e,rfl,d]
def ZH(e:PE X a ta):PE X (.UnaryOp .Not a pos) (OP ta):=by
 intro pins s U H Q I h;refine UnaryOp_ (cJ (e pins s U H _ I h) λv s1 zz=>?_);obtain⟨x,H1,f,d,b⟩:=zz;obtain⟨c,rfl,b⟩:=b;cases d;exact not_of (ir #[.bl (!c),H1,f,rfl,b])
noncomputable def He(t:TT)(ta tb:TE):TE:=λU H Q=>t U H λc H1=>if c=true then ta U H1 Q else tb U H1 Q
theorem N8{c:Expr}(g:PT X c tA)(j:PE X a ta)(i:PE X b tb):PE X (.IfExp c a b pos) (He tA ta tb):=by
 intro pins s U H Q I h;refine wpAny_IfExp (cJ (g pins s U H _ I h) λd s1 zz=>?_);obtain⟨H1,f,e⟩:=zz;cases d with
 | true=>exact j pins s1 U H1 Q f e
 | false=>exact i pins s1 U H1 Q f e
end
def lM(K:Frag)(H:Hp)(a:Addr)(xs:BS):Prop:=
 Rd H a (.lst xs) ∨
  ∃(o:Obj) (its:Db) (n:Nat),K.lookup a=some o/\o.cls=.type "list" /\ o.dict=none/\o.data=.seq its n/\its.size<=sizeLine/\Vals xs its.toList
def lN(K:Frag)(H:Hp)(a:Addr)(xs:BS):Prop:=
 Rd H a (.tup xs) ∨
  ∃(o:Obj) (its:Db) (n:Nat),K.lookup a=some o/\o.cls=.type "tuple" /\ o.data=.seq its n/\its.size<=sizeLine/\Vals xs its.toList
noncomputable def LI:Value->Option V
 | .none=>some .non
 | .bool b=>some (.bl b)
 | .int i _=>some (.int i)
 | .str x _ => some (.str x)
 | .bytes b _=>some (.Et b)
 | .float b _=>some (.flt b)
 | .ref a=>some (.ref a)
 | .type n=>some (.ty n)
 | _=>none
theorem RelV.abs{x:V}(r:RelV x u):LI u=some x:=by
 cases x with
 | non=>cases r;rfl
 | bl _=>cases r;rfl
 | int _=>obtain⟨t,rfl⟩:=r;rfl
 | str _=>obtain⟨t,rfl⟩:=r;rfl
 | Et _=>obtain⟨t,rfl⟩:=r;rfl
 | flt _=>obtain⟨t,rfl⟩:=r;rfl
 | ref _=>cases r;rfl
 | ty _=>cases r;rfl
theorem RelV.inj{x y:V}(r:RelV x u)(q:RelV y u):x=y:=e5 (r.abs.symm.trans q.abs)
theorem Vals.inj{ys:BS}(h:Vals xs us)(q:Vals ys us):xs=ys:=by
 induction h generalizing ys with
 | nil=>cases q;rfl
 | cons r _ i=>cases q with
  | cons a t'=>rw[r.inj a,i t']
variable{U:St}{ys:BS}{K:Frag}
theorem lM.of(h:H a=some (.lst xs)):lM K H a xs:=.inl (.inl h)
theorem lN.of(h:H a=some (.tup xs)):lN K H a xs:=.inl (.inl h)
theorem Inv.list(I:Inv X pins U H s)(h:lM X.K H a xs):∃its:B0,Vals xs its/\PlainL s.heap a its.toArray/\xs.length<=sizeLine:=by
 obtain h|⟨o,its,n,b,c,hd,f,d,r⟩:=h
 .obtain⟨z,its,n,r,e⟩:=h.ok I.bO;exact#[its,r,#[_,n,e,rfl,rfl,rfl],z]
 .refine#[ _,r,#[o,n,I.j7 a o b,c,hd,‹_› ],?_];have e:=r.length;grind
theorem Inv.tuple(I:Inv X pins U H s)(h:lN X.K H a xs):∃its:B0,Vals xs its/\IsTup s.heap a its.toArray/\xs.length<=sizeLine:=by
 obtain h|⟨o,its,n,b,c,f,d,r⟩:=h
 .obtain⟨z,its,r,p⟩:=h.ok I.bO;exact#[its,r,p,z]
 .refine#[ _,r,#[o,I.j7 a o b,c,n,‹_› ],?_];have e:=r.length;grind
theorem Inv.BX(I:Inv X pins U H s)(h:lM X.K H a xs)(h':lM X.K H a ys):xs=ys:=by
 obtain⟨its,r,⟨o,n,e,_,_,d⟩,_⟩:=I.list h;obtain⟨g,f,⟨o',i,b,_,_,c⟩,_⟩:=I.list h';rw[e]at b;cases b;rw[d]at c;injection c with d1 _;have:its=g:=by simp_all
 subst this;exact r.inj f
theorem Inv.Kh(I:Inv X pins U H s)(h:lN X.K H a xs)(h':lN X.K H a ys):xs=ys:=by
 obtain⟨its,r,⟨o,e,_,n,d⟩,_⟩:=I.tuple h;obtain⟨g,f,⟨o',b,_,i,c⟩,_⟩:=I.tuple h';rw[e]at b;cases b;rw[d]at c;injection c with d1 _;have:its=g:=by simp_all
 subst this;exact r.inj f
abbrev Cx.d0(X:Cx)(E:BA):Cx:={X with xe:=E}
abbrev Cx.Ul(X:Cx):Cx:=X.d0 λ_ _=>False
theorem Cx.Ok.d0(ok:X.Ok)(E:BA):(X.d0 E).Ok:=
 #[ok.mod,ok.kind,ok.glob,ok.blt,ok.above,ok.inj,ok.has,ok.Zu,ok.hd,ok.frames,ok.ma,ok.r8,ok.bs,ok.N6,ok.Eu,ok.Kf,ok.pI,ok.Uk]
theorem Cx.Ok.c6(ok:(X.d0 E).Ok):X.Ok:=
 #[ok.mod,ok.kind,ok.glob,ok.blt,ok.above,ok.inj,ok.has,ok.Zu,ok.hd,ok.frames,ok.ma,ok.r8,ok.bs,ok.N6,ok.Eu,ok.Kf,ok.pI,ok.Uk]
theorem Inv.d0(I:Inv X pins U H s)(E:BA):Inv (X.d0 E) pins U H s:=#[I.ok.d0 E,I.os,I.bare,I.base,I.loc,I.cell,I.free,I.iU,I.pin,I.bO,I.len]
theorem Inv.c6(I:Inv (X.d0 E) pins U H s):Inv X pins U H s:=#[I.ok.c6,I.os,I.bare,I.base,I.loc,I.cell,I.free,I.iU,I.pin,I.bO,I.len]
theorem SP.c6{D:Ends}{f:Flow}{s':Shared}(h:SP (X.d0 E) pins D f s'):SP X pins D f s':=by
 cases f with
 | next=>obtain⟨U',H',I,q⟩:=h;exact#[U',H',I.c6,q]
 | brk=>obtain⟨U',H',I,q⟩:=h;exact#[U',H',I.c6,q]
 | cont=>obtain⟨U',H',I,q⟩:=h;exact#[U',H',I.c6,q]
 | ret u=>obtain⟨v,U',H',I,r,q⟩:=h;exact#[v,U',H',I.c6,r,q]
theorem Hv.Ul{st:CO}{t:TS}(h:Hv X.Ul st t):Hv X st t:=λpins s U H D I hw=>
 gr (h pins s U H D (I.d0 _) hw) (λ_ _ q=>q.c6) λ_ _ z=>False.elim z
section
variable{st:Stmt}{rest:CO}{t u:TS}{e:Expr}{te:TE}{pos:Pos}
noncomputable def OM:TS:=λD U H=>D.nx U H
def LH(t u:TS):TS:=λD U H=>t {D with nx:=u D} U H
noncomputable def Hx:Hv X [] OM:=λ_ _ U H _ I h=>wpAny_execs_nil #[U,H,I,h]
theorem pL(h1:PS X st t)(a:Hv X rest u):Hv X (st::rest) (LH t u):=by
 intro pins s U H D I h;refine wpAny_execs_cons (cJ (h1 pins s U H _ I h) λf s1 q=>?_);cases f with
 | next=>
  obtain⟨U',H',b,q⟩:=q;exact a pins s1 U' H' D b q
 | ret v=>exact q
 | brk=>exact q
 | cont=>exact q
theorem Inv.quiet(I:Inv X pins U H s):interactive X.env=false:=by simp[interactive,I.ok.kind]
noncomputable def OK(te:TE):TS:=λD U H=>te U H λ_ H1=>D.nx U H1
def pM(he:PE X e te)(b:swapsWith e none pos.line X.env=pure false:=by rfl):PS X (.Expr e pos) (OK te):=λpins s U H D I h=>wpAny_Expr_any (cJ (he pins s U H _ I h) λv s1 ⟨x,H1,c,d,a⟩=>#[U,H1,c,a]) I.quiet b
noncomputable def LG(te:TE):TS:=λD U H=>te U H D.rt
def Ez(he:PE X e te):PS X (.Return (some e) pos) (LG te):=λpins s U H D I h=>wpAny_Return_some (cJ (he pins s U H _ I h) λv s1 ⟨x,H1,c,a,b⟩=>#[x,U,H1,c,a,b])
noncomputable def LF(c:TT)(t u:TS):TS:=λD U H=>c U H λb H1=>if b=true then t D U H1 else u D U H1
theorem OH{c:Expr}{a b:CO}{tc:TT}(g:PT X c tc)(j:Hv X a t)(i:Hv X b u):PS X (.If c a b pos) (LF tc t u):=by
 intro pins s U H D I h;refine wpAny_If (cJ (g pins s U H _ I h) λd s1 zz=>?_);obtain⟨H1,f,e⟩:=zz;cases d with
 | true=>exact j pins s1 U H1 D f e
 | false=>exact i pins s1 U H1 D f e
end
abbrev TG:=V->St->Hp->(St->Hp->Prop)->Prop
abbrev ZI:=BS->St->Hp->(St->Hp->Prop)->Prop
def PG(X:Cx)(target:Expr)(t:TG):Prop:=
 ∀(pins:At) (s:Shared) (U:St) (H:Hp) (v:V) (u:Value) (Q:St->Hp->Prop),Inv X pins U H s->RelV v u->t v U H Q →
  wpAny (model X.prog X.w) X.A (assign target X.env u) (λ_ s'=>∃U' H',Inv X pins U' H' s'/\Q U' H') X.xe s
def u5(X:Cx)(ts:CC)(t:ZI):Prop:=
 ∀(pins:At) (s:Shared) (U:St) (H:Hp) (vs:BS) (us:B0) (Q:St->Hp->Prop),Inv X pins U H s->Vals vs us->t vs U H Q →
  wpAny (model X.prog X.w) X.A (assignInOrder ((assignEach ts X.env).map (·.2)) us) (λ_ s'=>∃U' H',Inv X pins U' H' s'/\Q U' H') X.xe s
abbrev u4:=V->V->Hp->VK->Prop
def FK(X:Cx)(op:Operator)(t:u4):Prop:=
 ∀(pins:At) (s:Shared) (U:St) (H:Hp) (x y:V) (v u:Value) (Q:VK),Inv X pins U H s->RelV x v->RelV y u->t x y H Q →
  wpAny (model X.prog X.w) X.A (inplaceOp op v u) (EP X pins U Q) X.xe s
variable{pos:Pos}
noncomputable def Hy(i:Nat):TG:=λv U H Q=>Q (U.set i (some v)) H
def uf{x:Str}(b:X.N.Nodup)(hi:X.N[i]? = some x)(a:Loc X.env.scope x)(hf:AM X x:=by first|exact .inl rfl|exact .inr rfl|assumption):PG X (.Name x pos) (Hy i):=λpins s U H v u Q I r h=>wpAny_assign_Name (pK I b hi a r (λs' c=>#[_,H,c,h]) hf)
noncomputable def Em:ZI:=λvs U H Q=>vs=[]/\Q U H
noncomputable def N9(t:TG)(u:ZI):ZI:=λvs U H Q=>∃v r,vs=v::r/\t v U H λU' H'=>u r U' H' Q
def UE:u5 X [] Em:=by
 intro pins s U H vs us Q I r h;obtain⟨e,h⟩:=h;exact assignInOrder_nil #[U,H,I,h]
variable{es:CC}
def BZ{e:Expr}{t:TG}{u:ZI}(h1:PG X e t)(f:u5 X es u)
  (d:(assignEach (e::es) X.env).map (·.2)=assign e X.env::(assignEach es X.env).map (·.2):=by rfl):u5 X (e::es) (N9 t u):=by
 intro pins s U H vs us Q I r h;obtain⟨v,i,e1,h⟩:=h;subst e1;cases r with
 | cons r b=>
  rw[d];refine assignInOrder_cons (cJ (h1 pins s U H _ _ _ I r h) λ_ s1 zz=>?_);obtain⟨a,H1,g,c⟩:=zz;exact f pins s1 a H1 _ _ Q g b c
noncomputable def Dj(K:Frag)(n:Nat)(t:ZI):TG:=λv U H Q=>∃a xs,v=.ref a/\lN K H a xs/\xs.length=n/\t xs U H Q
variable{k:Nat}
def ZJ{t:ZI}{n:Nat}(m:X.calm=true)(h:u5 X es t)
  (j:(assignEach es X.env).length=n:=by rfl) (d:(assignEach es X.env).findIdx? (·.1)=none:=by rfl):PG X (.Tuple es k pos) (Dj X.K n t):=by
 intro pins s U H v u Q I r hw;obtain⟨a,xs,e1,i,l,hw⟩:=hw;subst e1;cases r;obtain⟨its,c,g,q⟩:=I.tuple i;refine assign_Tuple_tuple (I.ok.hd m) g (by simp[j,<- l,c.length]) d λh' f=>?_;have p:=I.kept (t':=s.toks) λb o e=>f b o (gh (e4 e)) e;exact h pins _ U H xs _ Q p (‹_›) hw
noncomputable def LB(te:TE)(g:TG):TS:=λD U H=>te U H λx H1=>g x U H1 D.nx
variable{te:TE}
def Oa{x:Str}{e:Expr}{pos':Pos}(f:X.N.Nodup)(hi:X.N[i]? = some x)(c:Loc X.env.scope x)(he:PE X e te)(d:swapsWith e (some (.Name x pos')) pos.line X.env=pure false:=by rfl)(hf:AM X x:=by first|exact .inl rfl|exact .inr rfl|assumption) :
  PS X (.Assign [.Name x pos'] e pos) (LB te (Hy i)):=by
 intro pins s U H D I h;refine wpAny_Assign_Name (cJ (he pins s U H _ I h) λv s1 zz=>?_) d;obtain⟨y,H1,j,a,b⟩:=zz;exact pK j f hi c a (λs2 g=>#[_,H1,g,b]) hf
noncomputable def LA(i:Nat)(te:TE)(a:u4):TS:=λD U H=>∃x,U[i]? = some (some x)/\te U H λy H1=>a x y H1 λz H2=>D.nx (U.set i (some z)) H2
theorem ZK{x:Str}{e:Expr}{op:Operator}{j:u4}{pos':Pos}(G:X.N.Nodup)(hi:X.N[i]? = some x)(g:Loc X.env.scope x)(he:PE X e te)(B:FK X op j)(hf:AM X x:=by first|exact .inl rfl|exact .inr rfl|assumption) :
  PS X (.AugAssign (.Name x pos') op e pos) (LA i te j):=by
 intro pins s U H D I h;obtain⟨v,e1,h⟩:=h;obtain⟨m,C,E⟩:=I.loc;have f:N5 X.env.scope x:=by obtain k|k:=g;exact .inl k;exact .inr (.inl k)
 obtain⟨u,r,l⟩:=E i x v hi e1 f;refine wpAny_AugAssign_Name ?_;have go:wpAny (model X.prog X.w) X.A (eval e X.env) (λw d=>wpAny (model X.prog X.w) X.A (inplaceOp op u w) (λr b=>wpAny (model X.prog X.w) X.A (storeName X.env x r) (λ_=>SP X pins D .next) X.xe b) X.xe d) X.xe s:=by
  refine cJ (he pins s U H _ I h) λw s1 zz=>?_;obtain⟨y,H1,L,p,t⟩:=zz;refine cJ (B pins s1 U H1 v y u w _ L r p t) λz s2 zz=>?_;obtain⟨M,H2,K,o,q⟩:=zz;exact pK K G hi g o (λs3 J=>#[_,H2,J,q]) hf
 obtain⟨a,hm⟩|⟨a,c,F,n⟩:=l
 .exact wpAny_loadName_local I.ok.kind a C hm go
 .obtain a|a:=a
  .exact wpAny_loadName_cell I.ok.kind a F n go
  .obtain k|k:=g
   .have:X.env.scope.names.lookup x=some _:=a;simp_all
   .have:X.env.scope.names.lookup x=some _:=a;simp_all
noncomputable def HY(f:Int->Int->Int):u4:=λx y H Q=>∃i j,x=.int i/\y=.int j/\Q (.int (f i j)) H
def ZL:FK X .Add (HY λi j=>i+j):=by
 intro pins s U H x y v u Q I b a h;obtain⟨i,j,e1,e2,q⟩:=h;subst e1;subst e2;obtain⟨t,rfl⟩:=b;obtain⟨t',rfl⟩:=a;exact iadd_int #[.int _,H,I.tok _,#[_,rfl],q]
def ZM(c:TT)(tb:TS):TS:=λD U H=>∃W:Nat->St->Hp->Prop,(∃m,W m U H)/\∀m U H,W m U H →
 c U H λb H1=>if b=true then ∃N:St->Hp->Prop,(∀U' H',N U' H'->∃a,a<m/\W a U' H')/\tb {D with nx:=N,ct:=N,bk:=D.nx} U H1 else D.nx U H1
variable{c:Expr}
theorem Ob{body:CO}{tc:TT}{tb:TS}(hp:PassesOwn (model X.prog X.w) X.A X.env X.xe)(t:PT X c tc)(u:Hv X body tb):PS X (.While c body [] pos) (ZM tc tb):=by
 intro pins s U H D I h;obtain⟨W,⟨m0,r⟩,turn⟩:=h;refine wpAny_While (codeAny_whileLoop (λn s'=>∃U' H',Inv X pins U' H' s'/\W n U' H') ?_ m0 #[U,H,I,r]);rintro n s1 ⟨d,H1,x,q⟩;refine l1 hp (cJ (t pins s1 d H1 _ x (turn n d H1 q)) λb s2 zz=>?_);obtain⟨H2,p,i⟩:=zz;cases b with
 | true=>
  obtain⟨N,o,i⟩:=i;refine l1 hp (cJ (u pins s2 d H2 _ p i) λf s3 g=>?_);cases f with
  | next=>
   obtain⟨a,e,m,k⟩:=g;obtain⟨l,hm,j⟩:=o a e k;exact#[l,hm,a,e,m,j]
  | cont=>
   obtain⟨a,e,m,k⟩:=g;obtain⟨l,hm,j⟩:=o a e k;exact#[l,hm,a,e,m,j]
  | brk=>exact g
  | ret v=>exact g
 | false=>
  exact wpAny_execs_nil #[d,H2,p,i]
structure It where
 go:Nat->Hp->Prop
 X8:Nat->Hp->V->Hp->Prop
 stop:Nat->Hp->Prop
def mq(X:Cx)(pins:At)(H:Hp)(b:Addr):Prop:=
 H b=none/\b≠X.env.locals/\b∉X.fs/\(b∈X.ex\/X.eh.heap.objs.size<=b)/\(∀x c,X.env.cells.lookup x=some c->c≠b)/\∀p∈X.pn++pins,p.1≠b
theorem Inv.xK(I:Inv X pins U H s)(a:s.heap.objs.size<=b)(d:H' b=none):mq X pins H' b:=by
 refine#[d,Nat.ne_of_gt (hz I.lt a),I.LU a,.inr (er I.sz a),λx c e z=>?_,λp hp z=>?_]
 .obtain⟨v,q⟩:=I.cell x c e;exact absurd (hz q.lt (z▸a)) (m4 _)
 .exact absurd (hz (e4 (I.pin p hp).1) (z▸a)) (m4 _)
structure Turn(P:Program)(w:World)(K:Frag)(tg:Expr)(J:It)(fp:BY)(it:Addr)(tn:Nat->Heap->Prop):Prop where
 mem:it∈fp
 obj:∀i h,tn i h->∀b∈fp,∃o,h.get? b=some o/\∀v,o.data ≠ .cell v
 keep:∀i h h',tn i h->(∀b∈fp,∀o,h.get? b=some o->h'.get? b=some o)->tn i h'
 item:∀(X:Cx),X.prog=P->X.w=w->X.K=K->X.calm=true->∀(i:Nat) (pins:At) (s:Shared) (U:St) (H:Hp) (E:BA),Inv X pins U H s->(∀b∈fp,mq X pins H b)->tn i s.heap->J.go i H →
  wpAny (model P w) X.A (pyNext (.ref it)) (λr s1=>∃u,r=some u ∧
   wpAny (model P w) X.A (letOwnedTupleGo tg (.ref it) u) (λ_ s2=>∃x H',Inv X pins U H' s2/\RelV x u/\J.X8 i H x H'/\tn (i+1) s2.heap/\∀b∈fp,H' b=none) E s1) E s
 done:∀(X:Cx),X.prog=P->X.w=w->X.K=K->X.calm=true->∀(i:Nat) (pins:At) (s:Shared) (U:St) (H:Hp) (E:BA),Inv X pins U H s->(∀b∈fp,mq X pins H b)->tn i s.heap->J.stop i H →
  wpAny (model P w) X.A (pyNext (.ref it)) (λr s1=>r=none/\Inv X pins U H s1) E s
 self:∀(A:Around) (i:Nat) (s:Shared) (Q:BA) (E:BA),tn i s.heap->Q (.ref it) s->wpAny (model P w) A (pyIter (.ref it)) Q E s
abbrev TI:=St->Hp->(It->Hp->Prop)->Prop
def FO(X:Cx)(pins:At)(U:St)(tg:Expr)(R:It->Hp->Prop)(a:Value)(s2:Shared):Prop:=
 ∃(it:Addr) (fp:BY) (tn:Nat->Heap->Prop) (J:It) (H':Hp),a=.ref it/\Inv X pins U H' s2/\Turn X.prog X.w X.K tg J fp it tn/\tn 0 s2.heap/\(∀b∈fp,mq X pins H' b)/\R J H'
def PI(X:Cx)(tg iter:Expr)(a:TI):Prop:=
 ∀(pins:At) (s:Shared) (U:St) (H:Hp) (R:It->Hp->Prop),Inv X pins U H s->a U H R →
  wpAny (model X.prog X.w) X.A (eval iter X.env) (λv s1=>wpAny (model X.prog X.w) X.A (pyIter v) (FO X pins U tg R) X.xe s1) X.xe s
variable{tg:Expr}
def yp{it:Addr}{o:Obj}{n:String}{vs:Db}(b:s.heap.get? it=some o)(d:o.cls=.type n)(hd:o.data=.fields vs)
  (c:["enumerate","zip","dict_itemiterator","dict_reverseitemiterator","odict_iterator","itertools.zip_longest","itertools.pairwise"].contains n=false) (a:Q () s):wpAny M A (letOwnedTupleGo tg (.ref it) u) Q E s:=by
 cases tg<;>first
  | exact eR a
  | (cases u<;>first
    | exact eR a
    | (refine d5 (wpAny_load b ?_)
       rw[d,hd];show wpAny M A (if (["enumerate","zip","dict_itemiterator","dict_reverseitemiterator","odict_iterator","itertools.zip_longest","itertools.pairwise"].contains n&&vs[0]? == some _)=true then _ else _) Q E s;rw[cq (by intro h;rw[c]at h;cases h)];exact eR a))
noncomputable def GI(K:Frag)(a:Addr):It:=
 #[λi H=>∃xs x,lM K H a xs/\xs[i]? = some x,λi H x H'=>H'=H/\∀xs,lM K H a xs->xs[i]? = some x,λi H=>∃xs,lM K H a xs/\xs.length<=i]
noncomputable def GG(K:Frag)(a:Addr):It:=
 #[λi H=>∃xs x,lN K H a xs/\xs[i]? = some x,λi H x H'=>H'=H/\∀xs,lN K H a xs->xs[i]? = some x,λi H=>∃xs,lN K H a xs/\xs.length<=i]
noncomputable def vc(lo:Int)(n:Nat):It:=#[λi _=>i<n,λi H x H'=>H'=H/\x=.int (lo+i),λi _=>n<=i]
theorem Kl(a it:Addr):Turn P w K tg (GI K a) [it] it (λi h=>h.IsListIter it a i) where
 mem:=by simp
 obj:=λi h st b f=>by
  have e:b=it:=by simpa using f
  subst e;obtain⟨o,e,c,d⟩:=st;simp_all
 keep:=λi h h' st k=>st.at λo e=>k it WE o e
 item:=by
  intro X n hw q v i pins s U H E I hf st m;subst n hw q;obtain⟨xs,x,g,l⟩:=m;obtain⟨its,j,p,B⟩:=I.list g;obtain⟨u,D,A⟩:=j.get l;obtain⟨f0,f1,f2,t,f4,r⟩:=hf it WE;refine wpAny_pyNext_list_item st p.isList (x:=u) (by simpa using D) λh' y z=>?_;have G:=I.turned (t':=s.toks) (λb o f e=>(z.2 b f).trans e) f0 f1 t f4 r;obtain⟨o,e,c,d⟩:=id y;exact#[u,rfl,yp (s:={s with heap:=h'}) e c d WA #[x,H,G,A,#[rfl,λys C=>by rw[I.BX C g];exact l],y,λb f=>(hf b f).1]]
 done:=by
  intro X n hw q v i pins s U H E I hf st m;subst n hw q;obtain⟨xs,g,l⟩:=m;obtain⟨its,j,p,B⟩:=I.list g;obtain⟨f0,f1,f2,t,f4,r⟩:=hf it WE;have J:=j.length;exact wpAny_pyNext_list_end (I.ok.hd v) st p.isList WJ λh' F=>#[rfl,I.turned (t':=s.toks) (λb o f e=>F b o f e) f0 f1 t f4 r]
 self:=λ_ _ _ _ _ st h=>wpAny_pyIter_listiter st h
theorem EA(a it:Addr):Turn P w K tg (GG K a) [it] it (λi h=>h.IsTupleIter it a i) where
 mem:=by simp
 obj:=λi h st b f=>by
  have e:b=it:=by simpa using f
  subst e;obtain⟨o,e,c,d⟩:=st;simp_all
 keep:=λi h h' st k=>st.at λo e=>k it WE o e
 item:=by
  intro X n hw q v i pins s U H E I hf st m;subst n hw q;obtain⟨xs,x,g,l⟩:=m;obtain⟨its,j,p,B⟩:=I.tuple g;obtain⟨u,D,A⟩:=j.get l;obtain⟨f0,f1,f2,t,f4,r⟩:=hf it WE;refine wpAny_pyNext_tuple_item st (p) (x:=u) (by simpa using D) λh' y z=>?_;have G:=I.turned (t':=s.toks) (λb o f e=>(z.2 b f).trans e) f0 f1 t f4 r;obtain⟨o,e,c,d⟩:=id y;exact#[u,rfl,yp (s:={s with heap:=h'}) e c d WA #[x,H,G,A,#[rfl,λys C=>by rw[I.Kh C g];exact l],y,λb f=>(hf b f).1]]
 done:=by
  intro X n hw q v i pins s U H E I hf st m;subst n hw q;obtain⟨xs,g,l⟩:=m;obtain⟨its,j,p,B⟩:=I.tuple g;obtain⟨f0,f1,f2,t,f4,r⟩:=hf it WE;have J:=j.length;exact wpAny_pyNext_tuple_end (I.ok.hd v) st (p) WJ λh' F=>#[rfl,I.turned (t':=s.toks) (λb o f e=>F b o f e) f0 f1 t f4 r]
 self:=λ_ _ _ _ _ st h=>wpAny_pyIter_tupleiter st h
theorem EB(it:Addr)(lo:Int)(n:Nat):Turn P w K tg (vc lo n) [it] it (λi h=>IsRangeIter h it (lo+(i:Nat)*1) ((n:Int)-(i:Nat)) 1) where
 mem:=by simp
 obj:=λi h st b a=>by simp_all
 keep:=λi h h' st k=>k it WE _ st
 item:=by
  intro X j hw l d i pins s U H E I hf st c;subst j hw l;obtain⟨f0,f1,f2,g,f4,f⟩:=hf it WE;have W:=Walks.range (prog:=X.prog) (w:=X.w) (I.ok.hd d) it lo 1 n;refine W.item i s _ _ c st λv h' tk hv m kk=>?_;obtain⟨t,rfl⟩:=hv;have q:Inv X pins U H {s with heap:=h',toks:=tk}:=I.turned (λb o a e=>kk b o (by simpa using a) e) f0 f1 g f4 f;refine#[_,rfl,yp m rfl rfl WA #[.int (lo+i),H,q,#[t,?_],#[rfl,rfl],m,λb a=>(hf b a).1]];rw[Int.mul_one]
 done:=by
  intro X j hw l d i pins s U H E I hf st c;obtain⟨f0,f1,f2,g,f4,f⟩:=hf it WE;exact wpAny_pyNext_range_end (I.ok.hd d) st (by have:n<=i:=c;lia) λh' p=>#[rfl,I.turned (p) f0 f1 g f4 f]
 self:=λ_ _ _ _ _ st h=>wpAny_pyIter_rangeiter st h
def OF(K:Frag)(tl:TE):TI:=λU H R=>tl U H λx H1=>∃a,x=.ref a/\(∃xs,lM K H1 a xs)/\R (GI K a) H1
def Lu(K:Frag)(tl:TE):TI:=λU H R=>tl U H λx H1=>∃a,x=.ref a/\(∃xs,lN K H1 a xs)/\R (GG K a) H1
def UG{l:Expr}{tl:TE}(i:PE X l tl):PI X tg l (OF X.K tl):=by
 intro pins s U H R I h;refine cJ (i pins s U H _ I h) λv s1 zz=>?_;obtain⟨x,H1,c,d,f⟩:=zz;obtain⟨a,e,⟨xs,g⟩,q⟩:=f;subst e;cases d;obtain⟨its,k,p,m⟩:=c.list g;refine wpAny_pyIter_list p.isList ?_;refine#[ _,_,_,_,H1,rfl,c.kept λb o e=>ff _ e,Kl a _,#[_,hE _ rfl,rfl,rfl],λb j=>?_,q];have e:=by simpa using j
 subst e;exact c.xK (ea _) (c.bO.fresh (ea _))
def ZN{l:Expr}{tl:TE}(i:PE X l tl):PI X tg l (Lu X.K tl):=by
 intro pins s U H R I h;refine cJ (i pins s U H _ I h) λv s1 zz=>?_;obtain⟨x,H1,c,d,f⟩:=zz;obtain⟨a,e,⟨xs,g⟩,q⟩:=f;subst e;cases d;obtain⟨its,k,p,m⟩:=c.tuple g;refine wpAny_pyIter_tuple (p) ?_;refine#[ _,_,_,_,H1,rfl,c.kept λb o e=>ff _ e,EA a _,#[_,hE _ rfl,rfl,rfl],λb j=>?_,q];have e:=by simpa using j
 subst e;exact c.xK (ea _) (c.bO.fresh (ea _))
theorem B4{R:It->Hp->Prop}{lo hi:Int}{t u v:Tok}{tk:Nat}(I:Inv X pins U H s)(h1:-(2 ^ 62)<=lo)(f:lo<2 ^ 62)(d:-(2 ^ 62)<=hi)(c:hi<2 ^ 62)
  (q:R (vc lo (hi-lo).toNat) H):wpAny (model X.prog X.w) X.A (pyIter (.ref s.heap.objs.size)) (FO X pins U tg R) E {s with heap:=s.heap.push {cls:=.type "range",data:=.fields (List.toArray [.int lo t,.int hi u,.int 1 v])},toks:=tk}:=by
 refine wpAny_pyIter_range (IsRange.new ..) (small_one h1 f d c) ?_;have a:Inv X pins U H {s with heap:=s.heap.push {cls:=.type "range",data:=.fields (List.toArray [.int lo t,.int hi u,.int 1 v])},toks:=tk}:=I.kept λb o e=>ff _ e;refine#[ _,_,_,_,H,rfl,
  a.kept λb o e=>ff _ e,EB _ lo _,?_,λb g=>?_,q]
 .have e1:lo+((0:Nat))*1=lo:=by simp
  have e2:(((hi-lo).toNat))-((0:Nat))=Builtin.Range.rangeSize lo hi 1:=by rw[rangeSize_one];grind
  rw[e1,e2];exact hE _ rfl
 .have e:b=(s.heap.push {cls:=.type "range",data:=.fields (List.toArray [.int lo t,.int hi u,.int 1 v])}).objs.size:=by simp_all
  subst e;exact a.xK (ea _) (a.bO.fresh (ea _))
def OE(ta:TA):TI:=λU H R=>ta U H λvs H1=>∃j:Int,vs=[.int j] /\ -(2 ^ 62)<=j/\j<2 ^ 62/\R (vc 0 j.toNat) H1
def OC(ta:TA):TI:=λU H R=>ta U H λvs H1=>∃i j:Int,vs=[.int i,.int j]/\(-(2 ^ 62)<=i/\i<2 ^ 62 /\ -(2 ^ 62)<=j/\j<2 ^ 62)/\R (vc i (j-i).toNat) H1
variable{p:Pos}
theorem Km{a:Expr}{ta:TA}(i:Gl X "range")(hm:X.mg "range" = none)(k:PA X [a] ta)(g:starEach [a] X.env=[(false,eval a X.env)]:=by rfl):PI X tg (.Call (.Name "range" p) [a] [] pos) (OE ta):=by
 intro pins s U H R I h;refine Call_ (oM I i hm boot_range (o8 (cJ (k pos pins s U H _ I h) λus s1 zz=>?_) g rfl));obtain⟨vs,H1,l,d,b⟩:=zz;obtain⟨j,e,b,f,q⟩:=b;subst e;cases d with
 | cons r c=>
  cases c;obtain⟨t,rfl⟩:=r;exact call_range_1 (B4 l Wl Wl b f WF)
theorem Kn{a b:Expr}{ta:TA}(o:Gl X "range")(hm:X.mg "range" = none)(u:PA X [a,b] ta)(w:AR X a b:=by rfl)(f:starEach [b] X.env=[(false,eval b X.env)]:=by rfl) :
  PI X tg (.Call (.Name "range" p) [a,b] [] pos) (OC ta):=by
 intro pins s U H R I h;refine Call_ (oM I o hm boot_range (o8 (cJ (u pos pins s U H _ I h) λus s1 zz=>?_) WF (by rw[f];rfl)));obtain⟨vs,H1,v,g,d⟩:=zz;obtain⟨i,j,e,⟨d,n,m,l⟩,q⟩:=d;subst e;cases g with
 | cons r c=>
  cases c with
  | cons k c=>
   cases c;obtain⟨t,rfl⟩:=r;obtain⟨t',rfl⟩:=k;exact call_range_2 (B4 v d n m l q)
def Lo(b:TI)(g:TG)(tb:TS):TS:=λD U H=>b U H λJ H1=>∃W:Nat->Nat->St->Hp->Prop,(∃m,W 0 m U H1)/\∀i m U H,W i m U H →
 (J.stop i H/\D.nx U H)\/(J.go i H/\∃N:St->Hp->Prop,(∀U' H',N U' H'->∃a,a<m/\W (i+1) a U' H')/\∀x H',J.X8 i H x H'->g x U H' λc H2=>tb {D with nx:=N,ct:=N,bk:=D.nx} c H2)
noncomputable def uI(fp:BY)(h:Heap):At:=fp.filterMap λb=>(h.get? b).map λo=>(b,o)
def kR{fp:BY}{o:Obj}(a:b∈fp)(e:h.get? b=some o):(b,o)∈uI fp h:=nH.2 #[b,a,by rw[e];rfl]
theorem Ko{fp:BY}{p:Addr×Obj}(hp:p∈uI fp h):p.1∈fp/\h.get? p.1=some p.2:=by
 obtain⟨b,a,e⟩:=nH.1 hp;cases q:h.get? b with
 | none=>rw[q]at e;cases e
 | some o=>
  rw[q]at e;have c:=e5 e;subst c;exact#[a,q]
theorem Inv.pinned{fp:BY}(I:Inv X pins U H s)(hf:∀b∈fp,mq X pins H b)(f:∀b∈fp,∃o,s.heap.get? b=some o/\∀v,o.data ≠ .cell v):Inv X (pins++uI fp s.heap) U H s:=
 I.uc λp hp=>(eg.1 hp).elim (λz=>I.pin p (eL _ z)) λz=>by
  obtain⟨a,e⟩:=Ko z;obtain⟨f0,f1,f2,_⟩:=hf p.1 a;obtain⟨o,c,d⟩:=f p.1 a;rw[e]at c;cases c;exact#[e,f0,f1,f2,d]
theorem Inv.pN{a:At}(I:Inv X (pins++a) U H s):Inv X pins U H s:=I.uc λp hp=>I.pin p (eL _ (ft _ hp))
def ZO{iter:Expr}{body:CO}{O:TI}{g:TG}{tb:TS}(hp:PassesOwn (model X.prog X.w) X.A X.env X.xe)(P:X.calm=true)(hi:PI X tg iter O)(hg:PG X tg g)(k:Hv X body tb)
  (hs:AN X iter:=by intro _;rfl):PS X (.For tg iter body [] pos) (Lo O g tb):=by
 intro pins s U H D I h;refine wpAny_For (cJ (hi pins s U H _ I h) λv s1 h1=>cJ h1 λaa s2 h2=>?_) hs;obtain⟨it,fp,tn,J,H2,e,I2,T,F,f2,W,⟨m0,w0⟩,turn⟩:=h2;subst e;have j:∀{H':Hp},(∀b∈fp,H' b=none)->∀b∈fp,mq X pins H' b:=λhn b k=>#[hn b k,(f2 b k).2];refine codeAny_forLoop_any (λn s'=>∃i U' H',Inv X pins U' H' s'/\tn i s'.heap/\(∀b∈fp,H' b=none)/\W i n U' H') ?_ m0 #[0,U,H2,I2,F,λb k=>(f2 b k).1,w0];rintro n s3 ⟨i,c,C,R,y,B,w3⟩;obtain⟨stop,qn⟩|⟨go,N,hN,step⟩:=turn i n c C w3
 .refine l1 hp (cJ (T.done X rfl rfl rfl P i pins s3 c C X.xe R (j B) y stop) λr s4 zz=>?_);obtain⟨K,I4⟩:=zz;subst K;exact wpAny_execs_nil #[c,C,I4,qn]
 .refine l1 hp (cJ (T.item X rfl rfl rfl P i pins s3 c C X.xe R (j B) y go) λr s4 zz=>?_);obtain⟨u,K,h4⟩:=zz;subst K;refine l1 hp (cJ h4 λ_ s5 zz=>?_);obtain⟨x,S,I5,r5,V,t,L⟩:=zz;have M:=I5.pinned (j L) (T.obj _ _ t);refine l1 hp (cJ (hg _ s5 c S x u _ M r5 (step x S V)) λ_ s6 zz=>?_);obtain⟨E,H6,I6,q6⟩:=zz;refine l1 hp (cJ (k _ s6 E H6 _ I6 q6) λf G q=>?_);have again:∀{a:St} {p:Hp},Inv X (pins++uI fp s5.heap) a p G->N a p->∃m,m<n/\∃i U' H',Inv X pins U' H' G/\tn i G.heap/\(∀b∈fp,H' b=none)/\W i m U' H':=λ{a p} l z=>by
   obtain⟨m',hm,Z⟩:=hN a p z;refine#[m',hm,i+1,a,p,l.pN,T.keep _ _ _ t λb k o e=>(l.pin (b,o) (eL _ (eL _ (kR k e)))).1,λb k=>?_,Z];obtain⟨o,e,d⟩:=T.obj _ _ t b k;exact(l.pin (b,o) (eL _ (eL _ (kR k e)))).2.1
  cases f with
  | next=>obtain⟨a,p,l,z⟩:=q;exact again l z
  | cont=>obtain⟨a,p,l,z⟩:=q;exact again l z
  | brk=>obtain⟨a,p,l,q⟩:=q;exact#[a,p,l.pN,q]
  | ret v=>obtain⟨Y,a,p,l,r7,q⟩:=q;exact#[Y,a,p,l.pN,r7,q]
abbrev R2:=V->V->Hp->VK->Prop
def lR(X:Cx)(f:Value->Value->Sem Value)(r:R2):Prop:=
 ∀(pins:At) (s:Shared) (U:St) (H:Hp) (x y:V) (v u:Value) (Q:VK),Inv X pins U H s->RelV x v->RelV y u->r x y H Q →
  wpAny (model X.prog X.w) X.A (f v u) (EP X pins U Q) X.xe s
def xp(X:Cx)(f:Value->Sem Value)(r:V->Hp->VK->Prop):Prop:=
 ∀(pins:At) (s:Shared) (U:St) (H:Hp) (x:V) (v:Value) (Q:VK),Inv X pins U H s->RelV x v->r x H Q →
  wpAny (model X.prog X.w) X.A (f v) (EP X pins U Q) X.xe s
def jG(X:Cx)(f:Value)(r:BS->Hp->VK->Prop):Prop:=
 ∀(pins:At) (s:Shared) (U:St) (H:Hp) (xs:BS) (us:B0) (Q:VK),Inv X pins U H s->Vals xs us->r xs H Q →
  wpAny (model X.prog X.w) X.A (call f us) (EP X pins U Q) X.xe s
def Lm(X:Cx)(r:V->Hp->EQ->Prop):Prop:=
 ∀(pins:At) (s:Shared) (U:St) (H:Hp) (x:V) (v:Value) (Q:EQ),Inv X pins U H s->RelV x v->r x H Q →
  wpAny (model X.prog X.w) X.A (truthy v) (TP X pins U Q) X.xe s
noncomputable def q0(r:R2)(ta tb:TE):TE:=λU H Q=>ta U H λx H1=>tb U H1 λy H2=>r x y H2 Q
noncomputable def Ha(r:V->Hp->VK->Prop)(ta:TE):TE:=λU H Q=>ta U H λx H1=>r x H1 Q
noncomputable def rI(C:Int->Int->Prop)(g:Int->Int->V):R2:=λx y H Q=>∃i j,x=.int i/\y=.int j/\C i j/\Q (g i j) H
noncomputable def Um(g:Int->Int->V):R2:=λx y H Q=>∃i j,x=.int i/\y=.int j/\Q (g i j) H
def rU(g:Int->V):V->Hp->VK->Prop:=λx H Q=>∃i,x=.int i/\Q (g i) H
variable{a b:Expr}{ta tb:TE}{f:Value->Value->Sem Value}
def ZP(l:PE X a ta)(k:PE X b tb){R:V->V->Hp->Prop}(I:Inv X pins U H s)
  (h:ta U H λx H1=>tb U H1 λy H2=>R x y H2) {Q:BA}
  (hf:∀v u s2 x y H2,Inv X pins U H2 s2->RelV x v->RelV y u->R x y H2->wpAny (model X.prog X.w) X.A (f v u) Q X.xe s2) :
  wpAny (model X.prog X.w) X.A (eval a X.env) (λv d=>wpAny (model X.prog X.w) X.A (eval b X.env) (λu c=>wpAny (model X.prog X.w) X.A (f v u) Q X.xe c) X.xe d) X.xe s:=by
 refine cJ (l pins s U H _ I h) λv s1 zz=>?_;obtain⟨x,H1,n,g,j⟩:=zz;refine cJ (k pins s1 U H1 _ n j) λu s2 zz=>?_;obtain⟨y,H2,m,e,i⟩:=zz;exact hf v u s2 x y H2 m g e i
variable{r:R2}
noncomputable def Hz{op:Operator}(e:lR X (binaryOp op) r)(g:PE X a ta)(f:PE X b tb):PE X (.BinOp a op b pos) (q0 r ta tb):=λpins s U H Q I h=>wpAny_BinOp (ZP g f I h λv u s2 x y H2 i d c q=>e pins s2 U H2 x y v u Q i d c q)
def Pt{op:UnaryOp}{r:V->Hp->VK->Prop}(d:xp X (unaryOp op) r)(e:PE X a ta):PE X (.UnaryOp op a pos) (Ha r ta):=λpins s U H Q I h=>UnaryOp_ (cJ (e pins s U H _ I h) λv s1 ⟨x,H1,f,b,c⟩=>d pins s1 U H1 x v Q f b c)
def q2{C:Int->Int->Prop}{g:Int->Int->Int}
  (rule:∀(i j:Int) (t u:Tok) (s:Shared) (Q:BA) (E:BA),C i j->Q (.int (g i j) s.toks) {s with toks:=s.toks+1}->wpAny (model X.prog X.w) X.A (f (.int i t) (.int j u)) Q E s) :
  lR X f (rI C λi j=>.int (g i j)):=by
 intro pins s U H x y v u Q I b a h;obtain⟨i,j,rfl,rfl,c,q⟩:=h;obtain⟨t,rfl⟩:=b;obtain⟨t',rfl⟩:=a;exact rule i j t t' s _ _ c #[.int _,H,I.tok _,#[_,rfl],q]
def Fu{g:Int->Int->Int}
  (rule:∀(i j:Int) (t u:Tok) (s:Shared) (Q:BA) (E:BA),Q (.int (g i j) s.toks) {s with toks:=s.toks+1}->wpAny (model X.prog X.w) X.A (f (.int i t) (.int j u)) Q E s) :
  lR X f (Um λi j=>.int (g i j)):=by
 intro pins s U H x y v u Q I b a h;obtain⟨i,j,rfl,rfl,q⟩:=h;obtain⟨t,rfl⟩:=b;obtain⟨t',rfl⟩:=a;exact rule i j t t' s _ _ #[.int _,H,I.tok _,#[_,rfl],q]
def UH{g:Int->Int->Bool}
  (rule:∀(i j:Int) (t u:Tok) (s:Shared) (Q:BA) (E:BA),Q (.bool (g i j)) s->wpAny (model X.prog X.w) X.A (f (.int i t) (.int j u)) Q E s) :
  lR X f (Um λi j=>.bl (g i j)):=by
 intro pins s U H x y v u Q I b a h;obtain⟨i,j,rfl,rfl,q⟩:=h;obtain⟨t,rfl⟩:=b;obtain⟨t',rfl⟩:=a;exact rule i j t t' s _ _ #[.bl _,H,I,rfl,q]
def Fs(i j:Int):Prop:=0<j/\j<1073741824
def Fn(i j:Int):Prop:=0<=j/\j<=1000000/\i.natAbs<2 ^ 64
def UI(i j:Int):Prop:=(-(2 ^ 64)<i/\i<2 ^ 64)\/(-(2 ^ 64)<j/\j<2 ^ 64)
theorem UI.ok{i j:Int}(h:UI i j):IntMulOk i j:=by
 obtain⟨h1,a⟩|⟨h1,a⟩:=h
 .exact .of_left (intBits_le_64 h1 a)
 .exact .of_right (intBits_le_64 h1 a)
def ZQ:lR X (binaryOp .Add) (Um λi j=>.int (i+j)):=Fu λ_ _ _ _ _ _ _ q=>add_int q
def ZR:lR X (binaryOp .Sub) (Um λi j=>.int (i-j)):=Fu λ_ _ _ _ _ _ _ q=>sub_int q
def ZS:lR X (binaryOp .Mult) (rI UI λi j=>.int (i*j)):=q2 λ_ _ _ _ _ _ _ a q=>mul_int q a.ok
theorem UJ:lR X (binaryOp .FloorDiv) (rI Fs λi j=>.int (i / j)):=q2 λi j _ _ _ _ _ a q=>by
 have h1:=a.1;have b:=a.2;exact floordiv_int Wl (by rw[Int.fdiv_eq_ediv_of_nonneg i Wl];exact q) (.inl (PyProof.noPylong_small Wl))
theorem ZT:lR X (binaryOp .Mod) (rI (λ_ j=>0<j) λi j=>.int (i % j)):=q2 λi j _ _ _ _ _ a q=>mod_int' Wl (by rw[Int.fmod_eq_emod_of_nonneg i Wl];exact q)
def ZU:lR X (binaryOp .Pow) (rI Fn λi j=>.int (i ^ j.toNat)):=q2 λ_ _ _ _ _ _ _ a q=>pow_int_small a.1 a.2.1 a.2.2 q
def G2{f:Value->Sem Value}{g:Int->Int}
  (rule:∀(i:Int) (t:Tok) (s:Shared) (Q:BA) (E:BA),Q (.int (g i) s.toks) {s with toks:=s.toks+1}->wpAny (model X.prog X.w) X.A (f (.int i t)) Q E s) :
  xp X f (rU λi=>.int (g i)):=by
 intro pins s U H x v Q I a h;obtain⟨i,rfl,q⟩:=h;obtain⟨t,rfl⟩:=a;exact rule i t s _ _ #[.int _,H,I.tok _,#[_,rfl],q]
def ZV:xp X (unaryOp .USub) (rU λi=>.int (-i)):=G2 λ_ _ _ _ _ q=>neg_int q
noncomputable def ZW:V->V->Bool
 | .non,.non=>true | .non,.int _=>true | .int _,.non=>true | .non,.bl _=>true | .bl _,.non=>true | .non,.str _=>true | .str _,.non=>true
 | .int _,.int _=>true | .bl _,.bl _=>true | .str _,.str _=>true | .Et _,.Et _=>true
 | .int _,.str _=>true | .str _,.int _=>true | .bl _,.str _=>true | .str _,.bl _=>true
 | _,_=>false
def HA:R2:=λx y H Q=>ZW x y=true/\Q (.bl (decide (x=y))) H
def Hn:R2:=λx y H Q=>ZW x y=true/\Q (.bl (!decide (x=y))) H
def HB{i j:Int}:decide (V.int i=V.int j)=(i==j):=by
 rw[lL];simp
def Oc{i j:Bool}:decide (V.bl i=V.bl j)=(i==j):=by
 rw[lL];simp
def HC{i j:Str}:decide (V.str i=V.str j)=(i==j):=by
 rw[lL];simp
theorem HD{i j:Array UInt8}:decide (V.Et i=V.Et j)=(i.toList==j.toList):=by
 rw[lL];simp_all
variable{tc:TE}
def bU{Q:VK}{k a:Bool}(I:Inv X pins U H s)(q:Q (.bl k) H)(e:k=a):EP X pins U Q (.bool a) s:=by
 subst e;exact#[.bl k,H,I,rfl,q]
theorem Od:lR X (compareOp .Eq) HA:=by
 intro pins s U H x y v u Q I c a h;obtain⟨b,q⟩:=h;cases x with
 | non=>
  cases c;cases y with
  | non=>cases a;exact PySem.EqNone.eq_none_none (bU I q WE)
  | bl j=>cases a;exact PySem.EqNone.eq_none_bool (bU I q WE)
  | int j=>obtain⟨t',rfl⟩:=a;exact PySem.EqNone.eq_none_int (bU I q WE)
  | str j=>obtain⟨t',rfl⟩:=a;exact PySem.EqNone.eq_none_str (bU I q WE)
  | _=>exact absurd (show false=true from b) fg
 | bl i=>
  cases c;cases y with
  | non=>cases a;exact PySem.EqNone.eq_bool_none (bU I q WE)
  | bl j=>cases a;exact eq_bool (bU I q Oc)
  | str j=>obtain⟨t',rfl⟩:=a;exact PySem.EqMixed.eq_bool_str (bU I q WE)
  | _=>exact absurd (show false=true from b) fg
 | int i=>
  obtain⟨t,rfl⟩:=c;cases y with
  | non=>cases a;exact PySem.EqNone.eq_int_none (bU I q WE)
  | int j=>obtain⟨t',rfl⟩:=a;exact eq_int (bU I q HB)
  | str j=>obtain⟨t',rfl⟩:=a;exact PySem.EqMixed.eq_int_str (bU I q WE)
  | _=>exact absurd (show false=true from b) fg
 | str i=>
  obtain⟨t,rfl⟩:=c;cases y with
  | non=>cases a;exact PySem.EqNone.eq_str_none (bU I q WE)
  | bl j=>cases a;exact PySem.EqMixed.eq_str_bool (bU I q WE)
  | int j=>obtain⟨t',rfl⟩:=a;exact PySem.EqMixed.eq_str_int (bU I q WE)
  | str j=>obtain⟨t',rfl⟩:=a;exact eq_str (bU I q HC)
  | _=>exact absurd (show false=true from b) fg
 | Et i=>
  obtain⟨t,rfl⟩:=c;cases y with
  | Et j=>obtain⟨t',rfl⟩:=a;exact PySem.W.eq_bytes (bU I q HD)
  | _=>exact absurd (show false=true from b) fg
 | _=>cases y<;>exact absurd (show false=true from b) fg
theorem X9:lR X (compareOp .NotEq) Hn:=by
 intro pins s U H x y v u Q I c a h;obtain⟨b,q⟩:=h;cases x with
 | non=>
  cases c;cases y with
  | non=>cases a;exact PySem.EqNone.ne_none_none (bU I q WE)
  | bl j=>cases a;exact PySem.EqNone.ne_none_bool (bU I q WE)
  | int j=>obtain⟨t',rfl⟩:=a;exact PySem.EqNone.ne_none_int (bU I q WE)
  | str j=>obtain⟨t',rfl⟩:=a;exact PySem.EqNone.ne_none_str (bU I q WE)
  | _=>exact absurd (show false=true from b) fg
 | bl i=>
  cases c;cases y with
  | non=>cases a;exact PySem.EqNone.ne_bool_none (bU I q WE)
  | bl j=>cases a;exact ne_bool (bU I q (congrArg not Oc))
  | str j=>obtain⟨t',rfl⟩:=a;exact PySem.EqMixed.ne_bool_str (bU I q WE)
  | _=>exact absurd (show false=true from b) fg
 | int i=>
  obtain⟨t,rfl⟩:=c;cases y with
  | non=>cases a;exact PySem.EqNone.ne_int_none (bU I q WE)
  | int j=>obtain⟨t',rfl⟩:=a;exact ne_int (bU I q (congrArg not HB))
  | str j=>obtain⟨t',rfl⟩:=a;exact PySem.EqMixed.ne_int_str (bU I q WE)
  | _=>exact absurd (show false=true from b) fg
 | str i=>
  obtain⟨t,rfl⟩:=c;cases y with
  | non=>cases a;exact PySem.EqNone.ne_str_none (bU I q WE)
  | bl j=>cases a;exact PySem.EqMixed.ne_str_bool (bU I q WE)
  | int j=>obtain⟨t',rfl⟩:=a;exact PySem.EqMixed.ne_str_int (bU I q WE)
  | str j=>obtain⟨t',rfl⟩:=a;exact ne_str (bU I q (congrArg not HC))
  | _=>exact absurd (show false=true from b) fg
 | Et i=>
  obtain⟨t,rfl⟩:=c;cases y with
  | Et j=>obtain⟨t',rfl⟩:=a;exact PySem.W.ne_bytes (bU I q (congrArg not HD))
  | _=>exact absurd (show false=true from b) fg
 | _=>cases y<;>exact absurd (show false=true from b) fg
def HF:lR X (compareOp .Lt) (Um λi j=>.bl (decide (i<j))):=UH λ_ _ _ _ _ _ _ q=>lt_int q
def HG:lR X (compareOp .LtE) (Um λi j=>.bl (decide (i<=j))):=UH λ_ _ _ _ _ _ _ q=>le_int q
def Pq:lR X (compareOp .Gt) (Um λi j=>.bl (decide (j<i))):=UH λ_ _ _ _ _ _ _ q=>gt_int q
def Po:lR X (compareOp .GtE) (Um λi j=>.bl (decide (j<=i))):=UH λ_ _ _ _ _ _ _ q=>ge_int q
def Kp:lR X (compareOp .In) (λx y H Q=>∃i j,x=.str i/\y=.str j/\Q (.bl (!(Builtin.Str.occurrences j i 0 j.length 1).isEmpty)) H):=by
 intro pins s U H x y v u Q I b a h;obtain⟨i,j,rfl,rfl,q⟩:=h;obtain⟨t,rfl⟩:=b;obtain⟨t',rfl⟩:=a;exact in_str (bU I q rfl)
def zB:lR X (compareOp .NotIn) (λx y H Q=>∃i j,x=.str i/\y=.str j/\Q (.bl (!(!(Builtin.Str.occurrences j i 0 j.length 1).isEmpty))) H):=by
 intro pins s U H x y v u Q I b a h;obtain⟨i,j,rfl,rfl,q⟩:=h;obtain⟨t,rfl⟩:=b;obtain⟨t',rfl⟩:=a;exact notIn_str (bU I q rfl)
variable{op:CmpOp}
theorem jT(b:Expr)(h:op ≠ .In:=by decide)(a:op ≠ .NotIn:=by decide):behindInMarks op b=false:=by
 have e1:(op==CmpOp.In)=false:=by grind
 have e2:(op==CmpOp.NotIn)=false:=by grind
 cases b<;>simp[behindInMarks,e1,e2]
noncomputable def nj(e:lR X (compareOp op) r)(g:PE X a ta)(f:PE X b tb)(hm:behindInMarks op b=false):PE X (.Compare a [op] [b] pos) (q0 r ta tb):=λpins s U H Q I h=>wpAny_Compare1 (ZP g f I h λv u s2 x y H2 i d c q=>e pins s2 U H2 x y v u Q i d c q) hm
noncomputable def Yb(t:TE):TT:=λU H Q=>t U H λx H'=>∃k,x=.bl k/\Q k H'
def nk(m:lR X (compareOp op) r)(o:PE X a ta)(n:PE X b tb)(hm:behindInMarks op b=false):PT X (.Compare a [op] [b] pos) (Yb (q0 r ta tb)):=by
 intro pins s U H Q I h;refine wpAny_isTrue_Compare1 (cJ (o pins s U H _ I h) λv s1 ⟨x,H1,t,g,l⟩=>cJ (n pins s1 U H1 _ t l) λu s2 ⟨y,H2,q,f,j⟩=>
  cJ (m pins s2 U H2 x y v u _ q g f j) λc s3 ⟨z,w,p,d,k,e,i⟩=>?_) hm
 subst e;cases d;exact ir #[w,p,i]
noncomputable def Oe(r c:R2)(ta tb tc:TE):TE:=λU H Q=>ta U H λx H1=>tb U H1 λy H2=>r x y H2 λz a=>∃k,z=.bl k ∧
 (if k=true then tc U a λb d=>c y b d Q else Q (.bl false) a)
def Og{f:CmpOp}{i:R2}(C:lR X (compareOp op) r)(M:lR X (compareOp f) i)(F:PE X a ta)(E:PE X b tb)(D:PE X c tc)
  (hm:lastMarks [op,f] [b,c]=false:=by with_unfolding_all rfl):PE X (.Compare a [op,f] [b,c] pos) (Oe r i ta tb tc):=by
 intro pins s U H Q I h;refine Compare_chain (cJ (F pins s U H _ I h) λv s1 ⟨x,H1,K,t,B⟩=>chain_link (cJ (E pins s1 U H1 _ K B) λu s2 ⟨y,H2,J,g,A⟩=>
  cJ (C pins s2 U H2 x y v u _ J t g A) λd s3 ⟨z,m,l,q,k,e,j⟩=>?_)) hm
 subst e;cases q;refine ir ?_;cases k with
 | false=>exact ite_ff #[.bl _,m,l,rfl,j]
 | true=>exact ite_tt (chain_last (cJ (D pins s3 U m _ l j) λo s4 ⟨n,L,G,p,w⟩=>M pins s4 U L y n u o Q G g p w))
def Oh{f:CmpOp}{i:R2}(F:lR X (compareOp op) r)(T:lR X (compareOp f) i)(K:PE X a ta)(J:PE X b tb)(G:PE X c tc)
  (hm:lastMarks [op,f] [b,c]=false:=by with_unfolding_all rfl):PT X (.Compare a [op,f] [b,c] pos) (Yb (Oe r i ta tb tc)):=by
 intro pins s U H Q I h;refine isTrue_chain (cJ (K pins s U H _ I h) λv s1 ⟨x,H1,P,w,D⟩=>test_link (cJ (J pins s1 U H1 _ P D) λu s2 ⟨y,H2,O,g,C⟩=>
  cJ (F pins s2 U H2 x y v u _ O w g C) λd s3 ⟨z,m,l,t,k,e,j⟩=>?_)) hm
 subst e;cases t;refine ir ?_;cases k with
 | false=>
  obtain⟨W,L,E⟩:=j;cases L;exact ite_ff #[m,l,E]
 | true=>
  refine ite_tt (test_last (cJ (G pins s3 U m _ l j) λo s4 zz=>?_));obtain⟨n,S,N,q,B⟩:=zz;refine cJ (T pins s4 U S y n u o _ N g q B) λY s5 zz=>?_;obtain⟨V,R,M,p,k2,e2,A⟩:=zz;subst e2;cases p;exact ir #[R,M,A]
def Fh(K:Frag)(x:V)(H:Hp)(k:Bool):Prop:=
 match x with
 | .non=>k=false
 | .bl b=>k=b
 | .int i=>k=(i != 0)
 | .str y => y.length <= sizeLine /\ k = ((y.length : Int) != 0)
 | .Et y=>y.size<=sizeLine/\k=((y.size:Int) != 0)
 | .ref p=>(∃xs,lM K H p xs/\k=!xs.isEmpty)\/(∃xs,lN K H p xs/\k=!xs.isEmpty)\/∃aN,H p=some (.dK aN)/\k=!aN.isEmpty
 | _=>False
def EC{κ:Type}{aN:List (κ×V)}{vs:List (κ×Value)}(r:KV aN vs):(!vs.isEmpty)=!aN.isEmpty:=by
 cases r<;>rfl
def uJ{its:B0}(r:Vals xs its):(!its.toArray.isEmpty)=!xs.isEmpty:=by
 cases r<;>simp
def rB:(sizeLine:Nat)<2 ^ 63:=by decide
theorem ZX:Lm X (λx H Q=>∃k,Fh X.K x H k/\Q k H):=by
 intro pins s U H x v Q I c h;obtain⟨k,e,q⟩:=h;have o:=rB;have n:sizeLine=16777216:=fA;cases x with
 | non=>
  cases c;have a:k=false:=e;subst a;exact truthy_none #[H,I,q]
 | bl b=>
  cases c;have a:k=b:=e;subst a;exact ir #[H,I,q]
 | int i=>
  obtain⟨t,rfl⟩:=c;have a:k=(i != 0):=e;subst a;exact PySem.P.truthy_int #[H,I,q]
 | str y=>
  obtain⟨t,rfl⟩:=c;obtain⟨j,a⟩:y.length<=sizeLine/\k=((y.length:Int) != 0):=e;subst a;exact PySem.P.truthy_str Wl #[H,I.tok _,q]
 | Et y=>
  obtain⟨t,rfl⟩:=c;obtain⟨j,a⟩:y.size<=sizeLine/\k=((y.size:Int) != 0):=e;subst a;exact PySem.W.truthy_bytes Wl #[H,I.tok _,q]
 | ref p=>
  cases c;have a:(∃xs,lM X.K H p xs/\k=!xs.isEmpty)\/(∃xs,lN X.K H p xs/\k=!xs.isEmpty)\/∃aN,H p=some (.dK aN)/\k=!aN.isEmpty:=e;obtain⟨xs,d,a⟩|⟨xs,d,a⟩|⟨aN,d,a⟩:=a
  .subst a;obtain⟨its,r,f,g⟩:=I.list d;have hlen:=r.length;exact wpAny_truthy_list f.isList (by simp only[tL];lia) #[H,I.tok _,by rw[uJ r];exact q]
  .subst a;obtain⟨its,r,f,g⟩:=I.tuple d;have hlen:=r.length;exact truthy_tuple f (by simp only[tL];lia) #[H,I.tok _,by rw[uJ r];exact q]
  .subst a;obtain⟨g,l,vs,r,m⟩:aN.length<=sizeLine/\(p==sysModules)=false/\∃vs,KV aN vs/\s.heap.DictOf (ez X.prog X.w) p vs:=I.bO p _ d;have hlen:aN.length=vs.length:=Paired.length r;exact wpAny_truthy_dict l m Wl #[H,I.tok _,by rw[EC r];exact q]
 | _=>exact(show False from e).elim
def Oi(d:PE X a ta)(he:∀whole,isTrue a X.env whole=(do let v ← whole;standAt a.pos;holding [v] (truthy v))) :
  PT X a (λU H Q=>ta U H λx H'=>∃k,Fh X.K x H' k/\Q k H'):=λpins s U H Q I h=>isTrue_plain (cJ (d pins s U H _ I h) λv s1 ⟨x,H1,e,b,c⟩=>ZX pins s1 U H1 x v Q e b c) (he _)
def ED:lR X (binaryOp .Add) (λx y H Q=>∃i j,x=.str i/\y=.str j/\i.length+j.length<=sizeLine/\Q (.str (i++j)) H):=by
 intro pins s U H x y v u Q I b a h;obtain⟨i,j,rfl,rfl,c,q⟩:=h;obtain⟨t,rfl⟩:=b;obtain⟨t',rfl⟩:=a;exact add_str (λt' tk=>#[.str _,H,I.tok _,#[_,rfl],q]) c
theorem vals1{x:V}(r:Vals [x] us):∃u,us=[u]/\RelV x u:=by
 cases r with
 | cons b a=>cases a;exact#[_,rfl,b]
theorem vals2{x y:V}(r:Vals [x,y] us):∃u a,us=[u,a]/\RelV x u/\RelV y a:=by
 cases r with
 | cons e d=>
  cases d with
  | cons c b=>cases b;exact#[_,_,rfl,e,c]
def Kq(b:X.calm=true):jG X (.builtin "max") (λxs H Q=>∃i j,xs=[.int i,.int j]/\Q (.int (if j > i then j else i)) H):=by
 intro pins s U H xs us Q I r h;obtain⟨i,j,rfl,q⟩:=h;obtain⟨u,c,rfl,⟨t,rfl⟩,⟨t',rfl⟩⟩:=vals2 r;refine max_two_ints (I.ok.hd b) λh' tk k=>#[_,H,I.kept k,?_,q];by_cases a:j > i
 .rw[di a,di a];exact#[_,rfl]
 .rw[cq a,cq a];exact#[_,rfl]
def Kr(b:X.calm=true):jG X (.builtin "min") (λxs H Q=>∃i j,xs=[.int i,.int j]/\Q (.int (if j<i then j else i)) H):=by
 intro pins s U H xs us Q I r h;obtain⟨i,j,rfl,q⟩:=h;obtain⟨u,c,rfl,⟨t,rfl⟩,⟨t',rfl⟩⟩:=vals2 r;refine min_two_ints (I.ok.hd b) λh' tk k=>#[_,H,I.kept k,?_,q];by_cases a:j<i
 .rw[di a,di a];exact#[_,rfl]
 .rw[cq a,cq a];exact#[_,rfl]
def zC:jG X (.type "str") (λxs H Q=>∃i,xs=[.int i]/\i.natAbs.log2<1920/\Q (.str (toString i)) H):=by
 intro pins s U H xs us Q I r h;obtain⟨i,rfl,a,q⟩:=h;obtain⟨u,rfl,t,rfl⟩:=vals1 r;exact PySem.P.str_of_int a #[.str _,H,I.tok _,#[_,rfl],q]
structure Ks(h:Heap)(x dx C:Addr)(mA:BM):Prop where
 obj:h.get? x=some (instObj C dx)
 ns:h.Ns1 dx mA
 ne:dx≠x
variable{dx:Addr}
theorem yq{mA:BM}(n:h.Ns1 dx mA):∃od,h.get? dx=some od/\∀name,lookIn name od=some (mA name):=by
 obtain⟨o,es,ep,d,hd,f,_,hm⟩:=n;refine#[o,d,λname=>?_];have e:=hm name;unfold nsFind findBy at e;rw[<- Array.find?_toList]at e;unfold lookIn;rw[hd];dsimp;split
 .simp_all
 .have a:es.toList.any (·.refKey)=false:=by
   rw[List.any_eq_false];intro y c;obtain⟨z,t,b⟩:=f y (Array.mem_toList_iff.1 c);simp[DictEntry.refKey,b]
  have g:¬ es.toList.any (·.refKey)=true:=by rw[a];simp_all
  rw[cq g];simp_all
variable{C:Addr}
theorem Ks.look{mA:BM}(I:Ks h x dx C mA):∃od,PySem.W.InstAt h x (instObj C dx) C (some od)/\∀name,lookIn name od=some (mA name):=
 let ⟨od,a,b⟩:=yq I.ns
 #[od,#[I.obj,rfl,rfl,a],b]
variable{prog:Program}{f:Addr}{mA:BM}{name:Str}{v:Value}
def get_map{expr:Bool}{Q:BA}(X:K.In s.heap)(I:Ks s.heap x dx C mA)(d:plainGet K C name=true)(c:hasDictIn K C=true)
  (e:findIn K (.ref C) name=some none) (hv:mA name=some v) (a:handedIn v=true) (h:Q v {s with toks:=s.toks+1}) :
  wpAny (model prog w) A (getAttr (.ref x) name expr) Q E s:=by
 obtain⟨od,J,b⟩:=I.look;exact PySem.W.get_value X J (PySem.W.plainGet_of d).1 (PySem.W.findObj_own c e rfl (by rw[b,hv])) a h
theorem UK{ns:AT}(X:K.In s.heap)(I:Ks s.heap x dx C mA)
  (k:findIn K (.ref C) "__setattr__" = some (some (.builtin "object.__setattr__"))) (hp:plainOver K C=true) (j:takerIn K C name=some none) (l:hasDictIn K C=true)
  (hw:PySem.Within mA ns) (hsz:ns.length<=sizeLine)
  (h:∀h',Ks h' x dx C (λy=>if y=name then some v else mA y)->Heap.SameBut dx s.heap h'->Q () {s with heap:=h',toks:=s.toks+2}) :
  wpAny (model prog w) A (setAttr (.ref x) name v) Q E s:=by
 obtain⟨od,J,q⟩:=I.look;refine PySem.W.set_plain X J k (PySem.W.osa_open X J hp j λb=>?_);obtain⟨cd,m,e⟩:=PySem.W.any_some l;have i:=I.obj;refine d5 (eR (d5 (d5 (wpAny_loadPart i (d5 (PySem.W.Looks.here (PySem.W.looks_clsIn X m) ?_))))));rw[e];refine eR (d5 (eR (d5 ?_)));refine wpAny_nsSet1 I.ns λh' a g=>?_;obtain⟨p,n,o,c,d,f⟩:=a.count (PySem.Within.cons name v hw);refine d5 (wpAny_lookBehind c (d▸pastItsLine_dict (er f WI)) ?_);exact eR (h _ #[(g.2 _ (Ne.symm I.ne)).trans I.obj,a,I.ne] g)
abbrev _root_.Da:=List (Str×Value)
noncomputable def Oj{R:Result->Shared->Prop}{vs:B0}{kw:Da}(X:K.In s.heap)(hm:makesIn K C=true)
  (hi:findIn K (.ref C) "__init__" = some (some (.ref f))) (hf:typeIn K (.ref f)=some (.type "function"))
  (h:codeAny (model prog w) (A.under (.builtin "type.__call__" #[.ref C::vs,kw])) (.call (.ref f) #[.ref (s.heap.objs.size+1)::vs,kw]) (PySem.W.InitBack (s.heap.objs.size+1) R)
   {s with heap:=(s.heap.push emptyDict).push (instObj C s.heap.objs.size)}) :
  codeAny (model prog w) A (.call (.ref C) #[vs,kw]) R s:=PySem.W.make_core (PySem.W.makes_of X hm) (PySem.W.looks_findIn X hi) (λself=>PySem.W.bind_fn X self hf) (.inl rfl) h
noncomputable def jU(f:Str)(v:V):Bz->Bz
 | []=>[(f,v)]
 | (g,x)::r=>if g=f then(g,v)::r else(g,x)::jU f v r
theorem sM(f g:Str)(v:V):∀fs:Bz,(jU f v fs).lookup g=if g=f then some v else fs.lookup g
 | []=>by
  show List.lookup g [(f,v)]=_;by_cases h:g=f
  .have a:=hI.2 h;simp[List.lookup,a,di h]
  .have a:=jl.2 h;simp[List.lookup,a,cq h]
 | (k,x)::r=>by
  have c:=sM f g v r;rw[show jU f v _=(if k=f then(k,v)::r else(k,x)::jU f v r) from rfl];by_cases b:k=f
  .rw[di b];by_cases h:g=k
   .have a:=hI.2 h;simp[List.lookup,a,di (h.trans b)]
   .have a:=jl.2 h;simp[List.lookup,a,cq (λe:g=f=>h (e.trans b.symm))]
  .rw[cq b];by_cases h:g=k
   .simp_all
   .have a:=jl.2 h;simp[List.lookup,a];exact c
theorem rC(f:Str)(v:V):∀fs:Bz,f∈(jU f v fs).map (·.1)/\∀g,g∈fs.map (·.1)->g∈(jU f v fs).map (·.1)
 | []=>#[by simp[jU],λg h=>by simp at h]
 | (k,x)::r=>by
  obtain⟨b,a⟩:=rC f v r;rw[show jU f v _=(if k=f then(k,v)::r else(k,x)::jU f v r) from rfl];grind
theorem sN(f:Str)(v:V):∀fs:Bz,(jU f v fs).length<=fs.length+1
 | []=>by simp[jU]
 | (k,x)::r=>by
  have a:=sN f v r;rw[show jU f v _=(if k=f then(k,v)::r else(k,x)::jU f v r) from rfl];grind
theorem oJ.some_of{v:V}{o:D2}(r:oJ (some v) o):∃u,o=some u/\RelV v u:=by
 cases o with
 | none=>exact(r).elim
 | some u=>exact#[u,rfl,r]
theorem yr{v:V}(r:RelV v u):handedIn u=true:=by
 cases v with
 | non=>cases (r);rfl
 | bl b=>cases (r);rfl
 | int i=>obtain⟨t,e⟩:=(r);cases e;rfl
 | str x=>obtain⟨t,e⟩:=(r);cases e;rfl
 | Et b=>obtain⟨t,e⟩:=(r);cases e;rfl
 | flt b=>obtain⟨t,e⟩:=(r);cases e;rfl
 | ref a=>cases (r);rfl
 | ty n=>cases (r);rfl
variable{a:Addr}{fs:Bz}
def HJ(bO:lY P w H h)(e:H a=some (.ins C dx fs)):∃mA,Ks h a dx C mA/\(∀f,oJ (fs.lookup f) (mA f))/\PySem.Within mA (fs.map (·.1))/\fs.length<=1000/\H dx=some (.own a):=by
 obtain⟨d,z,ne,b,mA,n,r,q⟩:=(bO a _ e);exact#[mA,#[b,n,ne],r,q,z,d]
structure Ej(K:Frag)(C:Addr):Prop where
 pg:plainGet K C Str.empty=true
 hd:hasDictIn K C=true
 po:plainOver K C=true
 sa:findIn K (.ref C) "__setattr__" = some (some (.builtin "object.__setattr__"))
theorem Ej.get(c:Ej K C)(f:Str):plainGet K C f=true:=c.pg
def bS(K:Frag)(C:Addr)(f:Str):Prop:=findIn K (.ref C) f=some none
theorem bS.Pm{f:Str}(n:bS K C f):takerIn K C f=some none:=by
 unfold takerIn;rw[n];rfl
structure Meth(K:Frag)(C:Addr)(m:Str)(f:Addr):Prop where
 at_:findIn K (.ref C) m=some (some (.ref f))
 fn:isFn K (.ref f)=true
 kp:keepIn K (.ref f)=true
variable{f:Str}{v:V}
def EE{b:Bool}{Q:BA}(I:Inv X pins U H s)(e:H a=some (.ins C dx fs))(c:Ej X.K C)(n:bS X.K C f)(l:fs.lookup f=some v)
  (h:∀u s',Inv X pins U H s'->RelV v u->Q u s'):wpAny (model X.prog X.w) A (getAttr (.ref a) f b) Q E s:=by
 obtain⟨mA,O,r,_,_,_⟩:=HJ I.bO e;obtain⟨u,g,d⟩:=oJ.some_of (l▸r f);exact get_map I.j7 O (c.get f) c.hd n g (yr d) (h u _ (I.tok _) d)
theorem EF{y:V}(I:Inv X pins U H s)(e:H a=some (.ins C dx fs))(c:Ej X.K C)(n:bS X.K C f)(x:fs.length<1000)(l:RelV y u)
  (h:∀s',Inv X pins U (upd H a (.ins C dx (jU f y fs))) s'->Q () s'):wpAny (model X.prog X.w) A (setAttr (.ref a) f u) Q E s:=by
 obtain⟨mA,O,r,i,_,j⟩:=HJ I.bO e;have m:(fs.map (·.1)).length<=sizeLine:=by rw[d4,fA];lia
 refine UK I.j7 O c.sa c.po n.Pm c.hd i m λh' d k=>h _ ?_;have hd:∃o,h'.get? dx=some o:=let ⟨o,_,_,v,_⟩:=d.ns;#[o,v];refine I.write (e▸True.intro) (.inr j) (λb q t z=>(k.2 b t).trans z) hd ?_;refine#[ az O.ne▸j,?_,O.ne,d.obj,_,d.ns,λg=>?_,λg p=>?_]
 .have:=sN f y fs;lia
 .rw[sM];by_cases q:g=f
  .rw[di q,di q];exact l
  simp_all
 .by_cases q:g=f
  .rw[q];exact(rC f y fs).1
  .refine(rC f y fs).2 g (i g λz=>p ?_);grind
theorem Inv.made(I:Inv X pins U H s):Inv X pins U (upd (upd H s.heap.objs.size (.own (s.heap.objs.size+1))) (s.heap.objs.size+1) (.ins C s.heap.objs.size []))
  {s with heap:=(s.heap.push emptyDict).push (instObj C s.heap.objs.size)}:=by
 have e1:(s.heap.push _).get? _=some emptyDict:=hE _ rfl;have e2:=by
  have:=hE (s.heap.push emptyDict) (o:=instObj C s.heap.objs.size) rfl
  rwa [Heap.size_push]at this
 have e3:(s.heap.push _).Ns _ _:=#[ _,#[],_,e1,rfl,(λe he=>absurd he WE),λ_=>rfl];have c:=I.laid (o:=.own (s.heap.objs.size+1)) (t':=s.toks) (λb u q=>ff _ q) (ea _) #[_,e1];refine c.laid (λb u q=>ff _ q) (Nat.le_of_eq (Heap.size_push _ _)) ?_;have ne:s.heap.objs.size≠s.heap.objs.size+1:=gh (o1 _);refine#[by rw[az ne,aJ],fc _,ne,e2,_,(Heap.Ns1.of_empty e3).at λo q=>ff _ q,λ_=>True.intro,λy a=>absurd rfl a]
noncomputable def HK{env:Env}{e:Expr}{Q:BA}(b:attributeBase e f env (eval e env)=eval e env)
  (h:wpAny (model prog w) A (eval e env) (λo a=>wpAny (model prog w) A (getAttr o f true) Q E a) E s):wpAny (model prog w) A (eval (.Attribute e f pos) env) Q E s:=
 Attribute_any_ h (by rw[arm_eval_Attribute,b])
def ME(K:Frag)(ta:TE)(f:Str):TE:=λU H Q=>ta U H λx H1=>∃a C dx fs v,x=.ref a/\H1 a=some (.ins C dx fs)/\Ej K C/\bS K C f/\fs.lookup f=some v/\Q v H1
def MA(K:Frag)(ta tv:TE)(f:Str):TS:=λD U H=>tv U H λy H1=>ta U H1 λx H2=>∃a C dx fs,x=.ref a/\H2 a=some (.ins C dx fs)/\Ej K C/\bS K C f/\fs.length<1000 ∧
 D.nx U (upd H2 a (.ins C dx (jU f y fs)))
variable{o e value:Expr}{pos':Pos}{tv:TE}
def Ol(he:PE X e ta)(g:AS X e f):PE X (.Attribute e f pos) (ME X.K ta f):=by
 intro pins s U H Q I h;refine HK g (cJ (he pins s U H _ I h) λu s1 zz=>?_);obtain⟨x,H1,k,b,a,C,dx,fs,v,ex,i,c,n,l,q⟩:=zz;subst ex;obtain rfl:u=Value.ref a:=b;exact EE k i c n l λm s2 j d=>#[v,H1,j,d,q]
def ZY(i:PE X o ta)(hv:PE X value tv)(g:swapsWith value (some (.Attribute o f pos')) pos.line X.env=pure false):PS X (.Assign [.Attribute o f pos'] value pos) (MA X.K ta tv f):=by
 intro pins s U H D I h;refine plainObj_wpAny_Assign_Attribute (cJ (hv pins s U H _ I h) λu s1 zz=>?_) g;obtain⟨y,H1,p,b,q⟩:=zz;refine cJ (i pins s1 U H1 _ p q) λov s2 zz=>?_;obtain⟨x,H2,m,d,a,C,dx,fs,ex,j,c,n,l,e⟩:=zz;subst ex;obtain rfl:ov=Value.ref a:=d;exact EF m j c n l b λs3 k=>#[U,_,k,e]
structure dI(k:Nat)(A:Around):Prop where
 hd:A.handled=none
 dp:A.depth+3*k+5<recursionLimit
 un:A.units+16*k+200<cLine
theorem dI.mono{j:Nat}(r:dI k A)(h:j<=k):dI j A:=#[r.hd,by have:=r.dp;lia,by have:=r.un;lia]
theorem dI.deeper(r:dI (k+1) A)(env:Env):dI k (A.deeper env):=
 #[r.hd,by have:=r.dp;show A.depth+1+3*k+5<_;lia,by have:=r.un;show A.units+3+16*k+200<_;lia]
def EG{kw:Da}:(A.under (.builtin "type.__call__" #[.ref C::us,kw])).depth=A.depth+1:=rfl
def EH{kw:Da}:(A.under (.builtin "type.__call__" #[.ref C::us,kw])).units=A.units+1:=rfl
theorem dI.make(r:dI (k+1) A)(C:Addr)(us:B0)(kw:Da):dI k (A.under (.builtin "type.__call__" #[.ref C::us,kw])):=
 #[r.hd,by have:=r.dp;rw[EG];lia,by have:=r.un;rw[EH];lia]
theorem dI.depth(r:dI k A):A.depth<recursionLimit:=by have:=r.dp;lia
theorem dI.units(r:dI k A):A.units+64<cLine:=by have:=r.un;lia
noncomputable def E2:TA:=λ_ H Q=>Q [] H
noncomputable def Pl(ta:TE)(tr:TA):TA:=λU H Q=>ta U H λx H1=>tr U H1 λxs H2=>Q (x::xs) H2
variable{t:TA}
noncomputable def cV:PA X [] E2:=λ_ _ _ _ H Q I h=>Calls.spliced_nil #[[],H,I,.nil,h]
def bB(i:PE X e te)(g:PA X es t)(f:AC X e es:=by rfl):PA X (e::es) (Pl te t):=by
 intro pos pins s U H Q I h;rw[f];show wpAny _ _ (spliced ((false,eval e _)::backTo pos _)) _ _ s;refine Calls.spliced_cons (cJ (i pins s U H _ I h) λu s1 zz=>?_);obtain⟨x,H1,k,b,d⟩:=zz;refine cJ (g pos pins s1 U H1 _ k d) λus s2 zz=>?_;obtain⟨xs,H2,j,a,c⟩:=zz;exact#[ _,H2,j,.cons b a,c]
def Mo(t:TA):TE:=λU H Q=>t U H λxs H1=>xs.length<=sizeLine/\∀p,H1 p=none->Q (.ref p) (upd H1 p (.tup xs))
def Mn(t:TA):TE:=λU H Q=>t U H λxs H1=>xs.length<=sizeLine/\∀p,H1 p=none->Q (.ref p) (upd H1 p (.lst xs))
def Om{x1}(h:PA X es t):PE X (.Tuple es x1 pos) (Mo t):=by
 intro pins s U H Q I c;refine wpAny_Tuple_spliced (cJ (h pos pins s U H _ I c) λus s1 zz=>?_);obtain⟨xs,H1,a,r,z,q⟩:=zz;refine#[ r.length▸z,?_];have hf:=a.bO.fresh (ea _);refine#[.ref _,_,a.laid (λb u e=>ff _ e) (ea _) ?_,rfl,q _ hf];exact#[z,us,r,#[_,hE _ rfl,rfl,_,rfl]]
def ZZ(h:PA X es t):PE X (.List es pos) (Mn t):=by
 intro pins s U H Q I c;refine wpAny_List_spliced (cJ (h pos pins s U H _ I c) λus s1 zz=>?_);obtain⟨xs,H1,a,r,z,q⟩:=zz;refine#[ r.length▸z,?_];have hf:=a.bO.fresh (ea _);refine#[.ref _,_,a.laid (λb u e=>ff _ e) (ea _) ?_,rfl,q _ hf];exact#[z,us,0,r,hE _ rfl]
abbrev Sp:=BS->Hp->VK->XK->Prop
abbrev Ku:=Cn->Hp->Shared->XK->Value->Shared->Prop
structure EI(P:Program)(w:World)(K:Frag)(mg:BM)(base:Heap)(A:Around)(outer:Cn)(s:Shared)(H:Hp):Prop where
 frames:A.frames=some outer
 mod:Mod K mg base
 bs:∀b o,base.get? b=some o->s.heap.get? b=some o/\H b=none
 N6:base.objs.size<=s.heap.objs.size
 pI:s.heap.FunFrames base outer
 Uk:∀b∈lK outer,H b=none
 bO:lY P w H s.heap
 bare:AllBare s.gens
def CE(outer:Cn)(P:Program)(w:World)(H:Hp)(s:Shared)(Q:VK)(u:Value)(s':Shared):Prop:=
 ∃v H',s'.os=s.os/\AllBare s'.gens/\Un (lK outer) [] H H' s.heap s'.heap/\lY P w H' s'.heap/\RelV v u/\Q v H'
def CR(CX:Ku)(outer:Cn)(P:Program)(w:World)(H:Hp)(s:Shared)(Q:VK)(E:XK)(r:Result)(s':Shared):Prop:=
 match r with
 | .ok (.ret u)=>CE outer P w H s Q u s'
 | .ok _=>False
 | .error e=>CX outer H s E e s'
structure eU(P:Program)(w:World)(K:Frag)(mg:BM)(base:Heap)(CX:Ku)(k:Nat)(f:Addr)(fd:FuncData)(ps:AT)(sp:Sp):Prop where
 len:∀vs H Q E,sp vs H Q E->vs.length=ps.length
 run:∀(A:Around) (outer:Cn) (s:Shared) (H:Hp) (args:Args) (us:B0) (vs:BS) (Q:VK) (E:XK),dI k A->EI P w K mg base A outer s H->BindsTo s fd args (ps.zip us)->Vals vs us->sp vs H Q E →
  codeAny (model P w) A (.call (.ref f) args) (CR CX outer P w H s Q E) s
variable{mg:BM}{base:Heap}{CX:Ku}{ps:AT}
theorem eU.imp{f:Addr}{fd:FuncData}{sp a:Sp}(F:eU P w K mg base CX k f fd ps sp)
  (h:∀vs H Q E,a vs H Q E->sp vs H Q E):eU P w K mg base CX k f fd ps a:=
 #[λvs H Q E q=>F.len vs H Q E (h _ _ _ _ q),λA outer s H args us vs Q E c he d hv b=>F.run A _ s H args us vs Q E c he d hv (h _ _ _ _ b)]
theorem EI.make{outer:Cn}(e:EI P w K mg base A outer s H)(C:Addr)(us:B0)(kw:Da) :
  EI P w K mg base (A.under (.builtin "type.__call__" #[.ref C::us,kw])) outer s H:=#[by first|exact e.frames|(simpa using e.frames),e.mod,e.bs,e.N6,e.pI,e.Uk,e.bO,e.bare]
variable{s':Shared}
theorem Inv.UL(I:Inv X pins U H s):EI X.prog X.w X.K X.mg X.base X.A X.stack s H:=
 #[I.ok.frames,I.ok.mod,I.bs,er I.ok.N6 I.sz,I.stack,I.pJ,I.bO,I.bare]
theorem Inv.after{Q:VK}(I:Inv X pins U H s)(h:CE X.stack X.prog X.w H s Q u s'):EP X pins U Q u s':=by
 obtain⟨v,H',os,bare,un,bO,r,q⟩:=h;obtain⟨c,g,d,t,a⟩:=s';obtain rfl:a=s.os:=os;exact#[v,H',I.call un bO bare (λb z=>absurd z WE),r,q]
noncomputable def Yc(sp:Sp)(EJ:BS)(E:XK)(t:TA):TE:=λU H Q=>t U H λvs H1=>sp (vs++EJ) H1 Q E
def Pf(C:Addr)(sp:Sp)(EJ:BS)(E:XK)(t:TA):TE:=λU H Q=>t U H λvs H1=>∀x dx,H1 x=none->H1 dx=none->dx≠x →
 sp (.ref x::(vs++EJ)) (upd (upd H1 dx (.own x)) x (.ins C dx [])) (λv H2=>v=.non/\Q (.ref x) H2) E
def Binds(K:Frag)(fd:FuncData)(ps:AT)(ds:B0):Prop:=
 ∀(s:Shared) (us:B0),K.In s.heap->(us++ds).length=ps.length->BindsTo s fd #[us,[]] (ps.zip (us++ds))
theorem Binds.all{fd:FuncData}(h:∀us:B0,us.length=ps.length->bindArgs fd #[us,[]]=pure (ps.zip us)):Binds K fd ps []:=λs us _ a=>by
 rw[e6]at a ⊢;exact .of_eq (h us a)
def Passes(CX:Ku)(X:Cx)(E:XK):Prop:=∀(pins:At) (U:St) (H:Hp) (s:Shared) (e:Value) (s':Shared),Inv X pins U H s->CX X.stack H s E e s'->X.xe e s'
section
variable{f:Addr}{fd:FuncData}{sp:Sp}{EJ:BS}{ds:B0}{E:XK}{x:Str}
def Oo{Q:VK}{vs:BS}(F:eU X.prog X.w X.K X.mg X.base CX k f fd ps sp)(d:dI k X.A)(i:Binds X.K fd ps ds)(hd:Vals EJ ds)(c:Passes CX X E)
  (I:Inv X pins U H s) (r:Vals vs us) (h:sp (vs++EJ) H Q E):wpAny (model X.prog X.w) X.A (call (.ref f) us) (EP X pins U Q) X.xe s:=by
 have b:=r.append hd;have g:=b.length▸F.len _ _ _ _ h;refine i4 (lp (F.run X.A _ s H _ _ _ Q E d I.UL (i s us I.j7 g) b h) λr s' a=>?_);cases r with
 | error e=>exact c pins U H s e s' I a
 | ok fl=>
  cases fl with
  | ret u=>exact I.after a
  | next=>exact False.elim a
  | brk=>exact False.elim a
  | cont=>exact False.elim a
def zE(F:eU X.prog X.w X.K X.mg X.base CX k f fd ps sp)(d:dI k X.A)(i:Gl X x)(hm:X.mg x=some (.ref f))(g:keepIn X.K (.ref f)=true)(j:Binds X.K fd ps ds)(hd:Vals EJ ds)(c:Passes CX X E)
  (l:PA X (e::es) t) (b:AD x:=by decide) (he:AC X e es:=by rfl) (hpl:AL X pos es:=by rfl) :
  PE X (.Call (.Name x p) (e::es) [] pos) (Yc sp EJ E t):=by
 intro pins s U H Q I h;refine ky (gE I i hm ?_ b);refine sv I.ok.mod.Uj g (cJ (l pos pins s U H _ I h) λus s1 zz=>?_) he hpl;obtain⟨vs,H1,a,r,q⟩:=zz;refine#[a.j7,?_];exact Oo F d j hd c a r q
def Oq(F:eU X.prog X.w X.K X.mg X.base CX k f fd ps sp)(c:dI k X.A)(e:Gl X x)(hm:X.mg x=some (.ref f))(d:keepIn X.K (.ref f)=true)(g:Binds X.K fd ps ds)(hd:Vals EJ ds)(b:Passes CX X E)
  (a:AD x:=by decide):PE X (.Call (.Name x p) [] [] pos) (Yc sp EJ E E2):=by
 intro pins s U H Q I h;refine ky (gE I e hm ?_ a);exact PySem.W.callWith_K0 I.j7 d (Oo F c g hd b I .nil h)
structure Mk(K:Frag)(C f:Addr):Prop where
 makes:makesIn K C=true
 init:findIn K (.ref C) "__init__" = some (some (.ref f))
 fn:isFn K (.ref f)=true
 kp:keepIn K (.ref C)=true
def Ot{Q:VK}{vs:BS}(M:Mk X.K C f)(F:eU X.prog X.w X.K X.mg X.base CX k f fd ps sp)(l:dI (k+1) X.A)(n:Binds X.K fd ps ds)(hd:Vals EJ ds)
  (j:Passes CX X E) (I:Inv X pins U H s) (r:Vals vs us)
  (h:∀x dx,H x=none->H dx=none->dx≠x->sp (.ref x::(vs++EJ)) (upd (upd H dx (.own x)) x (.ins C dx [])) (λv H2=>v=.non/\Q (.ref x) H2) E) :
  wpAny (model X.prog X.w) X.A (call (.ref C) us) (EP X pins U Q) X.xe s:=by
 have d:=h _ _ (I.bO.fresh (h7 _)) (I.bO.fresh (ea _)) (gh (o1 _));have b:=Inv.made (C:=C) I;have c:Vals (V.ref (s.heap.objs.size+1)::(vs++EJ)) _:=.cons rfl (r.append hd);have m:=by
  have e:=c.length;rw[F.len _ _ _ _ d]at e;exact e.symm
 refine i4 (Oj I.j7 M.makes M.init (hI.1 M.fn) (lp (F.run _ _ _ _ _ _ _ _ E (l.make C us [])
  (b.UL.make C us []) (n _ _ b.j7 m) c d) λr s' a=>?_))
 cases r with
 | error e=>exact j pins U _ _ e s' b a
 | ok fl=>
  cases fl with
  | ret u=>
   obtain⟨v,H',o,g,ev,i⟩:=b.after a;subst ev;exact#[g,#[V.ref _,H',o,rfl,i]]
  | next=>exact False.elim a
  | brk=>exact False.elim a
  | cont=>exact False.elim a
def HL(M:Mk X.K C f)(F:eU X.prog X.w X.K X.mg X.base CX k f fd ps sp)(d:dI (k+1) X.A)(g:Gl X x)(hm:X.mg x=some (.ref C))(i:Binds X.K fd ps ds)(hd:Vals EJ ds)(c:Passes CX X E)
  (j:PA X (e::es) t) (b:AD x:=by decide) (he:AC X e es:=by rfl) (hpl:AL X pos es:=by rfl) :
  PE X (.Call (.Name x p) (e::es) [] pos) (Pf C sp EJ E t):=by
 intro pins s U H Q I h;refine ky (gE I g hm ?_ b);refine sv I.ok.mod.Uj M.kp (cJ (j pos pins s U H _ I h) λus s1 zz=>?_) he hpl;obtain⟨vs,H1,a,r,q⟩:=zz;refine#[a.j7,?_];exact Ot M F d i hd c a r q
end
structure dm(N P:AT)(sc:Scope):Prop where
 kind:sc.kind=.function
 co:sc.isCoroutine=false
 gen:sc.isGenerator=false
 nd:N.Nodup
 pre:N.take P.length=P
 par:∀x∈P,sc.names.lookup x=some .local\/sc.names.lookup x=some .cell
 Z6:∀y∈sc.names,y.2 ≠ .free
theorem yt{kindOf:Str->Option NameKind}{x:Str}:∀{binds:Da} {m:BM},(∀v,(x,v)∉binds)->bindL kindOf binds m x=m x
 | [],_,_=>rfl
 | (n,v)::r,m,h=>by
  unfold bindL;rw[yt λw hw=>h w (ee _ hw)];split
  .have:x≠n:=by rintro rfl;exact h v d6
   simp[this]
  .rfl
theorem yu{kindOf:Str->Option NameKind}{x:Str}:∀{binds:Da} {m:BM},(∀v,(x,v)∉binds)->bindC kindOf binds m x=m x
 | [],_,_=>rfl
 | (n,v)::r,m,h=>by
  unfold bindC;rw[yu λw hw=>h w (ee _ hw)];split
  .rfl
  .have:x≠n:=by rintro rfl;exact h v d6
   simp[this]
theorem yw{kindOf:Str->Option NameKind}{x:Str}{v:Value}:∀{P:AT} {vs:B0} {i:Nat} {m:BM},P.Nodup->P[i]? = some x->vs[i]? = some v->kindOf x=some .local →
  bindL kindOf (P.zip vs) m x=some v
 | [],_,_,_,_,h,_,_=>by simp at h
 | _::_,[],_,_,_,_,h,_=>by simp at h
 | p::P,w::vs,0,m,nd,h1,b,a=>by
  simp at h1 b;subst h1;subst b;show bindL _ ((p,w)::P.zip vs) m p=_;unfold bindL;rw[yt λv hv=>(hX.1 nd).1 (List.of_mem_zip hv).1,di a];simp
 | p::P,w::vs,i+1,m,nd,h1,b,a=>by
  unfold bindL;exact yw (hX.1 nd).2 (‹_›) (‹_›) a
theorem yx{kindOf:Str->Option NameKind}{x:Str}{v:Value}:∀{P:AT} {vs:B0} {i:Nat} {m:BM},P.Nodup->P[i]? = some x->vs[i]? = some v->kindOf x≠some .local →
  bindC kindOf (P.zip vs) m x=some v
 | [],_,_,_,_,h,_,_=>by simp at h
 | _::_,[],_,_,_,_,h,_=>by simp at h
 | p::P,w::vs,0,m,nd,h1,b,a=>by
  simp at h1 b;subst h1;subst b;show bindC _ ((p,w)::P.zip vs) m p=_;unfold bindC;rw[yu λv hv=>(hX.1 nd).1 (List.of_mem_zip hv).1,cq a];simp
 | p::P,w::vs,i+1,m,nd,h1,b,a=>by
  unfold bindC;exact yx (hX.1 nd).2 (‹_›) (‹_›) a
noncomputable def start(N:AT)(vs:BS):St:=vs.map some++List.replicate (N.length-vs.length) none
noncomputable def kT(CX:Ku)(P:Program)(w:World)(K:Frag)(mg:BM)(base:Heap)(N:AT)(qual:Str)(scope:Scope)(f:Addr)(cd:Value)(A:Around)(outer:Cn)(s:Shared)(H:Hp)(E:XK):Cx where
 prog:=P
 w:=w
 K:=K
 mg:=mg
 base:=base
 A:=A.deeper (envOfC qual scope s.heap.objs.size f cd)
 N:=N
 eh:=s
 h5:=H
 env:=envOfC qual scope s.heap.objs.size f cd
 outer:=outer
 stack:=envOfC qual scope s.heap.objs.size f cd::outer
 ex:=[]
 calm:=true
 fn:=λ_=>true
 pn:=[]
 xe:=λe s'=>wpAny (model P w) (A.deeper (envOfC qual scope s.heap.objs.size f cd)) (leaving (envOfC qual scope s.heap.objs.size f cd) e) (λ_ a=>CX outer H s E e a) (λb a=>CX outer H s E b a) s'
def B5{sc:Scope}{n:Nat}{x:Str}(h:sc.names.lookup x=some .cell):∃c,(cellsFrom n sc.names []).lookup x=some c:=by
 have q:=cellsFrom_some _ n [] (.inl h);exact iv.1 q
theorem Kv{N:AT}{qual:Str}{scope:Scope}{f:Addr}{cd:Value}{outer:Cn}{s1:Shared}{E:XK}{vs:BS}
  (S:dm N ps scope) (hd:A.handled=none) (e0:EI P w K mg base A outer s H) (B:vs.length=ps.length) (r:Vals vs us)
  (x:InCallC s s.heap.objs.size (bindL (envOfC qual scope s.heap.objs.size f cd).kindOf (ps.zip us) λ_=>none) (cellsFrom (s.heap.objs.size+1) scope.names []) (bindC (envOfC qual scope s.heap.objs.size f cd).kindOf (ps.zip us) λ_=>none) s1) :
  Inv (kT CX P w K mg base N qual scope f cd A outer s H E) [] (start N vs) H s1:=by
 have hpl:ps.length<=N.length:=by have:=congrArg List.length S.pre;rw[hJ]at this;lia
 obtain⟨h1,tk,rfl,m⟩:=x.done;have d:∀b:Addr,b∉(kT CX P w K mg base N qual scope f cd A outer s H E).ex:=λb z=>absurd (show b∈([]:BY) from z) WE;refine#[#[e0.mod,S.kind,rfl,rfl,ea _,λy z c h1 a=>?_,λy j=>?_,λy c _ h=>?_,λ_=>hd,Around.frames_deeper e0.frames,.inr #[rfl,rfl],λb z=>absurd z (d b),e0.bs,e0.N6,λb _ _=>d b,λb z=>absurd z (d b),e0.pI,e0.Uk],
  rfl,e0.bare,Un.kept m,#[_,x.toInCall.ns,λi y v h1 a C=>?_],λy c h=>#[_,x.cell y c h],e0.bO.fresh (ea _),λy c h=>?_,λp hp=>absurd (show p∈([]:At) from hp) WE,e0.bO.kept m,?_]
 .exact name_of_addr x.apart (kS h1) (kS a)
 .obtain j|j:=j
  .exact B5 j
  .exact absurd rfl (S.Z6 _ (kS j))
 .exact hH (x.above y c (kS h))
 .have hi:i<vs.length:=by
   unfold start at a;by_cases hi:i<vs.length
   .exact hi
   .rw[List.getElem?_append_right (by simpa using hi)]at a;rw[List.getElem?_replicate]at a;split at a<;>cases a
  have t:vs[i]? = some v:=by
   unfold start at a;rw[List.getElem?_append_left (by simpa using hi),List.getElem?_map]at a;simp_all
  obtain⟨u,l,o⟩:=r.get t;have hp:ps[i]? = some y:=by
   rw[<- S.pre,List.getElem?_take_of_lt Wl];exact h1
  have g:ps.Nodup:=by rw[<- S.pre];exact S.nd.sublist (List.take_sublist _ _)
  refine#[u,o,?_];obtain k|k:=S.par y (fw hp)
  .exact .inl #[k,yw g hp l k]
  .obtain⟨c,e⟩:=B5 (n:=s.heap.objs.size+1) k;refine .inr #[.inl k,c,e,?_];have q:=x.cell y c e;rw[yx g hp l (by show scope.names.lookup y≠_;rw[k];decide)]at q;exact q
 .exact e0.bO.fresh (hH (x.above y c (kS h)))
 .unfold start;show _=N.length;grind
abbrev _root_.CU:=Array D2
theorem Ov{f:Addr}{qual:Str}{params:Arguments}{body:CO}{scope:Scope}{dV kV doc pm dP ct oc:Value}{an od:B2}
  {B6:CU} {N:AT} {sp:Sp} (lk:K.lookup f=some #[oc,od,.func (fnOf name qual params body scope dV kV doc pm an dP ct),B6]) (gX:codeIn K dP qual=true) (S:dm N ps scope)
  (len:∀vs H Q E,sp vs H Q E->vs.length=ps.length)
  (z:∀(A:Around) (outer:Cn) (s:Shared) (H:Hp) (vs:BS) (Q:VK) (E:XK),dI k (A.deeper (envOfC qual scope s.heap.objs.size f dP))->sp vs H Q E →
   ∃t,Hv (kT CX P w K mg base N qual scope f dP A outer s H E) body t/\t {nx:=λ_ H'=>Q .non H',rt:=Q} (start N vs) H) :
  eU P w K mg base CX (k+1) f (fnOf name qual params body scope dV kV doc pm an dP ct) ps sp:=by
 refine#[len,λA outer s H args us vs Q E d e0 p r h=>?_];have m:=len _ _ _ _ h;have g:=e0.mod.Uj.keeps λb o e=>(e0.bs b o e).1;have lim:=e0.mod.nolimit.keeps λb o e=>(e0.bs b o e).1;have B:∀y∈ps.zip us,scope.names.lookup y.1=some _\/(scope.names.lookup y.1=some _/\((cellsFrom (s.heap.objs.size+1) _ []).lookup y.1).isSome=true):=λ⟨n,v⟩ i=>by
  obtain q|q:=S.par n (List.of_mem_zip i).1
  .exact .inl q
  .exact .inr #[q,cellsFrom_some _ _ _ (.inl q)]
 refine codeAny_call_function d.depth (g _ _ lk) rfl S.co S.gen rfl (PySem.W.codeRec_of g gX) (p _ _ _ _ ?_);refine wpAny_newFunctionEnv_cells S.kind B λenv he s1 x=>?_;subst he;refine#[lim.keeps x.toInCall.keep,codeAny_func ?_];obtain⟨t,j,l⟩:=z A _ s H vs Q E (d.deeper _) h;have I:Inv (kT CX P w K mg base N qual _ f dP A _ s H E) [] _ H s1:=Kv S d.hd e0 m r x;refine gr (j [] s1 _ H _ I l) (λfl s' a=>?_) λe s' a=>a;have fin:∀{U':St} {H':Hp} {v:V} {u:Value},Inv (kT CX P w K mg base N qual scope f dP A _ s H E) [] U' H' s'->RelV v u->Q v H'->CE outer P w H s Q u s':=
  λ{U' H' v u} J c q=>#[v,H',J.os,J.bare,J.base,J.bO,c,q]
 cases fl with
 | ret u=>
  obtain⟨v,U',H',J,c,q⟩:=a;exact fin J c q
 | next=>
  obtain⟨U',H',J,q⟩:=a;exact fin (v:=V.non) J rfl q
 | brk=>
  obtain⟨_,_,_,q⟩:=a;simp_all
 | cont=>
  obtain⟨_,_,_,q⟩:=a;exact False.elim q
section
variable{x:Str}{id T:String}{r:BS->Hp->VK->Prop}
noncomputable def yn(r:BS->Hp->VK->Prop)(t:TA):TE:=λU H Q=>t U H λvs H1=>r vs H1 Q
def je(g:jG X (.builtin id) r)(f:Gl X x)(hm:X.mg x=none)(hv:bootBuiltins x=some (.builtin id))(i:PA X (e::es) t)(d:x≠"__name__":=by decide)(c:AD x:=by decide)
  (he:AC X e es:=by rfl) (hpl:AL X pos es:=by rfl):PE X (.Call (.Name x p) (e::es) [] pos) (yn r t):=by
 intro pins s U H Q I h;refine ky (oM I f hm hv ?_ d c);refine PyProof.Rows.callWith_builtin1 (cJ (i pos pins s U H _ I h) λus s1 zz=>?_) he hpl;obtain⟨vs,H1,j,a,b⟩:=zz;exact g pins s1 U H1 vs us Q j a b
def j8(g:jG X (.type T) r)(f:Gl X x)(hm:X.mg x=none)(hv:bootBuiltins x=some (.type T))(i:PA X (e::es) t)(d:x≠"__name__":=by decide)(c:AD x:=by decide)
  (he:AC X e es:=by rfl) (hpl:AL X pos es:=by rfl):PE X (.Call (.Name x p) (e::es) [] pos) (yn r t):=by
 intro pins s U H Q I h;refine ky (oM I f hm hv ?_ d c);refine o8 (cJ (i pos pins s U H _ I h) λus s1 zz=>?_) he hpl;obtain⟨vs,H1,j,a,b⟩:=zz;exact g pins s1 U H1 vs us Q j a b
end
end L2
namespace HT
open PySem PyProof.Rows
variable{prog:Program}{w:World}{A:Around}{E:BA}{s:Shared}
theorem UM{t b:Addr}{vs ws:B0}{Q:BA}(g:IsTup s.heap t vs.toArray)(i:IsTup s.heap b ws.toArray)(hv:vs≠[])
  (h1:ws=[]->Q (.ref t) s) (j:ws≠[]->Q (.ref s.heap.objs.size) {s with heap:=s.heap.push {cls:=.type "tuple",data:=.seq (vs++ws).toArray}})
  (hsz:vs.length+ws.length<=sizeLine):wpAny (model prog w) A (binaryOp .Add (.ref t) (.ref b)) Q E s:=by
 obtain⟨⟨cls,dd,data,sl⟩,c,h,n,hd⟩:=id g;obtain⟨⟨k,a,data2,f⟩,d,l,n2,hd2⟩:=id i;subst h hd l hd2;have e:vs.toArray++ws.toArray=(vs++ws).toArray:=by simp
 by_cases hw:ws=[]
 .exact concat_meets #[_,c,rfl] #[_,d,rfl] noFill_tuple_add seq_tuple_add PySem.F.slot_tuple_add PySem.F.entry_tuple_add (PySem.F.args_tuple_add_2 _ _)
   (tuple_addW1 t b _ _ n n2 dd a sl f WF (by simp[hw])) #[c,d,h1 hw]
 .refine concat_meets #[_,c,rfl] #[_,d,rfl] noFill_tuple_add seq_tuple_add PySem.F.slot_tuple_add PySem.F.entry_tuple_add (PySem.F.args_tuple_add_2 _ _)
   (tuple_addW2 t b _ _ n n2 dd a sl f WF WF (‹_›)) #[c,d,?_]
  rw[e];exact j hw
abbrev _root_.CS:=Option Int
noncomputable def BJ(n d:Nat):CS->Nat
 | none=>d
 | some v=>if v<0 then(v+(n:Int)).toNat else min v.toNat n
def Ox(n d:Nat):BJ n d none=d:=rfl
def UN(n d k:Nat):BJ n d (some (k:Int))=min k n:=rfl
end HT
namespace L2
open PySem PySem.Spec PyProof.Rows
abbrev TO:=St->Hp->(CS->Hp->Prop)->Prop
def PO(X:Cx)(e:Option Expr)(t:TO):Prop:=
 ∀(pins:At) (s:Shared) (U:St) (H:Hp) (Q:CS->Hp->Prop),Inv X pins U H s->t U H Q →
  wpAny (model X.prog X.w) X.A (evalPart e X.env) (λu s'=>∃o H',Inv X pins U H' s'/\IsPart u o/\Q o H') X.xe s
noncomputable def UO:TO:=λ_ H Q=>Q none H
noncomputable def Pe(t:TE):TO:=λU H Q=>t U H λx H1=>∃i,x=.int i/\Q (some i) H1
variable{X:Cx}{e:Expr}{te:TE}{lo hi:Option Expr}{tl th:TO}{pos p2:Pos}
noncomputable def UQ:PO X none UO:=λpins s U H Q I h=>eR #[none,H,I,.none,h]
def UR(h:PE X e te):PO X (some e) (Pe te):=by
 intro pins s U H Q I hw;refine cJ (h pins s U H _ I hw) λu s1 zz=>?_;obtain⟨x,H1,c,a,b⟩:=zz;obtain⟨i,rfl,q⟩:=b;obtain⟨t,rfl⟩:=a;exact#[ _,H1,c,.int i t,q]
def xt(X:Cx)(r:V->CS->CS->Hp->VK->Prop):Prop:=
 ∀(pins:At) (s:Shared) (U:St) (H:Hp) (x:V) (v b a:Value) (lo hi:CS) (sl:Addr) (Q:VK),Inv X pins U H s->RelV x v->s.heap.IsSliceOf sl b a .none->IsPart b lo->IsPart a hi->r x lo hi H Q →
  ∃T id,typeLookup (.type T) "__getitem__" = pure (some (.builtin id))/\s.TypeIs v T/\wpAny (model X.prog X.w) X.A (getItem v (.ref sl)) (EP X pins U Q) X.xe s
noncomputable def Hc(r:V->CS->CS->Hp->VK->Prop)(te:TE)(tl th:TO):TE:=λU H Q=>te U H λx H1=>tl U H1 λl H2=>th U H2 λu a=>r x l u a Q
def B7{r:V->CS->CS->Hp->VK->Prop}(o:xt X r)(he:PE X e te)(p:PO X lo tl)(m:PO X hi th):PE X (.Subscript e (.Slice lo hi none p2) pos) (Hc r te tl th):=by
 intro pins s U H Q I h;refine Subscript_ (cJ (he pins s U H _ I h) λv s1 zz=>?_);obtain⟨x,H1,B,f,j⟩:=zz;refine wpAny_Slice (cJ (p pins s1 U H1 _ B j) λc s2 zz=>?_);obtain⟨l,H2,A,k,i⟩:=zz;refine cJ (m pins s2 U H2 _ A i) λa s3 zz=>?_;obtain⟨u,d,z,pu,g⟩:=zz;refine eR ?_;have y:Inv X pins U d {s3 with heap:=s3.heap.push {cls:=.type "slice",data:=.fields (List.toArray [c,a,.none])}}:=z.kept λb C q=>ff _ q;obtain⟨T,id,w,n,t⟩:=o pins _ U d x v c a l u _ Q y f (Heap.IsSliceOf.new ..) k pu g;exact tail_any n w t (rfl)
def Oz(xs:BS)(lo hi:CS):BS:=(xs.drop (HT.BJ xs.length 0 lo)).take (HT.BJ xs.length xs.length hi-HT.BJ xs.length 0 lo)
theorem B8(xs:BS)(lo hi:CS):(Oz xs lo hi).length<=xs.length:=by
 unfold Oz;rw[hJ,oT];lia
def Pd(K:Frag):R2:=λx y H Q=>∃a b xs ys,x=.ref a/\y=.ref b/\lN K H a xs/\lN K H b ys/\xs≠[]/\xs.length+ys.length<=sizeLine ∧
 (ys=[]->Q (.ref a) H)/\(ys≠[]->∀p,H p=none->Q (.ref p) (upd H p (.tup (xs++ys))))
theorem Vals.ug{xs:BS}{us:B0}(r:Vals xs us):us=[]↔xs=[]:=by
 cases r with
 | nil=>simp
 | cons _ _=>simp
theorem UT:lR X (binaryOp .Add) (Pd X.K):=by
 intro pins s U H x y v u Q I f e h;obtain⟨a,b,xs,ys,rfl,rfl,n,m,l,k,i,g⟩:=h;cases f;cases e;obtain⟨its,d,j,_⟩:=I.tuple n;obtain⟨p,c,p2,_⟩:=I.tuple m;refine HT.UM j p2 (λz=>l (d.ug.1 z)) (λz=>#[.ref a,H,I,rfl,i (c.ug.1 z)]) (λz=>?_) (by rw[<- d.length,<- c.length];exact k);refine#[.ref _,_,I.laid (λb o q=>ff _ q) (ea _) ?_,rfl,g (λw=>z (c.ug.2 w)) _ (I.bO.fresh (ea _))];exact#[ by simp_all,_,d.append c,IsTup.new _ _]
noncomputable def NK(n:Nat)(i:Int):Option Nat:=if 0<=i then(if i<n then some i.toNat else none) else if -(n:Int)<=i then some (i+n).toNat else none
def mw{α:Type}(xs:List α)(i:Int):Option α:=(NK xs.length i).bind λj=>xs[j]?
theorem HP{n:Nat}{i:Int}{j:Nat}(h:NK n i=some j):seqIndex? i n=some j/\j<n /\ -(n:Int)<=i/\i<n:=by
 unfold NK at h;by_cases h0:0<=i
 .rw[di h0]at h;by_cases h1:i<n
  .rw[di h1]at h;have e:=e5 h;exact#[by rw[seqIndex_of h0 h1,e],Wl,Wl,h1]
  simp_all
 .rw[cq h0]at h;by_cases h1:-n<=i
  .rw[di h1]at h;have e:=e5 h;exact#[by rw[seqIndex_neg Wl h1,e],Wl,h1,Wl]
  simp_all
theorem zF{α:Type}{xs:List α}{i:Int}{v:α}(h:mw xs i=some v):∃j,seqIndex? i xs.length=some j/\xs[j]? = some v/\j<xs.length /\ -(xs.length:Int)<=i/\i<xs.length:=by
 unfold mw at h;cases e:NK _ i with
 | none=>rw[e]at h;cases h
 | some j=>
  rw[e]at h;obtain⟨h1,c,b,a⟩:=HP e;exact#[j,h1,h,c,b,a]
theorem fY{α:Type}{xs:List α}{j:Nat}{v:α}(h:xs[j]? = some v):mw xs (j:Int)=some v:=by
 have a:=(gz.1 h).1;have e:NK xs.length j=some j:=by
  unfold NK;simp_all
 unfold mw;rw[e];exact h
def nq(b:Expr):Prop:=∀o i,subscripted b false o i=operate [o,i] (getItem o i)
def vb(X:Cx)(r:R2):Prop:=
 ∀(value slice:Expr) (pins:At) (s:Shared) (U:St) (H:Hp) (x y:V) (v u:Value) (Q:VK),Inv X pins U H s->RelV x v->RelV y u->r x y H Q →
  subscripted slice false v u=operate [v,u] (getItem v u)->wpAny (model X.prog X.w) X.A (subscriptTail value slice v u) (EP X pins U Q) X.xe s
def Z7(X:Cx)(id:String)(r:V->BS->Hp->VK->Prop):Prop:=
 ∀(pins:At) (s:Shared) (U:St) (H:Hp) (x:V) (xs:BS) (v:Value) (us:B0) (Q:VK),Inv X pins U H s->RelV x v->Vals xs us->r x xs H Q →
  wpAny (model X.prog X.w) X.A (call (.builtin id) (v::us)) (EP X pins U Q) X.xe s
section
variable{a b:Expr}{ta tb:TE}
noncomputable def B9{r:R2}(f:vb X r)(i:PE X a ta)(g:PE X b tb)(e:nq b):PE X (.Subscript a b pos) (q0 r ta tb):=λpins s U H Q I h=>Subscript_ (ZP i g I h λv u s2 x y H2 j d c q=>f a b pins s2 U H2 x y v u Q j d c q (e _ _))
def Me(K:Frag):R2:=λx y H Q=>∃p xs i v,x=.ref p/\y=.int i/\lM K H p xs/\mw xs i=some v/\Q v H
def Md(K:Frag):R2:=λx y H Q=>∃p xs i v,x=.ref p/\y=.int i/\lN K H p xs/\mw xs i=some v/\Q v H
def Mc:R2:=λx y H Q=>∃z i c,x=.str z/\y=.int i/\z.length<=sizeLine/\mw z.cps.toList i=some c/\Q (.str #[(List.toArray [c])]) H
theorem HQ:vb X (Me X.K):=by
 intro value slice pins s U H x y v u Q I d c h b;obtain⟨p,xs,i,z,rfl,rfl,e,he,q⟩:=h;cases d;obtain⟨t,rfl⟩:=c;obtain⟨its,r,a,n⟩:=I.list e;obtain⟨j,h1,l,B,k,g⟩:=zF he;obtain⟨w,C,m⟩:=r.get l;have A:=r.length;have o:=rB;have fin:EP X pins U Q w s:=#[z,H,I,m,q];by_cases h0:0<=i
 .have f:i.toNat=j:=by
   rw[seqIndex_of h0 g]at h1;grind
  exact item_listR a.isList h0 Wl WF fin b
 .have f:(i+its.toArray.size).toNat=j:=by
   rw[seqIndex_neg Wl k]at h1;simp_all
  exact subscriptTail_builtinR a.isList.typeIs slot_list_getitem.lookup
   (wpAny_getItem_list_neg a.isList Wl WF Wl WF #[rfl,fin]) b
theorem OD:vb X (Md X.K):=by
 intro value slice pins s U H x y v u Q I c b h d;obtain⟨p,xs,i,z,rfl,rfl,e,he,q⟩:=h;cases c;obtain⟨t,rfl⟩:=b;obtain⟨its,r,a,k⟩:=I.tuple e;obtain⟨j,h1,f,A,o,n⟩:=zF he;obtain⟨w,B,g⟩:=r.get f;have m:=r.length;have l:=rB;have fin:EP X pins U Q w s:=#[z,H,I,g,q];exact subscriptTail_builtinR a.typeIs slot_tuple_getitem.lookup
  (getItem_tuple (j:=j) a Wl Wl WF WF #[rfl,fin]) d
theorem Z8:vb X Mc:=by
 intro value slice pins s U H x y v u Q I b a h d;obtain⟨z,i,c,rfl,rfl,k,he,q⟩:=h;obtain⟨t,rfl⟩:=b;obtain⟨t',rfl⟩:=a;obtain⟨j,h1,n,m,g,f⟩:=zF he;have e:z.cps.toList.length=z.length:=rfl;rw[e]at h1 g f;have l:=rB;exact tail_any (ja s z t) slot_str_getitem.lookup (getItem_str (c:=c) WI WF #[.str #[(List.toArray [c])],H,I.tok _,#[_,rfl],q]) d
theorem zG(lo hi:CS)(n:Nat):(sliceBounds lo hi none n).1=((HT.BJ n 0 lo:Nat):Int)/\(sliceBounds lo hi none n).2.1=((HT.BJ n n hi:Nat):Int)/\(sliceBounds lo hi none n).2.2=1:=by
 refine#[?_,?_,rfl]
 .cases lo with
  | none=>simp[sliceBounds,HT.BJ]
  | some i=>
   simp[sliceBounds,HT.BJ,if_true];by_cases h:i<0
   .simp only[h,if_true]<;>lia
   .simp[h]<;>lia
 .cases hi with
  | none=>simp[sliceBounds,HT.BJ]
  | some i=>
   simp[sliceBounds,HT.BJ,if_true];by_cases h:i<0
   .simp only[h,if_true]<;>lia
   .simp[h]<;>lia
def xM(its:B0)(lo hi:CS):slicePick its.toArray lo hi none=((its.drop (HT.BJ its.length 0 lo)).take (HT.BJ its.length its.length hi-HT.BJ its.length 0 lo)).toArray:=by
 obtain⟨h1,b,a⟩:=zG lo hi _;unfold slicePick;rw[h1,b,a];simp only[sliceRange_one,pick_run]<;>rfl
def Ki(K:Frag):V->CS->CS->Hp->VK->Prop:=λx lo hi H Q=>∃a xs,x=.ref a/\lM K H a xs/\∀p,H p=none->Q (.ref p) (upd H p (.lst (Oz xs lo hi)))
theorem UU:xt X (Ki X.K):=by
 intro pins s U H x v k j lo hi sl Q I d i e pu h;obtain⟨a,xs,rfl,g,q⟩:=h;cases d;obtain⟨its,r,c,f⟩:=I.list g;have hlen:=r.length;refine#[ _,_,slot_list_getitem.lookup,c.isList.typeIs,?_];refine wpAny_getItem_list_slice c.isList i e pu .none WE ?_ WI;rw[xM,<- hlen];refine#[.ref _,_,I.laid (λb l q=>ff _ q) (ea _) ?_,rfl,q _ (I.bO.fresh (ea _))];exact#[er (B8 xs lo hi) f,_,0,(r.drop _).take _,hE _ rfl]
noncomputable def nS:V->Bool
 | .non=>true
 | .bl _=>true
 | .int _=>true
 | .str _ => true
 | _=>false
noncomputable def UW:V->V->Bool
 | .non,.non=>true
 | .bl a,.bl b=>a==b
 | .bl a,.int b=>(if a then 1 else 0)==b
 | .int a,.bl b=>a==(if b then 1 else 0)
 | .int a,.int b=>a==b
 | .str a, .str b => a == b
 | _,_=>false
theorem Z9{A:Around}{s:Shared}{y x:V}{u v:Value}(d:RelV y u)(c:RelV x v)(f:nS y=true)(e:nS x=true):SeqAt.EqAt A s u v (UW y x):=by
 cases y with
 | non=>
  cases d;cases x with
  | non=>cases c;exact SeqAt.EqAt.same _
  | bl b=>cases c;exact SeqAt.EqAt.none_bool b
  | int b=>obtain⟨t,rfl⟩:=c;exact SeqAt.EqAt.none_int b t
  | str b=>obtain⟨t,rfl⟩:=c;exact SeqAt.EqAt.none_str b t
  | _=>exact absurd (show false=true from e) fg
 | bl a=>
  cases d;cases x with
  | non=>cases c;exact SeqAt.EqAt.bool_none a
  | bl b=>cases c;exact SeqAt.EqAt.bool_bool a b
  | int b=>obtain⟨t,rfl⟩:=c;exact SeqAt.EqAt.bool_int a b t
  | str b=>obtain⟨t,rfl⟩:=c;exact SeqAt.EqAt.bool_str a b t
  | _=>exact absurd (show false=true from e) fg
 | int a=>
  obtain⟨t',rfl⟩:=d;cases x with
  | non=>cases c;exact SeqAt.EqAt.int_none a t'
  | bl b=>cases c;exact SeqAt.EqAt.int_bool a t' b
  | int b=>obtain⟨t,rfl⟩:=c;exact SeqAt.EqAt.int_int a t' b t
  | str b=>obtain⟨t,rfl⟩:=c;exact SeqAt.EqAt.int_str a t' b t
  | _=>exact absurd (show false=true from e) fg
 | str a=>
  obtain⟨t',rfl⟩:=d;cases x with
  | non=>cases c;exact SeqAt.EqAt.str_none a t'
  | bl b=>cases c;exact SeqAt.EqAt.str_bool a t' b
  | int b=>obtain⟨t,rfl⟩:=c;exact SeqAt.EqAt.str_int a t' b t
  | str b=>obtain⟨t,rfl⟩:=c;exact SeqAt.EqAt.str_str a t' b t
  | _=>exact absurd (show false=true from e) fg
 | _=>exact absurd (show false=true from f) fg
def km(x:V)(u:Value):Bool:=match u with
 | .none=>UW .non x
 | .bool b=>UW (.bl b) x
 | .int i _=>UW (.int i) x
 | .str z _ => UW (.str z) x
 | _=>false
theorem OG{x y:V}{u:Value}(r:RelV y u)(f:nS y=true):km x u=UW y x:=by
 cases y with
 | non=>cases r;rfl
 | bl b=>cases r;rfl
 | int i=>obtain⟨t,rfl⟩:=r;rfl
 | str z=>obtain⟨t,rfl⟩:=r;rfl
 | _=>exact absurd (f) fg
theorem pO{x:V}:∀{xs:BS} {us:B0},Vals xs us->xs.all nS=true->us.any (km x)=xs.any λy=>UW y x
 | _,_,.nil,_=>rfl
 | y::xs,u::us,.cons r t,f=>by
  rw[jO,et]at f;rw[i3,i3,OG r f.1,pO t f.2]
theorem mz{A:Around}{s:Shared}{x:V}{v:Value}(b:RelV x v)(c:nS x=true):∀{xs:BS} {us:B0},Vals xs us->xs.all nS=true->∀u∈us,SeqAt.EqAt A s u v (km x u)
 | _,_,.nil,_=>λu a=>by cases a
 | y::xs,u::us,.cons r t,f=>λd a=>by
  rw[jO,et]at f;obtain rfl|a:=d3.1 a
  .rw[OG r f.1];exact Z9 r b f.1 c
  .exact mz b c t f.2 d a
def kf(x:V)(xs:BS):Bool:=xs.any λy=>UW y x
def y1(K:Frag)(neg:Bool):R2:=λx y H Q=>∃p xs,y=.ref p/\(lM K H p xs\/lN K H p xs)/\nS x=true/\xs.all nS=true/\Q (.bl (if neg then !kf x xs else kf x xs)) H
theorem ny:lR X (compareOp .In) (y1 X.K false):=by
 intro pins s U H x y v u Q I c e h;obtain⟨p,xs,rfl,a,d,fs,q⟩:=h;cases e;obtain a|a:=a
 .obtain⟨its,r,b,f⟩:=I.list a;refine SeqAt.in_listAt _ b.isList (λw hw=>mz c d r fs w WF) #[.bl _,H,I,rfl,?_];rw[show its.toArray.any _=its.any (km x) by simp,pO r fs];exact q
 .obtain⟨its,r,b,f⟩:=I.tuple a;refine SeqAt.in_tupleAt _ b (λw hw=>mz c d r fs w WF) #[.bl _,H,I,rfl,?_];rw[show its.toArray.any _=its.any (km x) by simp,pO r fs];exact q
theorem iX:lR X (compareOp .NotIn) (y1 X.K true):=by
 intro pins s U H x y v u Q I c e h;obtain⟨p,xs,rfl,a,d,fs,q⟩:=h;cases e;obtain a|a:=a
 .obtain⟨its,r,b,f⟩:=I.list a;refine SeqAt.notIn_listAt _ b.isList (λw hw=>mz c d r fs w WF) #[.bl _,H,I,rfl,?_];rw[show its.toArray.any _=its.any (km x) by simp,pO r fs];exact q
 .obtain⟨its,r,b,f⟩:=I.tuple a;refine SeqAt.notIn_tupleAt _ b (λw hw=>mz c d r fs w WF) #[.bl _,H,I,rfl,?_];rw[show its.toArray.any _=its.any (km x) by simp,pO r fs];exact q
theorem zH:jG X (.builtin "len") (λxs H Q=>∃p ys,xs=[.ref p]/\(lM X.K H p ys\/lN X.K H p ys)/\Q (.int ys.length) H):=by
 intro pins s U H xs us Q I r h;obtain⟨p,ys,rfl,a,q⟩:=h;obtain⟨u,rfl,d⟩:=vals1 r;cases d;have f:=rB;obtain a|a:=a
 .obtain⟨its,b,c,e⟩:=I.list a;have hlen:=b.length;exact Calls.call_len_list c.isList (by simp only[tL]<;>lia) #[.int _,H,I.tok _,#[s.toks+1,by simp_all ],q]
 .obtain⟨its,b,c,e⟩:=I.tuple a;have hlen:=b.length;exact len_tuple c (by simp only[tL]<;>lia) #[.int _,H,I.tok _,#[s.toks+1,by simp_all ],q]
theorem zI:jG X (.builtin "len") (λxs H Q=>∃z,xs=[.str z]/\z.length<=sizeLine/\Q (.int z.length) H):=by
 intro pins s U H xs us Q I r h;obtain⟨z,rfl,a,q⟩:=h;obtain⟨u,rfl,t,rfl⟩:=vals1 r;have b:=rB;exact len_str Wl #[.int _,H,I.tok _,#[_,rfl],q]
theorem zJ:jG X (.type "list") (λxs H Q=>∃p ys,xs=[.ref p]/\(lM X.K H p ys\/lN X.K H p ys)/\∀l,H l=none->Q (.ref l) (upd H l (.lst ys))):=by
 intro pins s U H xs us Q I r h;obtain⟨p,ys,rfl,d,q⟩:=h;obtain⟨u,rfl,k⟩:=vals1 r;cases k;have fin:∀(its:List _),Vals ys its->ys.length<=sizeLine->∀(h':Heap) (j:Nat),(∀b o',s.heap.get? b=some o'->h'.get? b=some o') →
   h'.get? _=some _->EP X pins U Q _ _:=λits a c h' j kp e=>
  #[.ref _,_,I.laid (t':=s.toks) kp (ea _) (show eS _ X.w _ h' _ (.lst ys) from#[c,its,j,a,e]),rfl,q _ (I.bO.fresh (ea _))]
 obtain d|d:=d
 .obtain⟨its,a,f,c⟩:=I.list d;have hlen:=a.length;obtain⟨o,g,i,n,hd⟩:=f.isList;exact call_list_seq p (.inl rfl) g i hd (fin its a c) WI
 .obtain⟨its,a,f,c⟩:=I.tuple d;have hlen:=a.length;obtain⟨o,g,i,n,hd⟩:=f;exact call_list_seq p (.inr rfl) g i hd (fin its a c) WI
theorem xN:jG X (.type "tuple") (λxs H Q=>∃p ys,xs=[.ref p]/\((lM X.K H p ys/\∀l,H l=none->Q (.ref l) (upd H l (.tup ys)))\/(lN X.K H p ys/\Q (.ref p) H))):=by
 intro pins s U H xs us Q I r h;obtain⟨p,ys,rfl,h⟩:=h;obtain⟨u,rfl,i⟩:=vals1 r;cases i;obtain⟨d,q⟩|⟨d,q⟩:=h
 .obtain⟨its,a,c,f⟩:=I.list d;have hlen:=a.length;refine call_tuple_list c.isList (λh' kp=>?_) WI;have g:=I.kept (t':=s.toks) kp;have j:=
   g.laid (t':=s.toks) (λb o e=>ff _ e) (ea _) (show eS _ X.w _ _ _ (.tup ys) from#[f,its,a,IsTup.new _ _])
  exact#[.ref _,_,j,rfl,q _ (g.bO.fresh (ea _))]
 .obtain⟨its,a,c,f⟩:=I.tuple d;exact call_tuple_same c #[.ref p,H,I,rfl,q]
def x4(K:Frag)(T:String)(x:V)(H:Hp):Prop:=match x with
 | .str _ => T = "str"
 | .int _=>T="int"
 | .ref p=>(T="list" /\ ∃xs,lM K H p xs)\/(T="tuple" /\ ∃o,K.lookup p=some o/\o.cls=.type "tuple" /\ o.dict=none) ∨
   (T="dict" /\ ((∃aN,H p=some (.dK aN))\/∃aN ep,H p=some (.dT aN ep)))\/(T="set" /\ ∃S n,H p=some (.set S n))
 | _=>False
theorem Yi{pins:At}{U:St}{H:Hp}{s:Shared}{T:String}{x:V}{v:Value}(I:Inv X pins U H s)(r:RelV x v)(ty:x4 X.K T x H) :
  s.TypeIs v T/\∀a,v=.ref a->∃f,s.heap.get? a=some f/\f.dict=none:=by
 cases x with
 | str z=>
  obtain⟨t,rfl⟩:=r;cases (ty);exact#[ja s z t,λ_ e=>nomatch e]
 | int i=>
  obtain⟨t,rfl⟩:=r;cases (ty);exact#[typeIs_int s i t,λ_ e=>nomatch e]
 | ref p=>
  cases r;obtain⟨rfl,xs,g⟩|⟨rfl,o,b,h,hd⟩|⟨rfl,b⟩|⟨rfl,S,n,b⟩:=ty
  .obtain⟨its,_,d,_⟩:=I.list g;refine#[d.isList.typeIs,λa e=>?_];obtain⟨o,n,e,c,hd,_⟩:=d;simp_all
  .refine#[#[o,I.j7 p o b,h],λa e=>?_];cases e;exact#[o,I.j7 _ o b,hd]
  .have z:∃o,s.heap.get? p=some o/\o.ExactDict:=by
    obtain⟨aN,b⟩|⟨aN,ep,b⟩:=b
    .obtain⟨_,_,_,_,o,_,_,e,ex,_⟩:=I.bO p _ b;simp_all
    .obtain⟨_,_,_,_,o,_,_,e,ex,_⟩:=I.bO p _ b;simp_all
   obtain⟨o,e,ex⟩:=z;refine#[#[o,e,ex.1],λa e2=>?_];cases e2;exact#[o,e,ex.2.1]
  .obtain⟨o,_,_,_,e,ex,_⟩:=I.bO p _ b;refine#[#[o,e,ex.1],λa e2=>?_];cases e2;exact#[o,e,ex.2.1]
 | _=>exact False.elim ty
noncomputable def Hk(K:Frag)(T:String)(r:V->BS->Hp->VK->Prop)(to:TE)(t:TA):TE:=λU H Q=>to U H λx H1=>x4 K T x H1/\t U H1 λxs H2=>r x xs H2 Q
variable{o:Expr}{es:CC}{to:TE}{t:TA}{name:Str}{apos gU:Pos}{T id:String}{r:V->BS->Hp->VK->Prop}
def sO(pa:PlainAttrs T)(slot:Slot T name id)(b:typeOf (.builtin id)=pure (.type "method_descriptor"))(hm:Z7 X id r)(m:PE X o to)(n:PA X (e::es) t)
  (q:AS X o name:=by rfl)
  (k:((backTo gU (starEach (e::es) X.env)).all (λx=>!x.1)&&(backToKw gU (keywordEach [] X.env)).all (λx=>x.1.isSome)
   && decide ((e::es).length+([]:ET).length+(if ([]:ET).isEmpty then 0 else 1)<30))=true:=by rfl)
  (a:(apos.endLine==gU.line)=true:=by rfl) (l:AC X e es:=by rfl) (w:AL X gU es:=by rfl) :
  PE X (.Call (.Attribute o name apos) (e::es) [] gU) (Hk X.K T r to t):=by
 intro pins s U H Q I h;refine wpAny_Call_method_late q k a rfl (cJ (m pins s U H _ I h) λv s1 zz=>?_);obtain⟨x,H1,f,c,ty,j⟩:=zz;obtain⟨h1,p⟩:=Yi f c ty;refine#[T,id,pa,slot,b,h1,p,?_];have d:=n gU pins s1 U H1 _ f j;rw[l]at d ⊢;refine Calls.callWith_builtin (‹_›) (Calls.evalArgs_plain ?_);refine cJ d λus s2 zz=>?_;obtain⟨vs,H2,u,g,i⟩:=zz;exact hm pins s2 U H2 x vs v us Q u c g i
end
def FX(X:Cx)(id:String)(r:V->BS->Hp->VK->Prop):Prop:=
 ∀(pins:At) (s:Shared) (U:St) (H:Hp) (x:V) (xs:BS) (v:Value) (us:B0) (Q:VK),Inv X pins U H s->RelV x v->Vals xs us->r x xs H Q →
  wpAny (model X.prog X.w) X.A (call (.builtin id) (v::us)) (EP X pins U Q) X.xe s
variable{x:V}
theorem Vals.one{us:B0}(h:Vals [x] us):∃u,us=[u]/\RelV x u:=by
 cases h with
 | cons r h=>cases h;exact#[_,rfl,r]
theorem Vals.two{y:V}{us:B0}(h:Vals [x,y] us):∃u v,us=[u,v]/\RelV x u/\RelV y v:=by
 cases h with
 | cons r h=>cases h with
  | cons q h=>cases h;exact#[_,_,rfl,r,q]
variable{pins:At}{U:St}{H:Hp}{s:Shared}{l:Addr}{xs ys:BS}
theorem Inv.Kb{its a:B0}{n:Nat}{f:Db->Db}{t':Nat}(I:Inv X pins U H s)(g:H l=some (.lst xs))
  (e:s.heap.get? l=some {cls:=.type "list",data:=.seq its.toArray n}) (hf:f its.toArray=a.toArray) (hv:Vals ys a) (b:ys.length<=sizeLine) :
  Inv X pins U (upd H l (.lst ys)) {s with heap:=s.heap.update l (Obj.mapSeq f),toks:=t'}:=by
 have q:=PySem.IsL.update e f;rw[hf]at q;refine I.write (g▸trivial) (.inl rfl) (λh u d c=>(Heap.get?_update_other _ _ (Ne.symm d)).trans c) #[_,q] ?_;exact#[b,a,_,hv,q]
theorem Inv.OI{its:B0}{t':Nat}(I:Inv X pins U H s)(hv:Vals ys its)(a:ys.length<=sizeLine) :
  Inv X pins U (upd H s.heap.objs.size (.lst ys)) {s with heap:=s.heap.push {cls:=.type "list",data:=.seq its.toArray},toks:=t'}:=
 I.laid (λ_ _ q=>ff _ q) (ea _) #[a,its,0,hv,hE _ rfl]
theorem Inv.fresh(I:Inv X pins U H s):H s.heap.objs.size=none:=I.bO.fresh (ea _)
theorem Inv.JU(I:Inv X pins U H s)(a:H l=some (.lst xs)):xs.length<=sizeLine/\∃(its:B0) (n:Nat),Vals xs its/\xs.length=its.length/\s.heap.get? l=some {cls:=.type "list",data:=.seq its.toArray n}:=by
 obtain⟨z,its,n,r,e⟩:=I.bO l _ a;exact#[z,its,n,r,r.length,e]
def UX:V->BS->Hp->VK->Prop:=λx vs H Q=>∃l xs y,x=.ref l/\vs=[y]/\H l=some (.lst xs)/\xs.length<sizeLine/\Q .non (upd H l (.lst (xs++[y])))
theorem rE:FX X "list.append" UX:=by
 intro pins s U H x vs v us Q I b c h;obtain⟨l,xs,y,rfl,rfl,a,f,q⟩:=h;cases b;obtain⟨u,rfl,d⟩:=c.one;obtain⟨z,its,n,r,g,e⟩:=I.JU a;refine call_meets F.slot_list_append #[_,e,rfl] F.entry_list_append (F.args_list_append_2 _ _) (PySem.list_append l _ n u WI) #[e,?_];refine#[.non,_,I.Kb a e WE (r.append (.cons d .nil)) ?_,rfl,q];grind
end L2
namespace Att
open PySem PySem.W PySem.Calls PyProof.Rows
abbrev _root_.BN:=List Int
def tF{P:Params}{h:Heap}:∀(ns:BN) (vs:B0),WellAll P h vs (ns.map WData.int)->IntsAre vs ns:=by
 intro ns
 induction ns with
 | nil=>
  intro vs w;cases w;exact .nil
 | cons n ns c=>
  intro vs w;cases w with
  | cons a b=>
   cases a;exact .cons _ _ (c _ b)
theorem Kx{l:OpenLaw}{n:Nat}(k:l.most=some n){P:Params}{h:Heap}{args:List WData}{vals:B0}
  (e:l.row.toRowW.claim.pre args=true) (c:WellAll P h vals args) :
  ∃a vs ns,vals=[Value.ref a]/\args=[WData.list (ns.map WData.int)]/\h.get? a=some {cls:=.type "list",data:=.seq vs.toArray}/\IntsAre vs ns/\ns.length<=n:=by
 have r3:=(pre_splitW e).1;have m:=(pre_splitW e).2;obtain⟨d,r,rfl,h1,p⟩:=hasAllW_cons r3;obtain rfl:=hasAllW_nil p;obtain⟨xs,rfl,o⟩:=hasW_list h1;obtain⟨ns,rfl⟩:=items_int o;have hlen:ns.length<=n:=by
  have b:=by
   have b:=(holds_andW m).1;rw[k]at b;exact b
  have q:=condW_of b (w_not (w_lt w_lit (w_len_list (w_arg rfl))));simp_all
 cases c with
 | cons g f=>
  cases f;cases g with
  | list j i=>exact#[_,_,ns,rfl,rfl,j,tF ns _ i,hlen]
def Ky(l:OpenLaw)(args:List WData):l.row.toRowW.claim.post args (.bool true) args=true:=
 postW_of
  (rfl)
  (w_eq_bool (w_res rfl) w_lit) rfl
def Ca{l:OpenLaw}{n:Nat}{q:Program}{loose:AT}{p:BM->Heap->Prop}{m:World->Heap->Prop}{d:DefRec}
  (v:l.most=some n) (h:d.params.defaults=[])
  (call:∀(w:World) (eh b:Shared) (mg mb:BM) (c:Addr) (o:Obj) (pm cd doc:Value) (a:Addr) (vs:B0) (ns:BN),
   Ground q loose [] p w eh mg mb b.heap->m w b.heap →
   b.heap.get? c=some o->o.data=.func (docDef d.name d.params d.body d.scope pm cd doc)->b.heap.CodeRec cd d.name->mg d.name=some (.ref c) →
   b.heap.get? a=some {cls:=.type "list",data:=.seq vs.toArray}->IntsAre vs ns->ns.length<=n->b.gens=#[] →
   codeAny (model l.prog w) callerA (.call (.ref c) #[[.ref a],[]]) (λr s'=>r=.ok (.ret (.bool true))/\OldK b.heap s'.heap/\s'.os=b.os/\AllBare s'.gens) b) :
  WalkO q loose p m l.row.toRowW d [] (λf vs=>PySem.call f vs):=by
 intro w eh b mg mb G Y c o pm cd doc dV kV u hd gX k g y args vals as C j s e x;obtain rfl:dV=.none:=Dflts.none k h;obtain rfl:kV=.none:=Dflts.noKw k;obtain⟨a,vs,ns,rfl,rfl,i,hints,hlen⟩:=Kx v C e;refine enter_call (codeAny_mono (call w eh b mg mb c o pm cd doc a vs ns G Y u (fd_plain hd) gX g i hints hlen y) λr s' t=>?_);obtain⟨rfl,B,A,z⟩:=t;exact#[.inl #[ _,_,[],rfl,λ_=>rfl,.bool true,Ky l _,λ_=>#[List.Pairwise.nil,λ_ hm=>(nomatch hm)]],B,A,z]
noncomputable def ledger(h:Heap)(L d:Addr):At:=(List.range h.objs.size).filterMap λa=>if a=L\/a=d then none else(h.get? a).map λo=>(a,o)
end Att
namespace L2
open PySem PySem.Spec PyProof.Rows
theorem yy:∀{vs:B0} {ns:BN},IntsAre vs ns->Vals (ns.map V.int) vs
 | _,_,.nil=>.nil
 | _,_,.cons n t h=>.cons #[t,rfl] (yy h)
def l9(H:Hp):Prop:=∀b,H b=none\/∃o xs,H b=some (.d7 o (.lst xs))
variable{P:Program}{w:World}{a:Addr}{x:Str}
theorem OJ{K:Frag}{mg mb:BM}{CX:Ku}{k:Nat}{C:Addr}{fd:FuncData}{sp:Sp}{c:Shared}{vs:B0}{ns:BN}
  (N:K.In c.heap) (j:c.heap.Ns mainGlobals mg) (f:c.heap.Ns builtinsNs mb) (y:∀x:Str,x≠"__name__"->mb x=bootBuiltins x) (G:c.heap.NoLimit) (Y:c.gens=#[])
  (A:c.heap.get? a=some {cls:=.type "list",data:=.seq vs.toArray}) (hi:IntsAre vs ns) (L:ns.length<=sizeLine) (X:dI k callerA)
  (F:∀base:Heap,K.In base->base.Ns mainGlobals mg->eU P w K mg base CX k C fd [x] sp) (I:∀(s:Shared) (u:Value),BindsTo s fd #[[u],[]] [(x,u)])
  (HM:∀H:Hp,l9 H->lM K H a (ns.map V.int)->sp [.ref a] H (λv _=>v=.bl true) λ_ _ _=>False)
  (B:∀H e s',CX [] H c (λ_ _ _=>False) e s'->False) :
  codeAny (model P w) callerA (.call (.ref C) #[[.ref a],[]]) (λr s'=>r=.ok (.ret (.bool true))/\OldK c.heap s'.heap/\s'.os=c.os/\AllBare s'.gens) c:=by
 have J:=yy hi;have E:=hi.length;have core:∀H:Hp,l9 H->lM K H a (ns.map V.int)->lY P w H c.heap->(∀b,H b≠none->b=a)->(H a≠none->K.lookup a=none) →
   codeAny (model P w) callerA (.call (.ref C) #[[.ref a],[]]) (λr s'=>r=.ok (.ret (.bool true))/\OldK c.heap s'.heap/\s'.os=c.os/\AllBare s'.gens) c:=by
  intro H M Z bO hA hK;have O:∀{b:Addr} {o:Obj},c.heap.get? b=some o->H b=none->(zx c.heap H).get? b=some o:=λe n=>N4 e n;have p:∀{b:Addr} {o:Obj} {es:Array DictEntry} {ep:Nat},c.heap.get? b=some o->o.data=.dict es ep->H b=none:=λ{b o es ep} e d=>by grind
  have g:∀{b:Addr} {m:BM},c.heap.Ns b m->(zx c.heap H).Ns b m:=λ{b m} ⟨o,es,ep,e,d,r⟩=>#[o,es,ep,O e (p e d),d,r];have l:K.In (zx c.heap H):=λb o e=>O (N b o e) WI;have hM:Mod K mg (zx c.heap H):=#[l,g j,#[mb,g f,y],let ⟨W,h1,h2⟩:=G;#[W,g h1,h2]];have e0:EI P w K mg (zx c.heap H) callerA [] c H:=#[rfl,hM,λb o e=>UB e,Nat.le_of_eq (Ke _ _),trivial,λb f=>absurd (show b∈([]:BY) from f) WE,bO,.of_eq Y];refine lp ((F _ l (g j)).run callerA [] c H #[[.ref a],[]] [.ref a] [.ref a] _ _ X e0 (I c (.ref a)) (.cons rfl .nil) (HM H M Z)) λr s' h=>?_;cases r with
  | error e=>exact(B H e s' h).elim
  | ok fl=>
   cases fl with
   | next=>exact False.elim h
   | brk=>exact False.elim h
   | cont=>exact False.elim h
   | ret u=>
    obtain⟨v,H',os,bare,un,D,S,q⟩:=h;have T:v=.bl true:=q;subst T;obtain rfl:u=Value.bool true:=S;refine#[rfl,OldK.of_keep λb o e=>?_,os,bare];cases q:H b with
    | none=>exact un.keep b o e q (by intro z;exact absurd (show b∈([]:BY) from z) WE) WE
    | some u=>
     obtain z|⟨U,xs,z⟩:=M b
     .rw[q]at z;cases z
     .have R:=un.dO b U _ z;obtain⟨e1,_⟩:=bO b _ z;obtain⟨e2,_⟩:=D b _ R;rw[e]at e1;cases e1;exact e2
 cases t:K.lookup a with
 | some o=>
  have e:=N a o t;rw[A]at e;cases e;refine core (λ_=>none) (λ_=>.inl rfl) (.inr #[_,vs.toArray,_,t,rfl,rfl,rfl,by rw[List.size_toArray,E];exact L,by simpa using J]) (λb u z=>by have i:(none:Option HO)=some u:=z;cases i) (λb z=>absurd rfl z) λz=>absurd rfl z
 | none=>
  refine core (λb=>if b=a then some (.d7 {cls:=.type "list",data:=.seq vs.toArray} (.lst (ns.map V.int))) else none) (λb=>?_) (.inl (.inr #[{cls:=.type "list",data:=.seq vs.toArray},di rfl])) (λb u z=>?_) (λb z=>?_) λ_=>t
  .by_cases f:b=a
   .exact .inr #[_,_,di f]
   .exact .inl (cq f)
  .by_cases f:b=a
   .have i:=(di f).symm.trans z;cases i;subst f;exact#[A,by rw[d4];exact L,vs,_,J,A]
   .have i:=(cq f).symm.trans z;cases i
  .by_cases f:b=a
   .exact f
   .exact absurd (cq f) z
def UZ{l:PySem.W.OpenLaw}{n k:Nat}{q:Program}{loose:AT}{M:BM->Heap->Prop}{y:World->Heap->Prop}{d:DefRec}{K:Params->Frag}{CX:World->Ku}{sp:World->Sp}
  (B:l.most=some n) (j:n<=sizeLine) (p:d.params.defaults=[]) (A:dI k callerA)
  (E:∀(w:World) (h:Heap),y w h->(K w.params).In h)
  (F:∀(w:World) (mg:BM) (i:Addr) (h:Heap),(K w.params).In h->h.Ns mainGlobals mg->mg d.name=some (.ref i) →
   ∃fd:FuncData,(∀(s:Shared) (u:Value),BindsTo s fd #[[u],[]] [(x,u)]) ∧
    ∀base:Heap,(K w.params).In base->base.Ns mainGlobals mg->eU l.prog w (K w.params) mg base (CX w) k i fd [x] (sp w))
  (N:∀(w:World) (H:Hp) (a:Addr) (ns:BN),ns.length<=n->l9 H->lM (K w.params) H a (ns.map V.int)->sp w [.ref a] H (λv _=>v=.bl true) λ_ _ _=>False)
  (r:∀(w:World) (H:Hp) (s:Shared) (e:Value) (s':Shared),CX w [] H s (λ_ _ _=>False) e s'->False) :
  PySem.W.WalkO q loose M y l.row.toRowW d [] (λf vs=>PySem.call f vs):=by
 refine Att.Ca B p λw eh c mg mb i o pm cd doc a vs ns G Y O hd gX m t hints hlen C=>?_;have z:=E w _ Y;obtain⟨fd,D,L⟩:=F w mg i _ z G.T.g m;exact OJ z G.T.g G.T.b G.T.builtins G.T.nolimit C t hints (er hlen j) A L D (λH J I=>N w H a ns hlen J I) λH e s'=>r w H c e s'
def inClass(s:Stmt)(j:Nat):Stmt:=match s with
 | .ClassDef _ _ _ body _ _ _ _ _ _ _=>body.getD j (.Pass #[0,0,0,0])
 | _=>.Pass #[0,0,0,0]
def fZ(s:Stmt):Arguments:=match s with
 | .FunctionDef _ a _ _ _ _ _ _ _ _=>a
 | _=>{posonlyargs:=[],args:=[],vararg:=none,kwonlyargs:=[],kw_defaults:=[],kwarg:=none,defaults:=[]}
def bJ(s:Stmt):CO:=match s with
 | .FunctionDef _ _ b _ _ _ _ _ _ _=>b
 | _=>[]
def aC(s:Stmt):Scope:=match s with
 | .FunctionDef _ _ _ _ _ _ sc _ _ _=>sc
 | _=>{kind:=.function,names:=[],isGenerator:=false,isCoroutine:=false}
noncomputable abbrev tG:Ku:=λ_ _ _ _ _ _=>False
noncomputable abbrev E0:XK:=λ_ _ _=>False
variable{X:Cx}
noncomputable def HS:Passes tG X E0:=λ_ _ _ _ _ _ _ h=>h.elim
structure NP(K:Frag)(x qual:Str)(st:Stmt)(f:Addr)(fd:FuncData):Prop where
 ex:∃(dV oc:Value) (od:B2) (kV doc pm:Value) (an:B2) (dP ct:Value) (B6:CU),
  fd=fnOf x qual (fZ st) (bJ st) (aC st) dV kV doc pm an dP ct/\K.lookup f=some #[oc,od,.func fd,B6]/\codeIn K dP qual=true
 kp:keepIn K (.ref f)=true
variable{K:Frag}
theorem NP.binds{qual:Str}{st:Stmt}{f:Addr}{fd:FuncData}{ps:AT}(F:NP K x qual st f fd)(hd:fd.defaults=.none)
  (h:∀(kV doc pm:Value) (an:B2) (dP ct:Value) (us:B0),us.length=ps.length->bindArgs (fnOf x qual (fZ st) (bJ st) (aC st) .none kV doc pm an dP ct) #[us,[]]=pure (ps.zip us)):Binds K fd ps []:=by
 obtain⟨dV,oc,od,kV,doc,pm,an,dP,ct,B6,rfl,lk,gX⟩:=F.ex;cases (show dV=.none from hd);exact .all (h kV doc pm an dP ct)
def OL{qual:Str}{st:Stmt}{f:Addr}{oc:Value}{od an:B2}{B6:CU}{kV doc pm dP ct:Value}(l:K.lookup f=some #[oc,od,.func (fnOf x qual (fZ st) (bJ st) (aC st) .none kV doc pm an dP ct),B6])
  (c:codeIn K dP qual=true) (k:keepIn K (.ref f)=true):NP K x qual st f (fnOf x qual (fZ st) (bJ st) (aC st) .none kV doc pm an dP ct):=#[#[.none,oc,od,kV,doc,pm,an,dP,ct,B6,rfl,l,c],k]
noncomputable def cL{n:Nat}(h:n<=1000):n<sizeLine:=pl h WA
def ER{A B:Prop}(h:B):if false=true then A else B:=‹_›
def EV{A B:Prop}(h:A):if true=true then A else B:=‹_›
def aB(H H':Hp):Prop:=∀b o,H b=some o->H' b=some o
theorem aB.refl(H:Hp):aB H H:=λ_ _ h=>h
variable{H:Hp}
theorem aB.trans{H1 H2:Hp}(a:aB H H1)(b:aB H1 H2):aB H H2:=λc o h=>b c o (a c o h)
variable{H':Hp}
theorem aB.free(e:aB H H'){l:Addr}(h:H' l=Option.none):H l=Option.none:=by
 cases q:H l with
 | none=>rfl
 | some o=>
  rw[e l o q]at h;cases h
theorem aB.seq{xs:BS}(e:aB H H')(h:lM K H a xs):lM K H' a xs:=by
 rcases h with(h|⟨o,h⟩)|h
 .exact .inl (.inl (e _ _ h))
 .exact .inl (.inr #[o,e _ _ h])
 .exact .inr h
section
variable{κ:Type}[DecidableEq κ]
noncomputable def iE(aN:List (κ×V))(k:κ):Option V:=(aN.find? λa=>decide (a.1=k)).map (·.2)
noncomputable def putK(aN:List (κ×V))(k:κ)(v:V):List (κ×V):=
 if (aN.any λa=>decide (a.1=k))=true then aN.map (λa=>if a.1=k then(a.1,v) else a) else aN++[(k,v)]
def mC{p:κ×V}{r:List (κ×V)}{k:κ}(e:p.1=k):iE (p::r) k=some p.2:=by simp[iE,jR,e]
def j9{p:κ×V}{r:List (κ×V)}{k:κ}(e:¬ p.1=k):iE (p::r) k=iE r k:=by simp[iE,jR,e]
theorem Cb(k:κ):∀aN:List (κ×V),(aN.any λa=>decide (a.1=k))=(iE aN k).isSome
 | []=>rfl
 | p::r=>by
  rw[i3];by_cases e:p.1=k
  .simp only[mC e,eD e,Bool.true_or,Option.isSome_some]
  .rw[j9 e,eu e,Bool.false_or];exact Cb k r
theorem mD(aN:List (κ×V))(k:κ)(v:V):(putK aN k v).length<=aN.length+1:=by
 unfold putK;split
 .rw[d4];lia
 .rw[fv,gv,List.length_nil];lia
theorem oJ.kg{o:Option V}{u:D2}(r:oJ o u):o.isSome=u.isSome:=by
 cases o with
 | none=>cases u with
  | none=>rfl
  | some _=>exact(show False from r).elim
 | some _=>cases u with
  | none=>exact(show False from r).elim
  | some _=>rfl
theorem oJ.getD{o:Option V}{u:D2}{d:V}{a:Value}(r:oJ o u)(b:RelV d a):RelV (o.getD d) (u.getD a):=by
 cases o with
 | none=>cases u with
  | none=>exact b
  | some _=>exact(show False from r).elim
 | some _=>cases u with
  | none=>exact(show False from r).elim
  | some _=>exact r
theorem KV.val{aN:List (κ×V)}{vs:List (κ×Value)}(r:KV aN vs)(k:κ):oJ (iE aN k) (valueAt vs k):=by
 unfold KV at r
 induction r with
 | nil=>exact True.intro
 | @cons p q ps qs h t c=>
  obtain⟨h1,d⟩:=h;by_cases e:p.1=k
  .have a:q.1=k:=h1.symm.trans e;have b:valueAt (q::qs) k=some q.2:=by simp[valueAt,jR,a]
   rw[mC e,b];exact d
  .have a:¬ q.1=k:=λz=>e (h1.trans z);have b:valueAt (q::qs) k=valueAt qs k:=by simp[valueAt,jR,a]
   rw[j9 e,b];exact c
theorem KV.any{aN:List (κ×V)}{vs:List (κ×Value)}(r:KV aN vs)(k:κ):(aN.any λa=>decide (a.1=k))=vs.any λa=>decide (a.1=k):=by
 unfold KV at r
 induction r with
 | nil=>rfl
 | cons h t b=>rw[i3,i3,b,h.1]
theorem KV.ik{aN:List (κ×V)}{vs:List (κ×Value)}(r:KV aN vs)(k:κ){y:V}{u:Value}(b:RelV y u) :
  KV (aN.map λa=>if a.1=k then(a.1,y) else a) (vs.map λa=>if a.1=k then(a.1,u) else a):=by
 unfold KV at r ⊢
 induction r with
 | nil=>exact .nil
 | @cons p q ps qs h t c=>
  rw[eJ,eJ];refine .cons ?_ c;obtain⟨h1,d⟩:=h;by_cases e:p.1=k
  .rw[di e,di (h1.symm.trans e)];exact#[h1,b]
  .rw[cq e,cq (λz=>e (h1.trans z))];exact#[h1,d]
theorem KV.put{aN:List (κ×V)}{vs:List (κ×Value)}(r:KV aN vs)(k:κ){y:V}{u:Value}(a:RelV y u):KV (putK aN k y) (stored vs k u):=by
 unfold putK stored;rw[r.any k];by_cases e:(vs.any λb=>decide (b.1=k))=true
 .rw[di e,di e];exact r.ik k a
 .rw[cq e,cq e];exact Paired.snoc r #[rfl,a]
theorem KV.length{aN:List (κ×V)}{vs:List (κ×Value)}(r:KV aN vs):aN.length=vs.length:=Paired.length r
end
variable{u:Value}
theorem yz{k:Key}(r:RelV (kV k) u):(ez P w).is k u=true:=by
 cases k with
 | inl i=>obtain⟨t,e⟩:=(show ∃t,u=Value.int i t from r);subst e;exact BU P w i t
 | inr x=>obtain⟨t,e⟩:=(show ∃t,u=Value.str x t from r);subst e;exact BV P w x t
theorem yC{P:Program}{w:World}:∀{ks:EM} {us:B0},Vals (ks.map kV) us->ItemsAre (ez P w) ks us
 | [],_,r=>by rw[List.map_nil]at r;cases r;exact .nil
 | k::ks,_,r=>by
  rw[eJ]at r;cases r with
  | cons h t=>exact .cons (yz h) (yC t)
abbrev KT(H:Hp):Bi->List (EM×Addr×Value)->Prop:=Paired λp q=>p.1=q.1/\H q.2.1=some (.tup (p.1.map kV))/\RelV p.2 q.2.2
variable{aN:Bi}{xs:List (EM×Addr×Value)}
theorem KT.val(r:KT H aN xs)(k:EM):oJ (iE aN k) ((atKey xs k).map (·.2)):=by
 induction r with
 | nil=>exact True.intro
 | @cons p q ps qs h t c=>
  obtain⟨h1,_,d⟩:=h;by_cases e:p.1=k
  .have a:q.1=k:=h1.symm.trans e;have b:atKey (q::qs) k=some q.2:=by simp[atKey,jR,a]
   rw[mC e,b];exact d
  .have a:¬ q.1=k:=λz=>e (h1.trans z);have b:atKey (q::qs) k=atKey qs k:=by simp[atKey,jR,a]
   rw[j9 e,b];exact c
variable{y:V}
theorem KT.ik(r:KT H aN xs)(k:EM)(c:RelV y u) :
  KT H (aN.map λa=>if a.1=k then(a.1,y) else a) (xs.map (putAt k u)):=by
 induction r with
 | nil=>exact .nil
 | @cons p q ps qs h t d=>
  rw[eJ,eJ];refine .cons ?_ d;obtain⟨h1,b,f⟩:=h;unfold putAt;by_cases e:p.1=k
  .rw[di e,di (h1.symm.trans e)];exact#[h1,b,c]
  .rw[cq e,cq (λz=>e (h1.trans z))];exact#[h1,b,f]
theorem KT.put(r:KT H aN xs)(k:EM){b:Addr}(d:H b=some (.tup (k.map kV)))(a:RelV y u) :
  KT H (putK aN k y) (storedH xs k b u):=by
 have e:(aN.any λc=>decide (c.1=k))=(atKey xs k).isSome:=by
  rw[Cb,(r.val k).kg,ph]
 unfold putK storedH;rw[e];by_cases q:(atKey xs k).isSome=true
 .rw[di q,di q];exact r.ik k a
 .rw[cq q,cq q];exact Paired.snoc r #[rfl,d,a]
theorem KT.keeps(r:KT H aN xs)(a:∀b ys,H b=some (.tup ys)->H' b=some (.tup ys)):KT H' aN xs:=
 Paired.Zt r λ_ _ z=>#[z.1,a _ _ z.2.1,z.2.2]
variable{h:Heap}
noncomputable def Yd{u:HO}(ok:lY P w H h)(e:Rd H a u):eS P w H h a u:=e.ok ok
def Cd{aN:Ch}(ok:lY P w H h)(e:Rd H a (.dK aN)):aN.length<=sizeLine/\(a==sysModules)=false/\∃vs,KV aN vs/\h.DictOf (ez P w) a vs:=
 show eS P w H h a (.dK aN) from Yd ok e
def OO{aN:Ch}(ok:lY P w H h)(e:H a=some (.dK aN)):aN.length<=sizeLine/\(a==sysModules)=false/\∃vs,KV aN vs/\h.DictOf (ez P w) a vs:=Cd ok (.inl e)
def uL{ks:EM}(ok:lY P w H h)(e:H a=some (.tup (ks.map kV))):(tupleKind (ez P w)).is h ks a:=by
 obtain⟨_,its,r,o,h1,c,n,b⟩:=(show eS P w H h a (.tup (ks.map kV)) from ok a _ e);exact#[o,its.toArray,n,h1,c,b,by simpa using yC r]
def Ce(ok:lY P w H h)(e:∃en,Rd H a (.dT aN en)):aN.length<=sizeLine/\(a==sysModules)=false ∧
  ∃xs,KT H aN xs/\h.DictOfH (tupleKind (ez P w)) a xs:=by
 obtain⟨z,y,xs,r,o,es,ep,h1,j,i,g,f⟩:=(show eS P w H h a (.dT aN e.choose) from Yd ok e.choose_spec);refine#[z,y,xs,r,o,es,ep,h1,j,i,g,λx b=>?_,f.1];have all:∀{l:Bi} {m:List (EM×Addr×Value)},KT H l m->∀x∈m,(tupleKind (ez P w)).is h x.1 x.2.1:=by
  intro l m q
  induction q with
  | nil=>intro x b;exact nomatch b
  | @cons p q ps qs c t d=>
   intro x b;obtain e|b:=d3.1 b
   .subst e;exact uL ok (by rw[<- c.1];exact c.2.1)
   .exact d x b
 exact all r x b
def Pc{en:Nat}(ok:lY P w H h)(e:H a=some (.dT aN en)):aN.length<=sizeLine/\(a==sysModules)=false ∧
  ∃xs,KT H aN xs/\h.DictOfH (tupleKind (ez P w)) a xs:=Ce ok #[_,.inl e]
def tH(H:Hp)(a:Addr)(y:V)(r:Option V):Prop:=
 (∃aN k,Rd H a (.dK aN)/\y=kV k/\r=iE aN k)\/∃aN k b,(∃en,Rd H a (.dT aN en))/\y=.ref b/\H b=some (.tup (k.map kV))/\r=iE aN k
def OQ(H:Hp)(a:Addr)(y v:V)(H':Nat->Hp):Prop:=
 (∃aN k,H a=some (.dK aN)/\y=kV k/\aN.length<sizeLine/\H'=λ_=>upd H a (.dK (putK aN k v))) ∨
 ∃aN k b,(∃en,H a=some (.dT aN en))/\y=.ref b/\H b=some (.tup (k.map kV))/\aN.length<sizeLine/\H'=λen=>upd H a (.dT (putK aN k v) en)
theorem tH.k{aN:Ch}{k:Key}(e:H a=some (.dK aN)):tH H a (kV k) (iE aN k):=.inl #[aN,k,.inl e,rfl,rfl]
theorem OQ.k{aN:Ch}{k:Key}{v:V}(e:H a=some (.dK aN))(b:aN.length<sizeLine):OQ H a (kV k) v (λ_=>upd H a (.dK (putK aN k v))):=.inl #[aN,k,e,rfl,b,rfl]
variable{pins:At}{U:St}{s:Shared}{v:V}{r:Value}{o:Option V}{A:Around}{E:BA}
theorem Inv.big(I:Inv X pins U H s):sysModules<s.heap.objs.size:=by
 have h:mainGlobals<s.heap.objs.size:=(I.mod.glob.keeps I.bk).lt;exact Nat.lt_trans WA h
variable{Q:BA}
def Kz(m:A.units+1<cLine)(I:Inv X pins U H s)(g:tH H a y (some v))(j:RelV y u)(h:∀c s',Inv X pins U H s'->RelV v c->Q c s') :
  wpAny (model X.prog X.w) A (getItem (.ref a) u) Q E s:=by
 obtain⟨aN,k,e,f,l⟩|⟨aN,k,b,e,f,n,l⟩:=g
 .subst f;obtain⟨z,hd,vs,rel,dd⟩:=Cd I.bO e;obtain⟨c,hw,i⟩:=oJ.some_of (v:=v) (o:=valueAt vs k) (by rw[l];exact rel.val k);exact wpAny_getItem_of (yz j) dd.mapOf hw (h c _ (I.tok _) i)
 .subst f;cases (show u=Value.ref b from j);obtain⟨z,hd,xs,rel,dd⟩:=Ce I.bO e;obtain⟨c,hw,i⟩:=oJ.some_of (v:=v) (o:=(atKey xs k).map (·.2)) (by rw[l];exact rel.val k);obtain⟨p,hp,d⟩:=hW.1 hw;refine wpAny_getItem_heap (sr m) (uL I.bO n) dd hp ?_;rw[d];exact h c _ (I.tok _) i
def JP(f:A.units+1<cLine)(I:Inv X pins U H s)(g:tH H a y o)(d:RelV y u)(h:∀s',Inv X pins U H s'->Q (.bool o.isSome) s') :
  wpAny (model X.prog X.w) A (compareOp .In u (.ref a)) Q E s:=by
 obtain⟨aN,k,e,c,l⟩|⟨aN,k,b,e,c,i,l⟩:=g
 .subst c;obtain⟨z,hd,vs,rel,dd⟩:=Cd I.bO e;refine wpAny_in_of (yz d) hd dd.mapOf ?_;rw[<- (rel.val k).kg,<- l];exact h _ (I.tok _)
 .subst c;cases (show u=Value.ref b from d);obtain⟨z,hd,xs,rel,dd⟩:=Ce I.bO e;refine wpAny_in_heap (sr f) (uL I.bO i) hd dd ?_;have q:=(rel.val k).kg;rw[ph]at q;rw[<- q,<- l];exact h _ (I.tok _)
def U0(f:A.units+1<cLine)(I:Inv X pins U H s)(g:tH H a y o)(d:RelV y u)(h:∀s',Inv X pins U H s'->Q (.bool (!o.isSome)) s') :
  wpAny (model X.prog X.w) A (compareOp .NotIn u (.ref a)) Q E s:=by
 obtain⟨aN,k,e,c,l⟩|⟨aN,k,b,e,c,i,l⟩:=g
 .subst c;obtain⟨z,hd,vs,rel,dd⟩:=Cd I.bO e;refine wpAny_notIn_of (yz d) hd dd.mapOf ?_;rw[<- (rel.val k).kg,<- l];exact h _ (I.tok _)
 .subst c;cases (show u=Value.ref b from d);obtain⟨z,hd,xs,rel,dd⟩:=Ce I.bO e;refine wpAny_notIn_heap (sr f) (uL I.bO i) hd dd ?_;have q:=(rel.val k).kg;rw[ph]at q;rw[<- q,<- l];exact h _ (I.tok _)
noncomputable def zL{h':Heap}{t':Nat}{c:HO}(I:Inv X pins U H s)(d:p7 (H a))(f:Heap.SameBut a s.heap h')(he:∃q,h'.get? a=some q)(new:eS X.prog X.w (upd H a c) h' a c) :
  Inv X pins U (upd H a c) {s with heap:=h',toks:=t'}:=
 I.write (x:=a) (e:=a) d (.inl rfl) (λb q g z=>(f.2 b g).trans z) he new
noncomputable def OS{h':Heap}{aN:Ch}{vs:List (Key×Value)}(z:aN.length<=sizeLine)(hd:(a==sysModules)=false)(rel:KV aN vs)(dd:h'.DictOf (ez P w) a vs) :
  eS P w H' h' a (.dK aN):=#[z,hd,vs,rel,dd]
theorem KC{H':Nat->Hp}{Q:Dx}(B:A.units+1<cLine)(I:Inv X pins U H s)(g:OQ H a y v H')(p:RelV y u)(t:RelV v r)(h:∀en s',Inv X pins U (H' en) s'->Q () s') :
  wpAny (model X.prog X.w) A (setItem (.ref a) u r) Q E s:=by
 obtain⟨aN,k,e,n,l,o⟩|⟨aN,k,b,e,n,x,l,o⟩:=g
 .subst n o;obtain⟨z,hd,vs,rel,dd⟩:=OO I.bO e;have i:vs.length<=sizeLine:=by rw[<- rel.length];exact z
  have m:(putK aN k v).length<=sizeLine:=by have:=mD aN k v;lia
  refine wpAny_setItem_pairs (hsz:=i) (yz p) dd λh' f j=>h 0 _ ?_;have he:∃q,h'.get? a=some q:=let ⟨q,_,_,d,_⟩:=f;#[q,d];exact zL I (by rw[e];exact True.intro) j he (OS m hd (rel.put k t) f)
 .subst n o;cases (show u=Value.ref b from p);obtain⟨en,e⟩:=e;obtain⟨z,hd,xs,rel,dd⟩:=Pc I.bO e;have i:xs.length<=sizeLine:=by rw[<- Paired.length rel];exact z
  have m:(putK aN k v).length<=sizeLine:=by have:=mD aN k v;lia
  refine wpAny_setItem_heap (hsz:=i) (sr B) (uL I.bO x) dd λh' f j=>?_;obtain⟨q,es,ep,d,G,F,D,_,C⟩:=f;refine h ep _ ?_;refine zL I (by rw[e];exact True.intro) j #[q,d] #[m,hd,_,(rel.put k x t).keeps λc ys ec=>?_,q,es,ep,d,G,F,D,C,rfl];rw[az (O1 ec e (λz=>nomatch z))];exact ec
def EW(i:Expr):Prop:=∀ov a,subscripted i false ov a=operate [ov,a] (getItem ov a)
def zM{prog:Program}{env:Env}{value slice:Expr}{pos:Pos}{T id:String}
  (k:typeLookup (.type T) "__getitem__" = pure (some (.builtin id))) (j:EW slice)
  (h:wpAny (model prog w) A (eval value env) (λo d=>wpAny (model prog w) A (eval slice env) (λi a=>a.TypeIs o T/\wpAny (model prog w) A (getItem o i) Q E a) E d) E s) :
  wpAny (model prog w) A (eval (.Subscript value slice pos) env) Q E s:=by
 refine Subscript_ (gr h (λo d f=>gr f (λi a b=>?_) λ_ _ x=>x) λ_ _ x=>x);obtain⟨g,b⟩:=b;unfold subscriptTail;refine d5 ?_;rw[getitemInPython_of_ne g.not_modules];refine d5 (wpAny_specialOf g k ?_);have fin:wpAny (model prog w) A (subscripted slice false o i) (λr c=>wpAny (model prog w) A (letTemporaryGo value o r >>= λ_=>pure r) Q E c) E a:=by
  rw[j o i];exact wpAny_operating (gr b (λr c e=>d5 (wpAny_letTemporaryGo (eR e))) λ_ _ x=>x)
 first
  | exact eR (d5 fin)
  | exact d5 (eR (d5 fin))
  | exact d5 fin
def Cg(I:Inv X pins U H s)(g:tH H a y o):s.TypeIs (.ref a) "dict":=by
 obtain⟨aN,k,e,_,_⟩|⟨aN,k,b,e,_,_,_⟩:=g
 .obtain⟨_,_,vs,_,dd⟩:=Cd I.bO e;exact dd.typeIs
 .obtain⟨_,_,xs,_,dd⟩:=Ce I.bO e;exact dd.typeIs
noncomputable def Pa(td ty:TE):TE:=λU H Q=>td U H λx H1=>ty U H1 λy H2=>∃a v,x=.ref a/\tH H2 a y (some v)/\Q v H2
noncomputable def JO(ty td:TE):TE:=λU H Q=>ty U H λy H1=>td U H1 λx H2=>∃a o,x=.ref a/\tH H2 a y o/\Q (.bl o.isSome) H2
noncomputable def U3(ty td:TE):TE:=λU H Q=>ty U H λy H1=>td U H1 λx H2=>∃a o,x=.ref a/\tH H2 a y o/\Q (.bl (!o.isSome)) H2
noncomputable def O3(td ty tv:TE):TS:=λD U H=>tv U H λv H1=>td U H1 λx H2=>ty U H2 λy c=>∃a b,x=.ref a/\OQ c a y v b/\∀en,D.nx U (b en)
variable{o i value:Expr}{pos pos':Pos}{td ty tv:TE}
def U4(j:X.A.units+1<cLine)(l:PE X o td)(hi:PE X i ty)(k:EW i):PE X (.Subscript o i pos) (Pa td ty):=by
 intro pins s U H Q I h;refine zM wb.lookup k (cJ (l pins s U H _ I h) λu s1 zz=>?_);obtain⟨x,H1,p,d,f⟩:=zz;refine cJ (hi pins s1 U H1 _ p f) λr s2 zz=>?_;obtain⟨y,H2,b,c,a,v,ex,g,e⟩:=zz;subst ex;obtain rfl:u=Value.ref a:=d;exact#[Cg b g,Kz j b g c λq s3 n m=>#[v,H2,n,m,e]]
def Yf(f:X.A.units+1<cLine)(hi:PE X i ty)(j:PE X o td):PC X .In i o (JO ty td):=by
 intro pins s U H Q I h;refine cJ (hi pins s U H _ I h) λn s1 zz=>?_;obtain⟨y,H1,m,b,e⟩:=zz;refine cJ (j pins s1 U H1 _ m e) λu s2 zz=>?_;obtain⟨x,H2,l,c,a,ov,ex,g,d⟩:=zz;subst ex;obtain rfl:u=Value.ref a:=c;exact JP f l g b λs3 k=>#[.bl ov.isSome,H2,k,rfl,d]
def KD(f:X.A.units+1<cLine)(hi:PE X i ty)(j:PE X o td):PC X .NotIn i o (U3 ty td):=by
 intro pins s U H Q I h;refine cJ (hi pins s U H _ I h) λn s1 zz=>?_;obtain⟨y,H1,m,b,e⟩:=zz;refine cJ (j pins s1 U H1 _ m e) λu s2 zz=>?_;obtain⟨x,H2,l,c,a,ov,ex,g,d⟩:=zz;subst ex;obtain rfl:u=Value.ref a:=c;exact U0 f l g b λs3 k=>#[.bl (!ov.isSome),H2,k,rfl,d]
def U5(k:X.A.units+1<cLine)(m:PE X o td)(hi:PE X i ty)(hv:PE X value tv)(l:swapsWith value (some (.Subscript o i pos')) pos.line X.env=pure false) :
  PS X (.Assign [.Subscript o i pos'] value pos) (O3 td ty tv):=by
 intro pins s U H D I h;refine wpAny_Assign_Subscript (cJ (hv pins s U H _ I h) λr s1 zz=>?_) l;obtain⟨v,H1,t,d,j⟩:=zz;refine cJ (m pins s1 U H1 _ t j) λu s2 zz=>?_;obtain⟨x,H2,q,c,f⟩:=zz;refine cJ (hi pins s2 U H2 _ q f) λz s3 zz=>?_;obtain⟨y,B,p,b,a,w,ex,g,e⟩:=zz;subst ex;obtain rfl:u=Value.ref a:=c;exact KC k p g b d λen s4 n=>#[U,w en,n,e en]
noncomputable def OU(h:Heap)(a:sysModules<h.objs.size):eS P w H (h.push {cls:=.type "dict",data:=.dict #[]}) h.objs.size (.dK []):=
 #[fc _,jl.2 (Ne.symm (gh a)),[],.nil,Heap.DictOf.new h]
def Ya:TE:=λ_ H Q=>∀p,H p=none->Q (.ref p) (upd H p (.dK []))
def OV:PE X (.Dict [] [] pos) Ya:=λpins s U H Q I h=>
 wpAny_Dict_empty #[.ref s.heap.objs.size,_,I.laid (a:=s.heap.objs.size) (o:=.dK []) (t':=s.toks) (λ_ _ q=>ff _ q) (ea _) (OU s.heap I.big),rfl,h _ (I.bO.fresh (ea _))]
structure M2(X:Cx)(o:Expr)(m:Str)(apos:Pos)(e f:Expr)(gU:Pos):Prop where
 base:attributeBase o m X.env (eval o X.env)=eval o X.env
 few:((backTo gU (starEach [e,f] X.env)).all (λx=>!x.1)&&(backToKw gU (keywordEach [] X.env)).all (λx=>x.1.isSome)
  && decide (([e,f]:CC).length+([]:ET).length+(if ([]:ET).isEmpty then 0 else 1)<30))=true
 line:(apos.endLine==gU.line)=true
 trees:backTo gU (starEach [e,f] X.env)=[(false,eval e X.env),(false,eval f X.env)]
end L2
namespace L3
open PySem PySem.Spec PyProof.Rows L2
inductive D where
 | non|bl (b:Bool)|int (i:Int)|str (x:Str)
 | tup (ds:List D)|lst (ds:List D)|ins (c:Str) (fs:List (Str×D))|iO (aN:List (Key×D))
 | dct (aN:List (EM×D))
 | any
 | val (v:V)
 | BK (w:World) (ds es:List D)
abbrev _root_.BB:=List D
abbrev _root_.CA:=List (Key×D)
inductive T where
 | sh (d:D)|tup (ts:List T)|lst (ts:List T)|ins (c:Str) (fs:List (Str×T))|iO (aN:CA)|dct (aN:List (EM×T))
 | pin (x:Addr) (t:T)
 | BK (w:World) (ds es:BB)
abbrev _root_.B1:=List (Str×T)
abbrev _root_.Bn:=List T
abbrev _root_.Cf:=List (EM×T)
abbrev _root_.D1:=List (EM×D)
abbrev _root_.ES:=List (Str×D)
mutual
def T.d7:T->D
 | .sh d=>d
 | .tup ts=>.tup (dO ts)
 | .lst ts=>.lst (dO ts)
 | .ins c fs=>.ins c (tK fs)
 | .iO aN=>.iO aN
 | .dct aN=>.dct (xi aN)
 | .pin _ t=>t.d7
 | .BK w ds es=>.BK w ds es
def T.dO:Bn->BB
 | []=>[]
 | t::ts=>t.d7::T.dO ts
def T.tK:B1->ES
 | []=>[]
 | (x,t)::fs=>(x,t.d7)::T.tK fs
def T.xi:Cf->D1
 | []=>[]
 | (x,t)::fs=>(x,t.d7)::T.xi fs
end
mutual
def D.r3(w:World):D->Int
 | .int i=>hashInt i
 | .str x => hashStr w x
 | .tup ds=>reduceHash (Builtin.Tuple.tupleHashOf (D.E1 w ds))
 | _=>0
def D.E1(w:World):BB->BN
 | []=>[]
 | d::ds=>d.r3 w::D.E1 w ds
end
def F1(w:World)(a:Addr)(ds:BB)(vs us:BS)(h:Heap):Prop:=
 (a==sysModules)=false/\∃(xs:List (D×Addr×Value)) (o:Obj) (es:Array DictEntry) (ep:Nat),h.get? a=some o/\o.ExactDict/\o.data=.dict es ep/\es.toList=xs.map (λx=>#[x.1.r3 w,.ref x.2.1,x.2.2])/\xs.map (·.1)=ds/\xs.map (λx=>V.ref x.2.1)=vs/\Vals us (xs.map λx=>x.2.2)
abbrev _root_.BC:=Str->Addr
variable(K:Frag)(CL:BC)
mutual
inductive aY(Z:Hp):D->V->Prop where
 | non:aY Z .non .non
 | bl (b:Bool):aY Z (.bl b) (.bl b)
 | int (i:Int):aY Z (.int i) (.int i)
 | str (x:Str):aY Z (.str x) (.str x)
 | any (v:V):aY Z .any v
 | val (v:V):aY Z (.val v) v
 | tup {a:Addr} {vs:BS} {ds:BB}:lN K Z a vs->aD Z ds vs->aY Z (.tup ds) (.ref a)
 | lst {a:Addr} {vs:BS} {ds:BB}:lM K Z a vs->aD Z ds vs->aY Z (.lst ds) (.ref a)
 | ins {a dx:Addr} {c:Str} {gs:Bz} {fs:ES}:Z a=some (.ins (CL c) dx gs)->pP Z fs gs->aY Z (.ins c fs) (.ref a)
 | iO {a:Addr} {gs:Ch} {fs:CA}:Z a=some (.dK gs)->bR Z fs gs->aY Z (.iO fs) (.ref a)
 | dct {a:Addr} {gs:Bi} {fs:D1} {en:Nat}:Rd Z a (.dT gs en)->lO Z fs gs->aY Z (.dct fs) (.ref a)
 | BK {a:Addr} {w:World} {vs us:BS} {ds es:BB}:Z a=some (.ext (F1 w a ds vs us))->aD Z ds vs->aD Z es us->aY Z (.BK w ds es) (.ref a)
inductive aD(Z:Hp):BB->BS->Prop where
 | nil:aD Z [] []
 | cons {d:D} {v:V} {ds:BB} {vs:BS}:aY Z d v->aD Z ds vs->aD Z (d::ds) (v::vs)
inductive pP(Z:Hp):ES->Bz->Prop where
 | nil:pP Z [] []
 | cons {x:Str} {d:D} {v:V} {ds:ES} {vs:Bz}:aY Z d v->pP Z ds vs->pP Z ((x,d)::ds) ((x,v)::vs)
inductive bR(Z:Hp):CA->Ch->Prop where
 | nil:bR Z [] []
 | cons {x:Key} {d:D} {v:V} {ds:CA} {vs:Ch}:aY Z d v->bR Z ds vs->bR Z ((x,d)::ds) ((x,v)::vs)
inductive lO(Z:Hp):D1->Bi->Prop where
 | nil:lO Z [] []
 | cons {x:EM} {d:D} {v:V} {ds:D1} {vs:Bi}:aY Z d v->lO Z ds vs->lO Z ((x,d)::ds) ((x,v)::vs)
end
mutual
inductive aZ(H Z:Hp):T->V->BY->Prop where
 | sh {d:D} {v:V}:aY K CL Z d v->aZ H Z (.sh d) v []
 | tup {a:Addr} {vs:BS} {ts:Bn} {fp:BY}:Z a=some (.tup vs)->aP H Z ts vs fp->aZ H Z (.tup ts) (.ref a) fp
 | lst {a:Addr} {vs:BS} {ts:Bn} {fp:BY}:H a=some (.lst vs)->aP H Z ts vs fp->aZ H Z (.lst ts) (.ref a) (a::fp)
 | ins {a dx:Addr} {c:Str} {gs:Bz} {fs:B1} {fp:BY}:H a=some (.ins (CL c) dx gs)->cG H Z fs gs fp->aZ H Z (.ins c fs) (.ref a) (a::fp)
 | iO {a:Addr} {gs:Ch} {aN:CA}:H a=some (.dK gs)->bR K CL Z aN gs->aZ H Z (.iO aN) (.ref a) [a]
 | dct {a:Addr} {gs:Bi} {aN:Cf} {fp:BY} {en:Nat}:H a=some (.dT gs en)->fh H Z aN gs fp->aZ H Z (.dct aN) (.ref a) (a::fp)
 | pin {x:Addr} {t:T} {fp:BY}:aZ H Z t (.ref x) fp->aZ H Z (.pin x t) (.ref x) fp
 | BK {a:Addr} {w:World} {vs us:BS} {ds es:BB}:H a=some (.ext (F1 w a ds vs us))->aD K CL Z ds vs->aD K CL Z es us->aZ H Z (.BK w ds es) (.ref a) [a]
inductive aP(H Z:Hp):Bn->BS->BY->Prop where
 | nil:aP H Z [] [] []
 | cons {t:T} {v:V} {ts:Bn} {vs:BS} {fp gp:BY}:aZ H Z t v fp->aP H Z ts vs gp->aP H Z (t::ts) (v::vs) (fp++gp)
inductive cG(H Z:Hp):B1->Bz->BY->Prop where
 | nil:cG H Z [] [] []
 | cons {x:Str} {t:T} {v:V} {ts:B1} {vs:Bz} {fp gp:BY}:aZ H Z t v fp->cG H Z ts vs gp->cG H Z ((x,t)::ts) ((x,v)::vs) (fp++gp)
inductive fh(H Z:Hp):Cf->Bi->BY->Prop where
 | nil:fh H Z [] [] []
 | cons {x:EM} {t:T} {v:V} {ts:Cf} {vs:Bi} {fp gp:BY}:aZ H Z t v fp->fh H Z ts vs gp->fh H Z ((x,t)::ts) ((x,v)::vs) (fp++gp)
end
abbrev _root_.Ap:=List (Option T)
inductive dU(H Z:Hp):Ap->L2.St->BY->Prop where
 | nil:dU H Z [] [] []
 | skip {o:Option V} {δ:Ap} {U:L2.St} {fp:BY}:dU H Z δ U fp->dU H Z (none::δ) (o::U) fp
 | cons {t:T} {v:V} {δ:Ap} {U:L2.St} {fp gp:BY}:aZ K CL H Z t v fp->dU H Z δ U gp->dU H Z (some t::δ) (some v::U) (fp++gp)
variable{K:Frag}{CL:BC}{H H':Hp}{a:Addr}
theorem Rd.mono{u:HO}(e:aB H H')(h:Rd H a u):Rd H' a u:=h.imp (e _ _) λ⟨o,q⟩=>#[o,e _ _ q]
variable{xs:BS}
theorem aB.OW(e:aB H H')(h:lN K H a xs):lN K H' a xs:=by
 rcases h with(h|⟨o,h⟩)|h
 .exact .inl (.inl (e _ _ h))
 .exact .inl (.inr #[o,e _ _ h])
 .exact .inr h
variable{Z:Hp}{vs:BS}
theorem aD.ind{P:BB->BS->Prop}(n:P [] [])(c:∀{d:D} {v:V} {ds:BB} {vs:BS},aY K CL Z d v->aD K CL Z ds vs->P ds vs->P (d::ds) (v::vs)){ds:BB}(h:aD K CL Z ds vs):P ds vs:=
 aD.rec (motive_1:=λ_ _ _=>True) (motive_3:=λ_ _ _=>True) (motive_4:=λ_ _ _=>True) (motive_5:=λ_ _ _=>True)
  trivial (λ_=>trivial) (λ_=>trivial) (λ_=>trivial) (λ_=>trivial) (λ_=>trivial) (λ_ _ _=>trivial) (λ_ _ _=>trivial) (λ_ _ _=>trivial) (λ_ _ _=>trivial) (λ_ _ _=>trivial) (λ_ _ _ _ _=>trivial) n (λa b _ i=>c a b i) trivial (λ_ _ _ _=>trivial) trivial (λ_ _ _ _=>trivial) trivial (λ_ _ _ _=>trivial) h
theorem bR.ind{P:CA->Ch->Prop}(n:P [] [])(c:∀{x:Key} {d:D} {v:V} {ds:CA} {vs:Ch},aY K CL Z d v->bR K CL Z ds vs->P ds vs->P ((x,d)::ds) ((x,v)::vs)){ds:CA}{vs:Ch}(h:bR K CL Z ds vs):P ds vs:=
 bR.rec (motive_1:=λ_ _ _=>True) (motive_2:=λ_ _ _=>True) (motive_3:=λ_ _ _=>True) (motive_5:=λ_ _ _=>True)
  trivial (λ_=>trivial) (λ_=>trivial) (λ_=>trivial) (λ_=>trivial) (λ_=>trivial) (λ_ _ _=>trivial) (λ_ _ _=>trivial) (λ_ _ _=>trivial) (λ_ _ _=>trivial) (λ_ _ _=>trivial) (λ_ _ _ _ _=>trivial) trivial (λ_ _ _ _=>trivial) trivial (λ_ _ _ _=>trivial) n (λa b _ i=>c a b i) trivial (λ_ _ _ _=>trivial) h
theorem lO.ind{P:D1->Bi->Prop}(n:P [] [])(c:∀{x:EM} {d:D} {v:V} {ds:D1} {vs:Bi},aY K CL Z d v->lO K CL Z ds vs->P ds vs->P ((x,d)::ds) ((x,v)::vs)){ds:D1}{vs:Bi}(h:lO K CL Z ds vs):P ds vs:=
 lO.rec (motive_1:=λ_ _ _=>True) (motive_2:=λ_ _ _=>True) (motive_3:=λ_ _ _=>True) (motive_4:=λ_ _ _=>True) (motive_5:=λd v _=>P d v)
  trivial (λ_=>trivial) (λ_=>trivial) (λ_=>trivial) (λ_=>trivial) (λ_=>trivial) (λ_ _ _=>trivial) (λ_ _ _=>trivial) (λ_ _ _=>trivial) (λ_ _ _=>trivial) (λ_ _ _=>trivial) (λ_ _ _ _ _=>trivial) trivial (λ_ _ _ _=>trivial) trivial (λ_ _ _ _=>trivial) trivial (λ_ _ _ _=>trivial) n (λa b _ i=>c a b i) h
variable{ts:Bn}{fp:BY}
theorem aP.ind{P:Bn->BS->BY->Prop}(n:P [] [] [])(c:∀{t:T} {v:V} {ts:Bn} {vs:BS} {fp gp:BY},aZ K CL H Z t v fp->aP K CL H Z ts vs gp->P ts vs gp->P (t::ts) (v::vs) (fp++gp))(h:aP K CL H Z ts vs fp):P ts vs fp:=
 aP.rec (motive_1:=λ_ _ _ _=>True) (motive_3:=λ_ _ _ _=>True) (motive_4:=λ_ _ _ _=>True)
  (λ_=>trivial) (λ_ _ _=>trivial) (λ_ _ _=>trivial) (λ_ _ _=>trivial) (λ_ _=>trivial) (λ_ _ _=>trivial) (λ_ _=>trivial) (λ_ _ _=>trivial) n (λa b _ i=>c a b i) trivial (λ_ _ _ _=>trivial) trivial (λ_ _ _ _=>trivial) h
theorem cG.ind{P:B1->Bz->BY->Prop}(n:P [] [] [])(c:∀{x:Str} {t:T} {v:V} {ts:B1} {vs:Bz} {fp gp:BY},aZ K CL H Z t v fp->cG K CL H Z ts vs gp->P ts vs gp->P ((x,t)::ts) ((x,v)::vs) (fp++gp)){ts:B1}{vs:Bz}(h:cG K CL H Z ts vs fp):P ts vs fp:=
 cG.rec (motive_1:=λ_ _ _ _=>True) (motive_2:=λ_ _ _ _=>True) (motive_4:=λ_ _ _ _=>True)
  (λ_=>trivial) (λ_ _ _=>trivial) (λ_ _ _=>trivial) (λ_ _ _=>trivial) (λ_ _=>trivial) (λ_ _ _=>trivial) (λ_ _=>trivial) (λ_ _ _=>trivial) trivial (λ_ _ _ _=>trivial) n (λa b _ i=>c a b i) trivial (λ_ _ _ _=>trivial) h
theorem fh.ind{P:Cf->Bi->BY->Prop}(n:P [] [] [])(c:∀{x:EM} {t:T} {v:V} {ts:Cf} {vs:Bi} {fp gp:BY},aZ K CL H Z t v fp->fh K CL H Z ts vs gp->P ts vs gp->P ((x,t)::ts) ((x,v)::vs) (fp++gp)){ts:Cf}{vs:Bi}(h:fh K CL H Z ts vs fp):P ts vs fp:=
 fh.rec (motive_1:=λ_ _ _ _=>True) (motive_2:=λ_ _ _ _=>True) (motive_3:=λ_ _ _ _=>True)
  (λ_=>trivial) (λ_ _ _=>trivial) (λ_ _ _=>trivial) (λ_ _ _=>trivial) (λ_ _=>trivial) (λ_ _ _=>trivial) (λ_ _=>trivial) (λ_ _ _=>trivial) trivial (λ_ _ _ _=>trivial) trivial (λ_ _ _ _=>trivial) n (λa b _ i=>c a b i) h
variable{Z':Hp}{v:V}
theorem aY.mono(e:aB Z Z'){d:D}(h:aY K CL Z d v):aY K CL Z' d v:=
 aY.rec
  .non .bl .int .str .any .val (λh _ r=>.tup (aB.OW e h) r) (λh _ r=>.lst (e.seq h) r) (λh _ r=>.ins (e _ _ h) r) (λh _ r=>.iO (e _ _ h) r) (λh _ r=>.dct (Rd.mono e h) r) (λh _ _ r q=>.BK (e _ _ h) r q) .nil (λ_ _ h r=>.cons h r) .nil (λ_ _ h r=>.cons h r) .nil (λ_ _ h r=>.cons h r) .nil (λ_ _ h r=>.cons h r) h
theorem aD.mono(e:aB Z Z'){d:BB}{v:BS}(h:aD K CL Z d v):aD K CL Z' d v:=aD.ind (P:=λd v=>aD K CL Z' d v) .nil (λr _ i=>.cons (r.mono e) i) h
theorem bR.mono(e:aB Z Z'){d:CA}{v:Ch}(h:bR K CL Z d v):bR K CL Z' d v:=bR.ind (P:=λd v=>bR K CL Z' d v) .nil (λr _ i=>.cons (r.mono e) i) h
variable{t:T}
theorem aZ.mono(e:aB Z Z')(k:∀a∈fp,H' a=H a)(h:aZ K CL H Z t v fp):aZ K CL H' Z' t v fp:=
 aZ.rec (motive_2:=λt v fp _=>(∀a∈fp,H' a=H a)->aP K CL H' Z' t v fp) (motive_3:=λt v fp _=>(∀a∈fp,H' a=H a)->cG K CL H' Z' t v fp) (motive_4:=λt v fp _=>(∀a∈fp,H' a=H a)->fh K CL H' Z' t v fp)
  (λh _=>.sh (h.mono e)) (λh _ r k=>.tup (e _ _ h) (r k)) (λh _ r k=>.lst ((k _ d6).trans h) (r λa b=>k a (ee _ b))) (λh _ r k=>.ins ((k _ d6).trans h) (r λa b=>k a (ee _ b))) (λh f k=>.iO ((k _ d6).trans h) (bR.mono e f)) (λh _ r k=>.dct ((k _ d6).trans h) (r λa b=>k a (ee _ b))) (λ_ r k=>.pin (r k)) (λh f g k=>.BK ((k _ d6).trans h) (aD.mono e f) (aD.mono e g)) (λ_=>.nil) (λ_ _ h r k=>.cons (h λa b=>k a (ft _ b)) (r λa b=>k a (eL _ b))) (λ_=>.nil) (λ_ _ h r k=>.cons (h λa b=>k a (ft _ b)) (r λa b=>k a (eL _ b))) (λ_=>.nil) (λ_ _ h r k=>.cons (h λa b=>k a (ft _ b)) (r λa b=>k a (eL _ b))) h k
theorem aP.mono(e:aB Z Z'){t:Bn}{v:BS}(k:∀a∈fp,H' a=H a)(h:aP K CL H Z t v fp):aP K CL H' Z' t v fp:=aP.ind (P:=λt v fp=>(∀a∈fp,H' a=H a)->aP K CL H' Z' t v fp) (λ_=>.nil) (λr _ i k=>.cons (r.mono e λa b=>k a (ft _ b)) (i λa b=>k a (eL _ b))) h k
theorem cG.mono(e:aB Z Z'){t:B1}{v:Bz}(k:∀a∈fp,H' a=H a)(h:cG K CL H Z t v fp):cG K CL H' Z' t v fp:=cG.ind (P:=λt v fp=>(∀a∈fp,H' a=H a)->cG K CL H' Z' t v fp) (λ_=>.nil) (λr _ i k=>.cons (r.mono e λa b=>k a (ft _ b)) (i λa b=>k a (eL _ b))) h k
theorem fh.mono(e:aB Z Z'){t:Cf}{v:Bi}(k:∀a∈fp,H' a=H a)(h:fh K CL H Z t v fp):fh K CL H' Z' t v fp:=fh.ind (P:=λt v fp=>(∀a∈fp,H' a=H a)->fh K CL H' Z' t v fp) (λ_=>.nil) (λr _ i k=>.cons (r.mono e λa b=>k a (ft _ b)) (i λa b=>k a (eL _ b))) h k
theorem aZ.there(h:aZ K CL H Z t v fp):∀a∈fp,∃o,H a=some o:=
 aZ.rec (motive_3:=λt v fp _=>∀a∈fp,∃o,H a=some o) (motive_4:=λt v fp _=>∀a∈fp,∃o,H a=some o)
  (λ_ a b=>absurd b eA) (λ_ _ r=>r) (λh _ r a b=>(d3.1 b).elim (λq=>#[_,q▸h]) (r a)) (λh _ r a b=>(d3.1 b).elim (λq=>#[_,q▸h]) (r a)) (λh _ a b=>(d3.1 b).elim (λq=>#[_,q▸h]) (λq=>absurd q eA)) (λh _ r a b=>(d3.1 b).elim (λq=>#[_,q▸h]) (r a)) (λ_ r=>r) (λh _ _ a b=>(d3.1 b).elim (λq=>#[_,q▸h]) (λq=>absurd q eA)) (λa b=>absurd b eA) (λ_ _ h r a b=>(eg.1 b).elim (h a) (r a)) (λa b=>absurd b eA) (λ_ _ h r a b=>(eg.1 b).elim (h a) (r a)) (λa b=>absurd b eA) (λ_ _ h r a b=>(eg.1 b).elim (h a) (r a)) h
theorem aP.there{t:Bn}{v:BS}(h:aP K CL H Z t v fp):∀a∈fp,∃o,H a=some o:=aP.ind (P:=λ_ _ fp=>∀a∈fp,∃o,H a=some o) (λa b=>absurd b eA) (λr _ i a b=>(eg.1 b).elim (r.there a) (i a)) h
theorem aZ.d7(e:aB Z Z')(k:∀a∈fp,Z' a=H a)(h:aZ K CL H Z t v fp):aY K CL Z' t.d7 v:=
 aZ.rec (motive_2:=λt v fp _=>(∀a∈fp,Z' a=H a)->aD K CL Z' _ v) (motive_3:=λt v fp _=>(∀a∈fp,Z' a=H a)->pP K CL Z' _ v) (motive_4:=λt v fp _=>(∀a∈fp,Z' a=H a)->lO K CL Z' _ v)
  (λh _=>by exact h.mono e) (λh _ r k=>by exact .tup (lN.of (e _ _ h)) (r k)) (λh _ r k=>by exact .lst (lM.of ((k _ d6).trans h)) (r λa b=>k a (ee _ b))) (λh _ r k=>by exact .ins ((k _ d6).trans h) (r λa b=>k a (ee _ b))) (λh f k=>by exact .iO ((k _ d6).trans h) (bR.mono e f)) (λh _ r k=>by exact .dct (.inl ((k _ d6).trans h)) (r λa b=>k a (ee _ b))) (λ_ r k=>by rw[T.d7];exact r k) (λh f g k=>by exact .BK ((k _ d6).trans h) (aD.mono e f) (aD.mono e g)) (λ_=>by exact .nil) (λ_ _ h r k=>by rw[T.dO];exact .cons (h λa b=>k a (ft _ b)) (r λa b=>k a (eL _ b))) (λ_=>by rw[T.tK];exact .nil) (λ_ _ h r k=>by exact .cons (h λa b=>k a (ft _ b)) (r λa b=>k a (eL _ b))) (λ_=>by exact .nil) (λ_ _ h r k=>by rw[T.xi];exact .cons (h λa b=>k a (ft _ b)) (r λa b=>k a (eL _ b))) h k
theorem aD.length{d:BB}{v:BS}(h:aD K CL Z d v):d.length=v.length:=
 aD.ind (P:=λd v=>d.length=v.length) rfl (λ_ _ i=>congrArg _ i) h
theorem aP.length{d:Bn}{v:BS}(h:aP K CL H Z d v fp):d.length=v.length:=
 aP.ind (P:=λd v _=>d.length=v.length) rfl (λ_ _ i=>congrArg _ i) h
theorem dU.length{d:Ap}{v:L2.St}(h:dU K CL H Z d v fp):d.length=v.length:=by
 induction h with
 | nil=>rfl
 | skip _ i=>exact congrArg (· + 1) i
 | cons _ _ i=>exact congrArg (· + 1) i
theorem aD.get{Z:Hp}:∀{ds:BB} {vs:BS} {i:Nat} {d:D},aD K CL Z ds vs->ds[i]? = some d->∃v,vs[i]? = some v/\aY K CL Z d v
 | _,_,_,_,.nil,e=>by simp at e
 | _,_,0,_,.cons r _,e=>by simp_all
 | _,_,i+1,d,.cons _ t,e=>by
  obtain⟨u,h1,a⟩:=aD.get t (‹_›);exact#[u,‹_›,a]
theorem aD.xf{Z:Hp}:∀{ds:BB} {vs:BS} {i:Nat} {v:V},aD K CL Z ds vs->vs[i]? = some v->∃d,ds[i]? = some d/\aY K CL Z d v
 | _,_,_,_,.nil,e=>by simp at e
 | _,_,0,_,.cons r _,e=>by simp_all
 | _,_,i+1,d,.cons _ t,e=>by
  obtain⟨u,h1,a⟩:=aD.xf t (‹_›);simp_all
theorem dU.get:∀{δ:Ap} {U:L2.St} {fp:BY} {i:Nat} {t:T},dU K CL H Z δ U fp->δ[i]? = some (some t) →
  ∃v f1 f2 c,U[i]? = some (some v)/\fp=f1++(f2++c)/\aZ K CL H Z t v f2 ∧
   (∀{H' Z':Hp} {t':T} {v':V} {g:BY},aB Z Z'->(∀a∈f1++c,H' a=H a)->aZ K CL H' Z' t' v' g->dU K CL H' Z' (δ.set i (some t')) (U.set i (some v')) (f1++(g++c))) ∧
   (∀{o:Option V},dU K CL H Z (δ.set i none) (U.set i o) (f1++c)):=by
 intro δ U fp i t h;have mono:∀{H H' Z Z':Hp} {δ:Ap} {U:L2.St} {fp:BY},aB Z Z'->(∀a∈fp,H' a=H a)->dU K CL H Z δ U fp->dU K CL H' Z' δ U fp:=by
  intro H H' Z Z' δ U fp e k r
  induction r with
  | nil=>exact .nil
  | skip _ d=>exact .skip (d k)
  | cons r _ d=>exact .cons (r.mono e λa b=>k a (ft _ b)) (d λa b=>k a (eL _ b))
 induction h generalizing i with
 | nil=>intro e;simp at e
 | @skip o δ U fp r d=>
  cases i with
  | zero=>intro e;simp at e
  | succ i=>
   intro e;obtain⟨v,f1,f2,c,h1,n,m,l,j⟩:=d (i:=i) (by simpa using e);exact#[v,f1,f2,c,by simpa using h1,n,m,λe k q=>.skip (l e k q),.skip j]
 | @cons t0 v0 δ U fp gp f r d=>
  cases i with
  | zero=>
   intro e;simp at e;subst e;refine#[v0,[],fp,gp,rfl,rfl,f,λ{H' Z' t' v' g} e k q=>dU.cons (fp:=g) (gp:=gp) q (mono (fp:=gp) e (λa b=>k a (by simpa using b)) r),.skip (by simpa using r)]
  | succ i=>
   intro e;obtain⟨v,f1,f2,c,h1,n,m,l,j⟩:=d (i:=i) (by simpa using e);refine#[v,fp++f1,f2,c,by simpa using h1,by rw[n,List.append_assoc],m,λ{H' Z' t' v' g} e k q=>?_,λ{o}=>?_]
   .rw[eB];exact .cons (f.mono e λa b=>k a (by simp[b])) (l e (λa b=>k a (by rw[eB];exact eL _ b)) q)
   .rw[eB];exact .cons f j
variable{δ:Ap}{U:L2.St}
theorem dU.mono(e:aB Z Z')(k:∀a∈fp,H' a=H a)(r:dU K CL H Z δ U fp):dU K CL H' Z' δ U fp:=by
 induction r with
 | nil=>exact .nil
 | skip _ b=>exact .skip (b k)
 | cons r _ b=>exact .cons (r.mono e λa c=>k a (ft _ c)) (b λa c=>k a (eL _ c))
theorem dU.there(r:dU K CL H Z δ U fp):∀a∈fp,∃o,H a=some o:=by
 induction r with
 | nil=>intro a c;cases c
 | skip _ b=>exact b
 | cons r _ b=>exactλa c=>(eg.1 c).elim (r.there a) (b a)
theorem dU.put(r:dU K CL H Z δ U fp){g:BY}(q:aZ K CL H Z t v g) :
  ∀{i:Nat},i<δ.length->∃f,dU K CL H Z (δ.set i (some t)) (U.set i (some v)) f/\∃a,a.Sublist fp/\f.Perm (g++a):=by
 induction r with
 | nil=>intro i hi;simp at hi
 | @skip o δ U fp r b=>
  intro i hi;cases i with
  | zero=>exact#[ _,.cons q r,fp,iq _,List.Perm.refl _]
  | succ i=>
   obtain⟨f,h1,a,d,c⟩:=b (by simpa using hi);exact#[f,.skip h1,a,d,c]
 | @cons t0 v0 δ U fp gp e r b=>
  intro i hi;cases i with
  | zero=>exact#[ _,.cons q r,gp,o7 _ _,List.Perm.refl _]
  | succ i=>
   obtain⟨f,h1,a,d,c⟩:=b (by simpa using hi);refine#[ _,.cons e h1,_,jf (iq _) d,?_];refine(lb fp c).trans ?_;rw[<- eB,<- eB];exact List.Perm.append_right a i8
theorem aY.lS{ds:BB}(h:aY K CL Z (.lst ds) v):∃a vs,v=.ref a/\lM K Z a vs/\aD K CL Z ds vs:=by cases h with|lst p q=>exact#[_,_,rfl,p,q]
theorem aY.pQ{ds:BB}(h:aY K CL Z (.tup ds) v):∃a vs,v=.ref a/\lN K Z a vs/\aD K CL Z ds vs:=by cases h with|tup p q=>exact#[_,_,rfl,p,q]
variable{c:Str}
theorem aY.OX{fs:ES}(h:aY K CL Z (.ins c fs) v):∃a dx gs,v=.ref a/\Z a=some (.ins (CL c) dx gs)/\pP K CL Z fs gs:=by cases h with|ins p q=>exact#[_,_,_,rfl,p,q]
theorem aZ.KG{d:D}(h:aZ K CL H Z (.sh d) v fp):fp=[]/\aY K CL Z d v:=by cases h with|sh r=>exact#[rfl,r]
theorem aZ.lS(h:aZ K CL H Z (.lst ts) v fp):∃a vs g,v=.ref a/\fp=a::g/\H a=some (.lst vs)/\aP K CL H Z ts vs g:=by cases h with|lst p q=>exact#[_,_,_,rfl,rfl,p,q]
theorem aZ.pQ(h:aZ K CL H Z (.tup ts) v fp):∃a vs,v=.ref a/\Z a=some (.tup vs)/\aP K CL H Z ts vs fp:=by cases h with|tup p q=>exact#[_,_,rfl,p,q]
theorem aZ.OX{fs:B1}(h:aZ K CL H Z (.ins c fs) v fp):∃a dx gs g,v=.ref a/\fp=a::g/\H a=some (.ins (CL c) dx gs)/\cG K CL H Z fs gs g:=by cases h with|ins p q=>exact#[_,_,_,_,rfl,rfl,p,q]
theorem aZ.EK{y:Addr}(h:aZ K CL H Z (.pin y t) v fp):v=.ref y/\aZ K CL H Z t (.ref y) fp:=by cases h with|pin r=>exact#[rfl,r]
noncomputable def xO(X:Cx)(e:Expr):TE:=λU H Q=>∀(pins:At) (s:Shared),Inv X pins U H s->wpAny (model X.prog X.w) X.A (eval e X.env) (EP X pins U Q) X.xe s
noncomputable def U6(X:Cx)(e:Expr):TT:=λU H Q=>∀(pins:At) (s:Shared),Inv X pins U H s->wpAny (model X.prog X.w) X.A (isTrue e X.env (eval e X.env)) (TP X pins U Q) X.xe s
noncomputable def xP(X:Cx)(es:CC):TA:=λU H Q=>∀(pos:Pos) (pins:At) (s:Shared),Inv X pins U H s->wpAny (model X.prog X.w) X.A (spliced (backTo pos (starEach es X.env))) (AP X pins U Q) X.xe s
noncomputable def OY(X:Cx)(st:Stmt):TS:=λD U H=>∀(pins:At) (s:Shared),Inv X pins U H s->wpAny (model X.prog X.w) X.A (exec st X.env) (SP X pins D) X.xe s
noncomputable def KH(X:Cx)(st:CO):TS:=λD U H=>∀(pins:At) (s:Shared),Inv X pins U H s->wpAny (model X.prog X.w) X.A (execs st X.env) (SP X pins D) X.xe s
variable{X:Cx}{e:Expr}
noncomputable def bX:PE X e (xO X e):=λpins s _ _ _ I h=>h pins s I
noncomputable def Ye:PT X e (U6 X e):=λpins s _ _ _ I h=>h pins s I
noncomputable def zN{e:CC}:PA X e (xP X e):=λpos pins s _ _ _ I h=>h pos pins s I
noncomputable def q1{e:Stmt}:PS X e (OY X e):=λpins s _ _ _ I h=>h pins s I
noncomputable def NQ{e:CO}:Hv X e (KH X e):=λpins s _ _ _ I h=>h pins s I
noncomputable def bH{t:TE}(h:PE X e t){Q:VK}(q:t U H Q):xO X e U H Q:=λpins s I=>h pins s U H Q I q
variable{Q:EQ}
noncomputable def pR{t:TT}(h:PT X e t)(q:t U H Q):U6 X e U H Q:=λpins s I=>h pins s U H Q I q
noncomputable def xQ{e:CC}{t:TA}(h:PA X e t){Q:EN}(q:t U H Q):xP X e U H Q:=λpos pins s I=>h pos pins s U H Q I q
noncomputable def nQ{e:Stmt}{t:TS}(h:PS X e t){D:Ends}(q:t D U H):OY X e D U H:=λpins s I=>h pins s U H D I q
noncomputable def KJ{e:CO}{t:TS}(h:Hv X e t){D:Ends}(q:t D U H):KH X e D U H:=λpins s I=>h pins s U H D I q
noncomputable def notStar:Expr->Bool
 | .Starred _ _=>false
 | _=>true
variable{es:CC}{env:Env}
def aT(h:notStar e=true):starEach (e::es) env=(false,eval e env)::starEach es env:=by
 cases e<;>first|rfl|(cases h)
structure Bx where
 B:Hp
 Z:Hp
def gF:HO->Bool
 | .tup _=>true
 | .d7 _ _=>true
 | .xd _=>true
 | _=>false
noncomputable def uM(x:Str):Bool:=x.cps[0]? == some 35
noncomputable def JJ(x:Str):Str:=#[x.cps.extract 1 x.cps.size]
def gY(CL:BC)(Z:Hp):Prop:=∀x,uM x=true->CL x≠0->Z (CL x)=some (.tabs (JJ x))
structure bz(K:Frag)(CL:BC)(b:Bx)(H Z:Hp)(δ:Ap)(U:L2.St)(ts:Bn)(vs:BS):Prop where
 rep:∃fp gp,dU K CL H Z δ U fp/\aP K CL H Z ts vs gp/\(fp++gp).Nodup/\∀a∈fp++gp,Z a=none/\b.B a=none
 bh:aB b.B H
 zz:aB b.Z Z
 zh:aB Z H
 new:∀a o,Z a=some o->b.Z a=none->b.B a=none
 tp:∀a o,H a=some o->gF o=true->Z a=some o
 tab:gY CL b.Z
variable{b:Bx}
theorem gY.mono{A B:Hp}(h:gY CL A)(e:aB A B):gY CL B:=λx a h0=>e _ _ (h x a h0)
theorem bz.Ey(S:bz K CL b H Z δ U ts vs):gY CL Z:=S.tab.mono S.zz
theorem bz.KL(S:bz K CL b H Z δ U ts vs):gY CL H:=S.Ey.mono S.zh
def X2{A B:Hp}(e:aB A B)(h:B a=none):A a=none:=e.free h
variable{p:Addr}
theorem aB.upd{o:HO}(h:H p=none):aB H (upd H p o):=λb u e=>az (aS e h)▸e
theorem bz.view(S:bz K CL b H Z δ U (t::ts) (v::vs)):aY K CL H t.d7 v:=by
 obtain⟨fp,gp,_,r,_,_⟩:=S.rep;cases r with
 | cons r _=>exact r.d7 S.zh λ_ _=>rfl
theorem bz.pop(S:bz K CL b H Z δ U (t::ts) (v::vs)):bz K CL b H Z δ U ts vs:=by
 obtain⟨fp,gp,e,r,nd,k⟩:=S.rep;cases r with
 | @cons _ _ _ _ f1 f2 f c=>
  refine#[#[fp,f2,e,c,nd.sublist (jf (iq _) (o7 _ _)),λa d=>k a ?_],S.bh,S.zz,S.zh,S.new,S.tp,S.tab];obtain h|h:=eg.1 d
  .exact ft _ h
  simp_all
theorem bz.push{d:D}(S:bz K CL b H Z δ U ts vs)(r:aY K CL Z d v):bz K CL b H Z δ U (.sh d::ts) (v::vs):=by
 obtain⟨fp,gp,e,a,nd,k⟩:=S.rep;exact#[#[fp,_,e,.cons (.sh r) a,nd,k],S.bh,S.zz,S.zh,S.new,S.tp,S.tab]
theorem bz.zO(S:bz K CL b H Z δ U (t::ts) (v::vs)):∃Z',aB Z Z'/\bz K CL b H Z' δ U (.sh t.d7::ts) (v::vs):=by
 classical
 obtain⟨fp,gp,e,r,nd,k⟩:=S.rep;cases r with
 | @cons _ _ _ _ f1 f2 m l=>
  have g:=λa c=>k a (eL _ (ft _ c));have sz:aB Z _:=λa o q=>by
   by_cases c:a∈f1
   .rw[(g a c).1]at q;cases q
   .show(if a∈f1 then H a else Z a)=some o;rw[cq c];exact q
  have f:=hO.1 nd;have n:∀a∈fp++f2,a∉f1:=λa c h1=>by
   obtain h|h:=eg.1 c
   .exact f.2.2 a h a (ft _ h1) rfl
   .exact(hO.1 f.2.1).2.2 a h1 a h rfl
  refine#[ _,sz,#[#[fp,[]++f2,e.mono sz (λ_ _=>rfl),.cons (.sh (m.d7 sz λa c=>di c)) (l.mono sz λ_ _=>rfl),?_,λa c=>?_],S.bh,S.zz.trans sz,λa o q=>?_,λa o q z=>?_,λa o q i=>?_,S.tab]]
  .exact nd.sublist (jf (iq _) (o7 _ _))
  .have j:a∈fp++f2:=c;refine#[?_,(k a ?_).2]
   .rw[cq (n a j)];refine(k a ?_).1;obtain h|h:=eg.1 j
    .exact ft _ h
    .exact eL _ (eL _ h)
   simp_all
  .have d:=q;by_cases c:a∈f1
   .rw[di c]at d;exact d
   .rw[cq c]at d;exact S.zh a o d
  .have d:=q;by_cases c:a∈f1
   .exact(g a c).2
   .rw[cq c]at d;exact S.new a o d z
  .exact sz a o (S.tp a o q i)
variable{i:Nat}
theorem bz.U7(S:bz K CL b H Z δ U ts vs)(hi:δ[i]? = some (some t)):∃v Z',U[i]? = some (some v)/\aB Z Z'/\bz K CL b H Z' (δ.set i (some (.sh t.d7))) U (.sh t.d7::ts) (v::vs):=by
 classical
 obtain⟨fp,gp,e,r,nd,k⟩:=S.rep;obtain⟨v,f1,f2,d,hv,u,rt,put,_⟩:=e.get hi;subst u;have p:∀a∈f2,Z a=none/\b.B a=none:=λa c=>k a (by simp[c]);have sz:aB Z (λa=>if a∈f2 then H a else Z a):=λa o q=>by
  by_cases c:a∈f2
  .rw[(p a c).1]at q;cases q
  .show(if a∈f2 then H a else Z a)=some o;rw[cq c];exact q
 have w:∀a∈(f1++d)++gp,a∉f2:=λa c s=>by
  have hp:((f1++(f2++d))++gp).Perm (f2++((f1++d)++gp)):=by
   rw[<- eB,<- eB];refine(List.perm_append_right_iff gp).2 ?_;rw[<- eB];exact(List.perm_append_right_iff d).2 i8
  exact(hO.1 (hp.nodup_iff.1 nd)).2.2 a s a c rfl
 have n:aY K CL (λa=>if a∈f2 then H a else Z a) t.d7 v:=rt.d7 sz λa c=>di c;have l:U.set i (some v)=U:=by
  apply l3;intro j;rw[List.getElem?_set];split
  .rename_i h;subst h;split
   .exact hv.symm
   .rename_i s;rw[List.getElem?_eq_none Wl]
  .rfl
 have e2:dU K CL H (λa=>if a∈f2 then H a else Z a) (δ.set i (some (.sh t.d7))) U (f1++([]++d)):=by
  have:=put (H':=H) (t':=.sh t.d7) (v':=v) (g:=[]) sz (λ_ _=>rfl) (.sh n)
  rwa [l]at this
 refine#[v,λa=>if a∈f2 then H a else Z a,hv,sz,#[#[f1++([]++d),[]++gp,e2,.cons (.sh n) (r.mono sz λ_ _=>rfl),?_,λa c=>?_],S.bh,S.zz.trans sz,λa o q=>?_,λa o q z=>?_,λa o q i=>sz a o (S.tp a o q i),S.tab]]
 .exact nd.sublist (jf (jf (iq _) (o7 _ _)) (iq _))
 .have m:a∈(f1++d)++gp:=c;have hm:a∈(f1++(f2++d))++gp:=by
   simp only[eg]at m ⊢;rcases m with(h|h)|h
   .exact .inl (.inl h)
   .exact .inl (.inr (.inr h))
   .exact .inr h
  refine#[?_,(k a hm).2];show(if a∈f2 then H a else Z a)=none;rw[cq (w a m)];exact(k a hm).1
 .have f:(if a∈f2 then H a else Z a)=some o:=q;by_cases c:a∈f2
  .rw[di c]at f;exact f
  .rw[cq c]at f;exact S.zh a o f
 .have f:(if a∈f2 then H a else Z a)=some o:=q;by_cases c:a∈f2
  .exact(p a c).2
  .rw[cq c]at f;exact S.new a o f z
theorem bz.move(S:bz K CL b H Z δ U ts vs)(hi:δ[i]? = some (some t)):∃v,U[i]? = some (some v)/\bz K CL b H Z (δ.set i none) U (t::ts) (v::vs):=by
 obtain⟨fp,gp,e,r,nd,k⟩:=S.rep;obtain⟨v,f1,f2,c,hv,f,rt,_,del⟩:=e.get hi;subst f;have d:U.set i (some v)=U:=by
  apply l3;intro j;rw[List.getElem?_set];split
  .rename_i h;subst h;split
   .exact hv.symm
   simp_all
  .rfl
 have hp:((f1++(f2++c))++gp).Perm ((f1++c)++(f2++gp)):=by
  have h1:(f2++c).Perm _:=i8;have l:=(lb f1 h1).append_right gp;simp_all
 refine#[v,hv,#[#[ _,_,?_,.cons rt r,hp.nodup_iff.1 nd,λa g=>k a (hp.mem_iff.2 g)],S.bh,S.zz,S.zh,S.new,S.tp,S.tab]];have:=del (o:=some v)
 rwa [d]at this
theorem bz.look(S:bz K CL b H Z δ U ts vs)(hi:δ[i]? = some (some t)):∃v,U[i]? = some (some v)/\aY K CL H t.d7 v:=by
 obtain⟨fp,gp,e,r,nd,k⟩:=S.rep;obtain⟨v,f1,f2,c,hv,a,rt,_,_⟩:=e.get hi;exact#[v,hv,rt.d7 S.zh λ_ _=>rfl]
theorem bz.OZ{d:D}(S:bz K CL b H Z δ U ts vs)(hi:δ[i]? = some (some (.sh d))):∃v,U[i]? = some (some v)/\aY K CL Z d v:=by
 obtain⟨fp,gp,e,r,nd,k⟩:=S.rep;obtain⟨v,f1,f2,c,hv,a,rt,_,_⟩:=e.get hi;obtain⟨rfl,h⟩:=rt.KG;exact#[v,hv,h]
theorem bz.set(S:bz K CL b H Z δ U (t::ts) (v::vs))(hi:i<δ.length):bz K CL b H Z (δ.set i (some t)) (U.set i (some v)) ts vs:=by
 obtain⟨fp,gp,e,r,nd,k⟩:=S.rep;cases r with
 | @cons _ _ _ _ f1 f2 h g=>
  obtain⟨f,h1,c,m,l⟩:=e.put h hi;have hp:(f++f2).Perm (c++(f1++f2)):=by
   refine(l.append_right f2).trans ?_;rw[<- eB];exact i8.append_right f2
  have d:(c++(f1++f2)).Sublist _:=jf m (iq _);exact#[#[f,f2,h1,g,hp.nodup_iff.2 (nd.sublist d),λa j=>k a (d.subset (hp.mem_iff.1 j))],S.bh,S.zz,S.zh,S.new,S.tp,S.tab]
mutual
def D.j6:D->Bool
 | .tup ds=>D.bP ds
 | .lst _=>false
 | .ins _ _=>false
 | .iO _=>false
 | .dct _=>false
 | .any=>false
 | .BK _ _ _=>false
 | _=>true
def D.bP:BB->Bool
 | []=>true
 | d::ds=>d.j6&&D.bP ds
end
mutual
def T.clean:T->Bool
 | .sh d=>d.j6
 | .tup ts=>T.c7 ts
 | .lst ts=>T.c7 ts
 | .ins _ fs=>T.bY fs
 | .iO aN=>D.bP (aN.map (·.2))
 | .dct aN=>T.zP aN
 | .pin _ t=>t.clean
 | .BK _ _ _=>false
def T.c7:Bn->Bool
 | []=>true
 | t::ts=>t.clean&&T.c7 ts
def T.bY:B1->Bool
 | []=>true
 | (_,t)::ts=>t.clean&&T.bY ts
def T.zP:Cf->Bool
 | []=>true
 | (_,t)::ts=>t.clean&&T.zP ts
end
def bw(X:Cx)(CL:BC)(b:Bx)(e:Expr)(δ:Ap)(t:T)(δ':Ap):Prop:=
 ∀(H Z:Hp) (U:L2.St) (ts:Bn) (vs:BS) (Q:VK),bz X.K CL b H Z δ U ts vs->(∀v H' Z',aB Z Z'->aB H H'->bz X.K CL b H' Z' δ' U (t::ts) (v::vs)->Q v H')->xO X e U H Q
def bN(X:Cx)(CL:BC)(b:Bx)(e:Expr)(δ:Ap)(d:D)(δ':Ap):Prop:=
 ∀(H Z:Hp) (U:L2.St) (ts:Bn) (vs:BS) (Q:VK),bz X.K CL b H Z δ U ts vs->(∀v H' Z',aB Z Z'->aB H H'->bz X.K CL b H' Z' δ' U ts vs->aY X.K CL H' d v->Q v H')->xO X e U H Q
def kQ(X:Cx)(CL:BC)(b:Bx)(e:Expr)(δ:Ap)(p:Bool)(δ':Ap):Prop:=
 ∀(H Z:Hp) (U:L2.St) (ts:Bn) (vs:BS) (Q:EQ),bz X.K CL b H Z δ U ts vs->(∀H' Z',aB Z Z'->aB H H'->bz X.K CL b H' Z' δ' U ts vs->Q p H')->U6 X e U H Q
def Ek(X:Cx)(CL:BC)(b:Bx)(es:CC)(δ:Ap)(tl:Bn)(δ':Ap):Prop:=
 ∀(H Z:Hp) (U:L2.St) (ts:Bn) (vs:BS) (Q:EN),bz X.K CL b H Z δ U ts vs →
  (∀us H' Z',us.length=tl.length->aB Z Z'->aB H H'->bz X.K CL b H' Z' δ' U (tl.reverse++ts) (us.reverse++vs)->Q us H')->xP X es U H Q
def BL(X:Cx)(CL:BC)(b:Bx)(es:CC)(δ:Ap)(ds:BB)(δ':Ap):Prop:=
 ∀(H Z:Hp) (U:L2.St) (ts:Bn) (vs:BS) (Q:EN),bz X.K CL b H Z δ U ts vs →
  (∀us H' Z',aB Z Z'->aB H H'->bz X.K CL b H' Z' δ' U ts vs->aD X.K CL H' ds us->Q us H')->xP X es U H Q
structure cy where
 nx:Ap->Prop
 rt:T->Ap->Prop
 bk:Ap->Prop:=λ_=>False
 ct:Ap->Prop:=λ_=>False
structure Meets(K:Frag)(CL:BC)(b:Bx)(Z:Hp)(ts:Bn)(vs:BS)(D:cy)(E:Ends):Prop where
 nx:∀δ' U' H' Z',aB Z Z'->bz K CL b H' Z' δ' U' ts vs->D.nx δ'->E.nx U' H'
 rt:∀t v H' Z' δ' U',aB Z Z'->bz K CL b H' Z' δ' U' (t::ts) (v::vs)->D.rt t δ'->E.rt v H'
 bk:∀δ' U' H' Z',aB Z Z'->bz K CL b H' Z' δ' U' ts vs->D.bk δ'->E.bk U' H'
 ct:∀δ' U' H' Z',aB Z Z'->bz K CL b H' Z' δ' U' ts vs->D.ct δ'->E.ct U' H'
def O2(X:Cx)(CL:BC)(b:Bx)(st:Stmt)(δ:Ap)(D:cy):Prop:=
 ∀(H Z:Hp) (U:L2.St) (ts:Bn) (vs:BS) (E:Ends),bz X.K CL b H Z δ U ts vs->Meets X.K CL b Z ts vs D E->OY X st E U H
def cg(X:Cx)(CL:BC)(b:Bx)(st:CO)(δ:Ap)(D:cy):Prop:=
 ∀(H Z:Hp) (U:L2.St) (ts:Bn) (vs:BS) (E:Ends),bz X.K CL b H Z δ U ts vs->Meets X.K CL b Z ts vs D E->KH X st E U H
theorem Meets.mono{D:cy}{E:Ends}(M:Meets K CL b Z ts vs D E)(e:aB Z Z'):Meets K CL b Z' ts vs D E:=
 #[λ_ _ _ _ s=>M.nx _ _ _ _ (e.trans s),λ_ _ _ _ _ _ s=>M.rt _ _ _ _ _ _ (e.trans s),λ_ _ _ _ s=>M.bk _ _ _ _ (e.trans s),λ_ _ _ _ s=>M.ct _ _ _ _ (e.trans s)]
def U8(zh:∀a o,H a=some o->gF o=true->Z a=some o)(h:lN K H a xs):lN K Z a xs:=by
 rcases h with(h|⟨o,h⟩)|h
 .exact .inl (.inl (zh _ _ h rfl))
 .exact .inl (.inr #[o,zh _ _ h rfl])
 .exact .inr h
theorem aY.j6(zh:∀a o,H a=some o->gF o=true->Z a=some o){d:D}(k:d.j6=true)(h:aY K CL H d v):aY K CL Z d v:=
 aY.rec (motive_2:=λd v _=>D.bP d=true->aD K CL Z d v) (motive_3:=λd v _=>True) (motive_4:=λd v _=>True) (motive_5:=λd v _=>True)
  (λ_=>.non) (λb _=>.bl b) (λb _=>.int b) (λb _=>.str b) (λ_ k=>by cases k) (λb _=>.val b) (λh _ r k=>.tup (U8 zh h) (r (‹_›))) (λ_ _ _ k=>by cases k) (λ_ _ _ k=>by cases k) (λ_ _ _ k=>by cases k) (λ_ _ _ k=>by cases k) (λ_ _ _ _ _ k=>by rw[D.j6]at k;cases k) (λ_=>.nil) (λ_ _ h r k=>by rw[D.bP,et]at k;exact .cons (h k.1) (r k.2)) trivial (λ_ _ _ _=>trivial) trivial (λ_ _ _ _=>trivial) trivial (λ_ _ _ _=>trivial) h k
theorem aD.j6(zh:∀a o,H a=some o->gF o=true->Z a=some o){d:BB}{v:BS}(k:D.bP d=true)(h:aD K CL H d v):aD K CL Z d v:=aD.ind (P:=λd v=>D.bP d=true->aD K CL Z d v) (λ_=>.nil) (λr _ i k=>by rw[D.bP,et]at k;exact .cons (r.j6 zh k.1) (i k.2)) h k
theorem bR.clean{Z1:Hp}(a:∀{d:D} {v:V},d.j6=true->aY K CL Z1 d v->aY K CL Z d v){aN:CA}{gs:Ch}(k:D.bP (aN.map (·.2))=true)(h:bR K CL Z1 aN gs):bR K CL Z aN gs:=
 bR.ind (P:=λaN gs=>D.bP (aN.map _)=true->bR K CL Z aN gs) (λ_=>.nil) (λh _ i k=>by rw[eJ,D.bP,et]at k;exact .cons (a k.1 h) (i k.2)) h k
theorem aZ.clean{Z1:Hp}(zh:∀a xs,Z1 a=some (.tup xs)->Z a=some (.tup xs))(b:∀{d:D} {v:V},d.j6=true->aY K CL Z1 d v->aY K CL Z d v)(k:t.clean=true)(h:aZ K CL H Z1 t v fp):aZ K CL H Z t v fp:=
 aZ.rec (motive_2:=λt v fp _=>T.c7 t=true->aP K CL H Z t v fp) (motive_3:=λt v fp _=>T.bY t=true->cG K CL H Z t v fp) (motive_4:=λt v fp _=>T.zP t=true->fh K CL H Z t v fp)
  (λh k=>.sh (b (‹_›) h)) (λh _ r k=>.tup (zh _ _ h) (r (‹_›))) (λh _ r k=>.lst h (r (‹_›))) (λh _ r k=>.ins h (r (‹_›))) (λh f k=>.iO h (bR.clean b (‹_›) f)) (λh _ r k=>.dct h (r (‹_›))) (λ_ r k=>.pin (r (‹_›))) (λ_ _ _ k=>by rw[T.clean]at k;cases k) (λ_=>.nil) (λ_ _ h r k=>by rw[T.c7,et]at k;exact .cons (h k.1) (r k.2)) (λ_=>.nil) (λ_ _ h r k=>by rw[T.bY,et]at k;exact .cons (h k.1) (r k.2)) (λ_=>.nil) (λ_ _ h r k=>by rw[T.zP,et]at k;exact .cons (h k.1) (r k.2)) h k
theorem bz.back{W W':Hp}(S:bz K CL b H Z δ U ts vs)(p:aB H H')(s:aB Z W)(ww:aB W W')(m:aB W' H')(new:∀a o,W' a=some o->W a=none->H a=none)
  (tp:∀a o,H' a=some o->gF o=true->W' a=some o) (r:aZ K CL H' W' t v fp) (nd:fp.Nodup) (own:∀a∈fp,W' a=none/\H a=none) (c:W=Z\/t.clean=true) :
  ∃Z',aB Z Z'/\bz K CL b H' Z' δ U (t::ts) (v::vs):=by
 classical
 let Z':Hp:=λa=>if (H a).isSome=true then Z a else W' a
 have zs:∀{a:Addr} {o:HO},H a=some o->Z' a=Z a:=λ{a o} e=>by
  show(if (H a).isSome=true then Z a else W' a)=Z a;rw[di (by rw[e];rfl)]
 have zn:∀{a:Addr},H a=none->Z' a=W' a:=λ{a} e=>by
  show(if (H a).isSome=true then Z a else W' a)=W' a;rw[cq (by rw[e];simp)]
 have sz:aB Z Z':=λa o q=>by rw[zs (S.zh a o q)];exact q
 have l:∀a o,Z' a=some o->W' a=some o:=λa o q=>by
  cases e:H a with
  | none=>rw[zn e]at q;exact q
  | some u=>rw[zs e]at q;exact ww a o (s a o q)
 have g:∀a o,H' a=some o->gF o=true->Z' a=some o:=λa o q i=>by
  cases e:H a with
  | none=>rw[zn e];exact tp a o q i
  | some u=>
   rw[zs e];have:=p a u e;rw[q]at this;cases this;exact S.tp a o e i
 have x:aZ K CL H' Z' t v fp:=by
  obtain c|c:=c
  .have:Z'=W':=by
    funext a;cases e:H a with
    | none=>exact zn e
    | some u=>
     rw[zs e];cases q:W' a with
     | none=>
      cases j:Z a with
      | none=>rfl
      | some o=>rw[ww a o (s a o j)]at q;cases q
     | some o=>
      cases j:W a with
      | none=>rw[new a o q j]at e;cases e
      | some y=>
       have:=ww a y j;rw[q]at this;cases this;rw[<- c];exact j
   rw[this];exact r
  .refine aZ.clean (λa xs h=>?_) (λ{d v} k h=>?_) c r
   .exact g a _ (m a _ h) rfl
   .exact aY.j6 (H:=H') g k (h.mono m)
 obtain⟨f0,g0,e0,w,n,k0⟩:=S.rep;have old:∀a∈f0++g0,∃o,H a=some o:=λa f=>(eg.1 f).elim (e0.there a) (w.there a);have keep:∀a∈f0++g0,H' a=H a:=λa f=>by
  obtain⟨o,e⟩:=old a f;rw[e];exact p a o e
 refine#[Z',sz,#[#[f0,fp++g0,e0.mono sz (λa f=>keep a (ft _ f)),.cons x (w.mono sz λa f=>keep a (eL _ f)),?_,λa f=>?_],S.bh.trans p,S.zz.trans sz,λa o q=>m a o (l a o q),λa o q z=>?_,g,S.tab]]
 .have hp:(f0++(fp++g0)).Perm (fp++(f0++g0)):=by
   rw[<- eB,<- eB];exact i8.append_right g0
  refine hp.nodup_iff.2 (hO.2 #[nd,n,λa f c A e=>?_]);subst e;obtain⟨o,q⟩:=old a A;rw[(own a f).2]at q;cases q
 .have:a∈f0++g0\/a∈fp:=by
   simp only[eg]at f ⊢;obtain h|h|h:=f
   .exact .inl (.inl h)
   .exact .inr h
   .exact .inl (.inr h)
  obtain h|h:=this
  .obtain⟨o,q⟩:=old a h;exact#[by rw[zs q];exact(k0 a h).1,(k0 a h).2]
  .exact#[by rw[zn (own a h).2];exact(own a h).1,S.bh.free (own a h).2]
 .cases e:H a with
  | none=>exact S.bh.free e
  | some u=>rw[zs e]at q;exact S.new a o q z
section
variable{δ1 δ2:Ap}{e1 e2:Expr}{pos:Pos}{d d1 d2:D}
noncomputable def Yh(h:bw X CL b e δ t δ1):bN X CL b e δ t.d7 δ1:=λH Z U ts vs Q S k=>h H Z U ts vs Q S λv H' Z' z s a=>k v H' Z' z s a.pop a.view
def ak(h:bw X CL b e δ (.sh d) δ1):bN X CL b e δ d δ1:=by have:=Yh h;rwa [T.d7]at this
noncomputable def aG(h:bN X CL b e δ d δ1)(i:d.j6=true):bw X CL b e δ (.sh d) δ1:=λH Z U ts vs Q S k=>h H Z U ts vs Q S λv H' Z' z s a r=>k v H' Z' z s (a.push (aY.j6 a.tp i r))
def zQ(h:bw X CL b e δ t δ1):bw X CL b e δ (.sh t.d7) δ1:=λH Z U ts vs Q S k=>h H Z U ts vs Q S λv H' Z' z s d=>by
 obtain⟨Z2,a,c⟩:=d.zO;exact k v H' Z2 (z.trans a) s c
def gZ{i:Int}{j:Nat}:bw X CL b (.Constant (.int i) j pos) δ (.sh (.int i)) δ:=λH Z U ts vs Q S k=>bH Zw (k _ _ Z (.refl _) (.refl _) (S.push (.int i)))
def fu{i:Bool}{j:Nat}:bw X CL b (.Constant (.bool i) j pos) δ (.sh (.bl i)) δ:=λH Z U ts vs Q S k=>bH O0 (k _ _ Z (.refl _) (.refl _) (S.push (.bl i)))
def O4{j:Nat}:bw X CL b (.Constant .none j pos) δ (.sh .non) δ:=λH Z U ts vs Q S k=>bH Zx (k _ _ Z (.refl _) (.refl _) (S.push .non))
def bQ{x:Str}{j:Nat}:bw X CL b (.Constant (.str x) j pos) δ (.sh (.str x)) δ:=λH Z U ts vs Q S k=>bH Zy (k _ _ Z (.refl _) (.refl _) (S.push (.str x)))
section
variable{x:Str}(i:Nat)(hi:X.N[i]? = some x:=by rfl)(hv:N5 X.env.scope x:=by first|exact Or.inl rfl|exact Or.inr (Or.inl rfl)|exact Or.inr (Or.inr rfl))(hd:AD x:=by decide)(gX:AE x:=by decide)
include hi hv hd gX
def X1(h:δ[i]? = some (some (.sh d)):=by rfl):bw X CL b (.Name x pos) δ (.sh d) δ:=λH Z U ts vs Q S k=>by
 obtain⟨v,e,r⟩:=S.OZ h;exact bH (jS hi hv hd gX) #[v,e,k v H Z (.refl _) (.refl _) (S.push r)]
def U9(h:δ[i]? = some (some t):=by rfl):bw X CL b (.Name x pos) δ t (δ.set i none):=λH Z U ts vs Q S k=>by
 obtain⟨v,e,a⟩:=S.move h;exact bH (jS hi hv hd gX) #[v,e,k v H Z (.refl _) (.refl _) a]
def X0(h:δ[i]? = some (some t):=by rfl):bN X CL b (.Name x pos) δ t.d7 δ:=λH Z U ts vs Q S k=>by
 obtain⟨v,e,r⟩:=S.look h;exact bH (jS hi hv hd gX) #[v,e,k v H Z (.refl _) (.refl _) S r]
end
noncomputable def Va:D->Option V
 | .non=>some .non
 | .bl b=>some (.bl b)
 | .int i=>some (.int i)
 | .str x => some (.str x)
 | _=>none
theorem aY.sc{d:D}{w:V}(r:aY K CL Z d v)(h:Va d=some w):v=w:=by
 cases r<;>first|(exact e5 h)|(cases h)
def Vb{d:D}{w:V}(h:Va d=some w):aY K CL Z d w:=by
 cases d<;>first|(cases h;constructor)|(cases h)
def mE{op:Operator}{r:R2}{c a w:V}(j:lR X (binaryOp op) r)(h1:bN X CL b e1 δ d1 δ1)(l:bN X CL b e2 δ1 d2 δ2)(s1:Va d1=some c)(s2:Va d2=some a)(s3:Va d=some w)
  (i:∀(H:Hp) (Q:VK),Q w H->r c a H Q):bw X CL b (.BinOp e1 op e2 pos) δ (.sh d) δ2:=λH Z U ts vs Q S k=>by
 refine bH (Hz j bX bX) (h1 H Z U ts vs _ S λv1 H1 Z1 f k1 n h=>l H1 Z1 U ts vs _ n λv2 H2 Z2 e k2 m g=>?_);rw[h.sc s1,g.sc s2];exact i H2 Q (k w H2 Z2 (f.trans e) (k1.trans k2) (m.push (Vb s3)))
noncomputable def eF{i j:Int}(h1:bN X CL b e1 δ (.int i) δ1)(a:bN X CL b e2 δ1 (.int j) δ2):bw X CL b (.BinOp e1 .Add e2 pos) δ (.sh (.int (i+j))) δ2:=mE ZQ h1 a rfl rfl rfl λ_ _ q=>#[i,j,rfl,rfl,q]
noncomputable def kU{i j:Int}(h1:bN X CL b e1 δ (.int i) δ1)(a:bN X CL b e2 δ1 (.int j) δ2):bw X CL b (.BinOp e1 .Sub e2 pos) δ (.sh (.int (i-j))) δ2:=mE ZR h1 a rfl rfl rfl λ_ _ q=>#[i,j,rfl,rfl,q]
noncomputable def zR{i j:Int}(h1:bN X CL b e1 δ (.int i) δ1)(a:bN X CL b e2 δ1 (.int j) δ2)(c:UI i j):bw X CL b (.BinOp e1 .Mult e2 pos) δ (.sh (.int (i*j))) δ2:=mE ZS h1 a rfl rfl rfl λ_ _ q=>#[i,j,rfl,rfl,c,q]
noncomputable def bI{i j:Int}(h1:bN X CL b e1 δ (.int i) δ1)(a:bN X CL b e2 δ1 (.int j) δ2)(c:0<j):bw X CL b (.BinOp e1 .Mod e2 pos) δ (.sh (.int (i % j))) δ2:=mE ZT h1 a rfl rfl rfl λ_ _ q=>#[i,j,rfl,rfl,c,q]
noncomputable def bK{i j:Int}(h1:bN X CL b e1 δ (.int i) δ1)(a:bN X CL b e2 δ1 (.int j) δ2)(c:Fs i j):bw X CL b (.BinOp e1 .FloorDiv e2 pos) δ (.sh (.int (i / j))) δ2:=mE UJ h1 a rfl rfl rfl λ_ _ q=>#[i,j,rfl,rfl,c,q]
noncomputable def uN{i j:Int}(h1:bN X CL b e1 δ (.int i) δ1)(a:bN X CL b e2 δ1 (.int j) δ2)(c:Fn i j):bw X CL b (.BinOp e1 .Pow e2 pos) δ (.sh (.int (i ^ j.toNat))) δ2:=mE ZU h1 a rfl rfl rfl λ_ _ q=>#[i,j,rfl,rfl,c,q]
noncomputable def aH{x y:Str}(h1:bN X CL b e1 δ (.str x) δ1)(a:bN X CL b e2 δ1 (.str y) δ2)(c:x.length+y.length<=sizeLine):bw X CL b (.BinOp e1 .Add e2 pos) δ (.sh (.str (x++y))) δ2:=mE ED h1 a rfl rfl rfl λ_ _ q=>#[x,y,rfl,rfl,c,q]
def mF{op:CmpOp}{r:R2}{p:Bool}{i h:V}(l:lR X (compareOp op) r)(h1:bN X CL b e1 δ d1 δ1)(m:bN X CL b e2 δ1 d2 δ2)(s1:Va d1=some i)(s2:Va d2=some h)
  (j:∀(H:Hp) (Q:VK),Q (.bl p) H->r i h H Q) (hm:behindInMarks op e2=false):kQ X CL b (.Compare e1 [op] [e2] pos) δ p δ2/\bw X CL b (.Compare e1 [op] [e2] pos) δ (.sh (.bl p)) δ2:=by
 constructor
 .intro H Z U ts vs Q S k;refine pR (nk l bX bX hm) (h1 H Z U ts vs _ S λv1 H1 Z1 c k1 g e=>m H1 Z1 U ts vs _ g λv2 H2 Z2 a k2 f d=>?_);rw[e.sc s1,d.sc s2];exact j H2 _ #[p,rfl,k H2 Z2 (c.trans a) (k1.trans k2) f]
 .intro H Z U ts vs Q S k;refine bH (nj l bX bX hm) (h1 H Z U ts vs _ S λv1 H1 Z1 c k1 g e=>m H1 Z1 U ts vs _ g λv2 H2 Z2 a k2 f d=>?_);rw[e.sc s1,d.sc s2];exact j H2 _ (k _ H2 Z2 (c.trans a) (k1.trans k2) (f.push (.bl p)))
def PU{c a:V}(h1:bN X CL b e1 δ d1 δ1)(d:bN X CL b e2 δ1 d2 δ2)(s1:Va d1=some c)(s2:Va d2=some a)(sc:ZW c a=true) :
  kQ X CL b (.Compare e1 [.Eq] [e2] pos) δ (decide (c=a)) δ2/\bw X CL b (.Compare e1 [.Eq] [e2] pos) δ (.sh (.bl (decide (c=a)))) δ2:=mF Od h1 d s1 s2 (λ_ _ q=>#[sc,q]) (jT _)
theorem aU{i j:Int}(h1:bN X CL b e1 δ (.int i) δ1)(a:bN X CL b e2 δ1 (.int j) δ2):kQ X CL b (.Compare e1 [.Eq] [e2] pos) δ (decide (i=j)) δ2/\bw X CL b (.Compare e1 [.Eq] [e2] pos) δ (.sh (.bl (decide (i=j)))) δ2:=
 mF Od h1 a rfl rfl (λ_ _ q=>#[rfl,by simp_all ]) (jT _)
theorem g5{i j:Int}(h1:bN X CL b e1 δ (.int i) δ1)(a:bN X CL b e2 δ1 (.int j) δ2):kQ X CL b (.Compare e1 [.NotEq] [e2] pos) δ (!decide (i=j)) δ2/\bw X CL b (.Compare e1 [.NotEq] [e2] pos) δ (.sh (.bl (!decide (i=j)))) δ2:=
 mF X9 h1 a rfl rfl (λ_ _ q=>#[rfl,by simp_all ]) (jT _)
theorem b5{i j:Str}(h1:bN X CL b e1 δ (.str i) δ1)(a:bN X CL b e2 δ1 (.str j) δ2):kQ X CL b (.Compare e1 [.Eq] [e2] pos) δ (decide (i=j)) δ2/\bw X CL b (.Compare e1 [.Eq] [e2] pos) δ (.sh (.bl (decide (i=j)))) δ2:=
 mF Od h1 a rfl rfl (λ_ _ q=>#[rfl,by simp_all ]) (jT _)
theorem uO{i j:Str}(h1:bN X CL b e1 δ (.str i) δ1)(a:bN X CL b e2 δ1 (.str j) δ2):kQ X CL b (.Compare e1 [.NotEq] [e2] pos) δ (!decide (i=j)) δ2/\bw X CL b (.Compare e1 [.NotEq] [e2] pos) δ (.sh (.bl (!decide (i=j)))) δ2:=
 mF X9 h1 a rfl rfl (λ_ _ q=>#[rfl,by simp_all ]) (jT _)
def nU{i j:Int}(h1:bN X CL b e1 δ (.int i) δ1)(a:bN X CL b e2 δ1 (.int j) δ2):kQ X CL b (.Compare e1 [.Lt] [e2] pos) δ (decide (i<j)) δ2/\bw X CL b (.Compare e1 [.Lt] [e2] pos) δ (.sh (.bl (decide (i<j)))) δ2:=mF HF h1 a rfl rfl (λ_ _ q=>#[i,j,rfl,rfl,q]) (jT _)
def O5{i j:Int}(h1:bN X CL b e1 δ (.int i) δ1)(a:bN X CL b e2 δ1 (.int j) δ2):kQ X CL b (.Compare e1 [.LtE] [e2] pos) δ (decide (i<=j)) δ2/\bw X CL b (.Compare e1 [.LtE] [e2] pos) δ (.sh (.bl (decide (i<=j)))) δ2:=mF HG h1 a rfl rfl (λ_ _ q=>#[i,j,rfl,rfl,q]) (jT _)
def nV{i j:Int}(h1:bN X CL b e1 δ (.int i) δ1)(a:bN X CL b e2 δ1 (.int j) δ2):kQ X CL b (.Compare e1 [.Gt] [e2] pos) δ (decide (j<i)) δ2/\bw X CL b (.Compare e1 [.Gt] [e2] pos) δ (.sh (.bl (decide (j<i)))) δ2:=mF Pq h1 a rfl rfl (λ_ _ q=>#[i,j,rfl,rfl,q]) (jT _)
def PM{i j:Int}(h1:bN X CL b e1 δ (.int i) δ1)(a:bN X CL b e2 δ1 (.int j) δ2):kQ X CL b (.Compare e1 [.GtE] [e2] pos) δ (decide (j<=i)) δ2/\bw X CL b (.Compare e1 [.GtE] [e2] pos) δ (.sh (.bl (decide (j<=i)))) δ2:=mF Po h1 a rfl rfl (λ_ _ q=>#[i,j,rfl,rfl,q]) (jT _)
end
theorem aP.split:∀{as bs:Bn} {us ws:BS} {gp:BY},as.length=us.length->aP K CL H Z (as++bs) (us++ws) gp->∃g1 g2,gp=g1++g2/\aP K CL H Z as us g1/\aP K CL H Z bs ws g2
 | [],_,[],_,gp,_,r=>#[[],gp,rfl,.nil,r]
 | [],_,_::_,_,_,h,_=>by simp at h
 | _::_,_,[],_,_,h,_=>by simp at h
 | a::as,bs,u::us,ws,gp,h,r=>by
  cases r with
  | @cons _ _ _ _ f1 f2 c b=>
   obtain⟨g1,g2,e,h1,d⟩:=aP.split WF b;exact#[ _,g2,WF,.cons c h1,d]
variable{us:BS}
theorem aP.app{as bs:Bn}{ws:BS}{g1 g2:BY}(h:aP K CL H Z as us g1)(q:aP K CL H Z bs ws g2):aP K CL H Z (as++bs) (us++ws) (g1++g2):=
 aP.ind (P:=λas us g1=>aP K CL H Z (as++bs) (us++ws) (g1++g2)) q (λr _ i=>by rw[eB];exact .cons r i) h
theorem aP.rev:∀{as:Bn} {us:BS} {g:BY},aP K CL H Z as.reverse us.reverse g->∃g',aP K CL H Z as us g'/\g'.Perm g
 | [],[],g,r=>by grind
 | [],u::us,g,r=>by have:=r.length;simp at this
 | a::as,[],g,r=>by have:=r.length;simp at this
 | a::as,u::us,g,r=>by
  rw[nz,nz]at r;have i:=r.length;obtain⟨g1,g2,e,c,b⟩:=aP.split WF r;subst e;obtain⟨g',d,p⟩:=aP.rev c;cases b with
  | @cons _ _ _ _ f1 f2 h f=>
   cases f;refine#[ _,.cons h d,?_];rw[e6];exact(lb f1 p).trans i8
theorem aP.HE{ds:BB}:aD K CL Z ds us->aP K CL H Z (ds.map T.sh) us []:=
 aD.ind (P:=λds us=>aP K CL H Z (ds.map T.sh) us []) .nil λr _ i=>.cons (.sh r) i
theorem iC:∀(ds:BB),T.dO (ds.map T.sh)=ds
 | []=>rfl
 | d::ds=>by rw[eJ,T.dO,iC ds,T.d7]
variable{tl:Bn}
theorem bz.uP(S:bz K CL b H Z δ U (tl.reverse++ts) (us.reverse++vs))(n:us.length=tl.length)(hp:H p=none) :
  aB Z (upd Z p (.tup us))/\aB H (upd H p (.tup us))/\bz K CL b (upd H p (.tup us)) (upd Z p (.tup us)) δ U (.tup tl::ts) (.ref p::vs):=by
 obtain⟨fp,gp,e,r,nd,k⟩:=S.rep;obtain⟨g1,g2,m,j,g⟩:=aP.split WI r;subst m;obtain⟨g',l,pm⟩:=j.rev;have f:=S.zh.free hp;have sz:aB Z (upd Z p (.tup us)):=aB.upd f;have sh:aB H (upd H p (.tup us)):=aB.upd hp;have keep:∀a∈fp++(g1++g2),a≠p:=λa c=>by
  have:∃o,H a=some o:=by
   obtain h|h:=eg.1 c
   .exact e.there a h
   .exact r.there a h
  obtain⟨o,q⟩:=this;exact aS q hp
 have d:=(pm.append_right g2).append_left fp;have kk:=λa c=>keep a (d.mem_iff.1 c);refine#[sz,sh,#[#[fp,_,e.mono sz (λa c=>az (keep a (ft _ c))),.cons (.tup aJ (l.mono sz λa c=>az (kk a (by simp[c])))) (g.mono sz λa c=>az (keep a (by simp[c]))),d.nodup_iff.2 nd,λa c=>?_],S.bh.trans sh,S.zz.trans sz,λa o q=>?_,λa o q z=>?_,λa o q i=>?_,S.tab]]
 .exact#[ az (kk a c)▸(k a (d.mem_iff.1 c)).1,(k a (d.mem_iff.1 c)).2]
 .by_cases c:a=p
  .subst c;rw[aJ]at q ⊢;exact q
  .rw[az c]at q ⊢;exact S.zh a o q
 .by_cases c:a=p
  .subst c;exact S.bh.free hp
  .rw[az c]at q;exact S.new a o q z
 .by_cases c:a=p
  .subst c;rw[aJ]at q ⊢;exact q
  .rw[az c]at q ⊢;exact S.tp a o q i
theorem bz.rG{g0:BY}(S:bz K CL b H Z δ U (tl.reverse++ts) (us.reverse++vs))(s:us.length=tl.length)(hp:H p=none) :
  aB H (upd H p (.lst us))/\bz K CL b (upd H p (.lst us)) Z δ U (.lst tl::ts) (.ref p::vs):=by
 obtain⟨fp,gp,e,r,nd,k⟩:=S.rep;obtain⟨g1,g2,n,l,j⟩:=aP.split WI r;subst n;obtain⟨g',m,pm⟩:=l.rev;have g:=S.zh.free hp;have sh:aB H (upd H p (.lst us)):=aB.upd hp;have keep:∀a∈fp++(g1++g2),a≠p:=λa c=>by
  have:∃o,H a=some o:=by
   obtain h|h:=eg.1 c
   .exact e.there a h
   .exact r.there a h
  obtain⟨o,q⟩:=this;exact aS q hp
 have f:=(pm.append_right g2).append_left fp;have kk:=λa c=>keep a (f.mem_iff.1 c);have d:(fp++((p::g')++g2)).Perm (p::(fp++(g'++g2))):=by simp
 refine#[sh,#[#[fp,_,e.mono (.refl _) (λa c=>az (keep a (ft _ c))),.cons (.lst aJ (m.mono (.refl _) λa c=>az (kk a (by simp[c])))) (j.mono (.refl _) λa c=>az (keep a (by simp[c]))),?_,λa c=>?_],S.bh.trans sh,S.zz,S.zh.trans sh,S.new,λa o q i=>?_,S.tab]]
 .refine d.nodup_iff.2 (hX.2 #[λh=>kk p h rfl,f.nodup_iff.2 nd])
 .obtain h|h:=d3.1 (d.mem_iff.1 c)
  .subst h;exact#[g,S.bh.free hp]
  .exact k a (f.mem_iff.1 h)
 .by_cases c:a=p
  .subst c;rw[aJ]at q;cases q;cases i
  .rw[az c]at q;exact S.tp a o q i
section
variable{δ1 δ2:Ap}{e1 e2:Expr}{p q:Bool}{pos:Pos}{d:D}{ds:BB}
def dX:Ek X CL b [] δ [] δ:=λH Z U ts vs Q S k=>xQ cV (k [] H Z rfl (.refl _) (.refl _) S)
theorem bF(h1:bw X CL b e δ t δ1)(g:Ek X CL b es δ1 tl δ2)(d:AC X e es:=by exact aT rfl):Ek X CL b (e::es) δ (t::tl) δ2:=λH Z U ts vs Q S k=>
 xQ (bB bX zN d) (h1 H Z U ts vs _ S λv H1 Z1 c k1 h=>g H1 Z1 U _ _ _ h λus H2 Z2 f a k2 i=>k _ H2 Z2 (by simp[f]) (c.trans a) (k1.trans k2) WF)
def ao:BL X CL b [] δ [] δ:=λH Z U ts vs Q S k=>xQ cV (k [] H Z (.refl _) (.refl _) S .nil)
def ah(h1:bN X CL b e δ d δ1)(i:BL X CL b es δ1 ds δ2)(h:AC X e es:=by exact aT rfl):BL X CL b (e::es) δ (d::ds) δ2:=λH Z U ts vs Q S k=>
 xQ (bB bX zN h) (h1 H Z U ts vs _ S λv H1 Z1 c k1 l g=>i H1 Z1 U _ _ _ l λus H2 Z2 a k2 j f=>k _ H2 Z2 (c.trans a) (k1.trans k2) j (.cons (g.mono k2) f))
def uQ{j:Nat}(h:Ek X CL b es δ tl δ1)(f:tl.length<=sizeLine):bw X CL b (.Tuple es j pos) δ (.tup tl) δ1:=λH Z U ts vs Q S k=>
 bH (Om zN) (h H Z U ts vs _ S λus H1 Z1 d e k1 i=>#[ d▸f,λp hp=>by
  obtain⟨a,c,g⟩:=i.uP d hp;exact k _ _ _ (e.trans a) (k1.trans c) g])
theorem cW{j:Nat}(h:Ek X CL b es δ (ds.map T.sh) δ1)(a:ds.length<=sizeLine):bw X CL b (.Tuple es j pos) δ (.sh (.tup ds)) δ1:=by
 have:=zQ (uQ (pos:=pos) (j:=j) h WF)
 rwa [T.d7,iC]at this
def g6(h:Ek X CL b es δ tl δ1)(e:tl.length<=sizeLine):bw X CL b (.List es pos) δ (.lst tl) δ1:=λH Z U ts vs Q S k=>
 bH (ZZ zN) (h H Z U ts vs _ S λus H1 Z1 a d k1 g=>#[ a▸e,λp hp=>by
  obtain⟨c,f⟩:=g.rG (g0:=[]) a hp;exact k _ _ _ d (k1.trans c) f])
def cA(h:bw X CL b e δ (.sh (.bl p)) δ1)(he:∀whole,isTrue e X.env whole=(do let v ← whole;standAt e.pos;holding [v] (truthy v)):=by intro _;rfl):kQ X CL b e δ p δ1:=λH Z U ts vs Q S k=>
 pR (Zz bX he) (h H Z U ts vs _ S λv H1 Z1 c k1 a=>#[p,by have:=a.view;exact this.sc rfl,k H1 Z1 c k1 a.pop])
def cj(h:kQ X CL b e δ p δ1):kQ X CL b (.UnaryOp .Not e pos) δ (!p) δ1:=λH Z U ts vs Q S k=>pR (ZE Ye) (h H Z U ts vs _ S k)
noncomputable def xc(X:Cx)(e:Expr):TT:=λU H Q=>∀(whole:Sem Value) (pins:At) (s:Shared),Inv X pins U H s->wpAny (model X.prog X.w) X.A (isTrue e X.env whole) (TP X pins U Q) X.xe s
noncomputable def y2:PW X e (xc X e):=λwhole pins s _ _ _ I h=>h _ pins s I
def l7(X:Cx)(CL:BC)(b:Bx)(e:Expr)(δ:Ap)(p:Bool)(δ':Ap):Prop:=
 ∀(H Z:Hp) (U:L2.St) (ts:Bn) (vs:BS) (Q:EQ),bz X.K CL b H Z δ U ts vs->(∀H' Z',aB Z Z'->aB H H'->bz X.K CL b H' Z' δ' U ts vs->Q p H')->xc X e U H Q
noncomputable def Vc{t:TT}(h:PW X e t)(q:t U H Q):xc X e U H Q:=λwhole pins s I=>h _ pins s U H Q I q
noncomputable def dY(h:l7 X CL b e δ p δ1):kQ X CL b e δ p δ1:=λH Z U ts vs Q S k pins s I=>h H Z U ts vs Q S k _ pins s I
def dJ(h:kQ X CL b e δ p δ1):l7 X CL b (.BoolOp .And [e] pos) δ p δ1:=λH Z U ts vs Q S k=>Vc (UD Ye) (h H Z U ts vs _ S k)
def gb(h:kQ X CL b e δ p δ1):l7 X CL b (.BoolOp .Or [e] pos) δ p δ1:=λH Z U ts vs Q S k=>Vc (ZC Ye) (h H Z U ts vs _ S k)
theorem cH(h:kQ X CL b e δ p δ1)(f:p=true->l7 X CL b (.BoolOp .And (e2::es) pos) δ1 q δ1):l7 X CL b (.BoolOp .And (e::e2::es) pos) δ (p&&q) δ1:=λH Z U ts vs Q S k=>
 Vc (ZD Ye y2) (h H Z U ts vs _ S λH1 Z1 a k1 c=>by
  cases p with
  | true=>exact EV (f rfl H1 Z1 U ts vs _ c λH2 Z2 d k2 g=>k H2 Z2 (a.trans d) (k1.trans k2) g)
  | false=>exact ER (k H1 Z1 a k1 c))
theorem fB(h:kQ X CL b e δ p δ1)(f:p=false->l7 X CL b (.BoolOp .Or (e2::es) pos) δ1 q δ1):l7 X CL b (.BoolOp .Or (e::e2::es) pos) δ (p || q) δ1:=λH Z U ts vs Q S k=>
 Vc (OT Ye y2) (h H Z U ts vs _ S λH1 Z1 a k1 c=>by
  cases p with
  | true=>exact EV (k H1 Z1 a k1 c)
  | false=>exact ER (f rfl H1 Z1 U ts vs _ c λH2 Z2 d k2 g=>k H2 Z2 (a.trans d) (k1.trans k2) g))
def gf{op:BoolOp}(h:bw X CL b e δ t δ1):bw X CL b (.BoolOp op [e] pos) δ t δ1:=λH Z U ts vs Q S k=>bH (ZF bX) (h H Z U ts vs _ S k)
def gi(h:bw X CL b e δ (.sh (.bl p)) δ1)(f:p=true->bw X CL b (.BoolOp .And (e2::es) pos) δ1 (.sh (.bl q)) δ1):bw X CL b (.BoolOp .And (e::e2::es) pos) δ (.sh (.bl (p&&q))) δ1:=λH Z U ts vs Q S k=>
 bH (ZG bX bX) (h H Z U ts vs _ S λv H1 Z1 c k1 a=>by
  have hv:=by have:=a.view;exact this.sc rfl
  refine#[p,hv,?_];cases p with
  | true=>exact EV (f rfl H1 Z1 U ts vs _ a.pop λv H2 Z2 d k2 g=>k v H2 Z2 (c.trans d) (k1.trans k2) g)
  | false=>exact ER (k _ H1 Z1 c k1 (a.pop.push (.bl _))))
def HV(h:bw X CL b e δ (.sh (.bl p)) δ1)(f:p=false->bw X CL b (.BoolOp .Or (e2::es) pos) δ1 (.sh (.bl q)) δ1):bw X CL b (.BoolOp .Or (e::e2::es) pos) δ (.sh (.bl (p || q))) δ1:=λH Z U ts vs Q S k=>
 bH (ON bX bX) (h H Z U ts vs _ S λv H1 Z1 c k1 a=>by
  have hv:=by have:=a.view;exact this.sc rfl
  refine#[p,hv,?_];cases p with
  | true=>exact EV (k _ H1 Z1 c k1 (a.pop.push (.bl true)))
  | false=>exact ER (f rfl H1 Z1 U ts vs _ a.pop λv H2 Z2 d k2 g=>k v H2 Z2 (c.trans d) (k1.trans k2) g))
def XX(h:bw X CL b e δ (.sh (.bl p)) δ1):bw X CL b (.UnaryOp .Not e pos) δ (.sh (.bl (!p))) δ1:=λH Z U ts vs Q S k=>
 bH (L2.ZH bX) (h H Z U ts vs _ S λv H1 Z1 c k1 a=>#[p,by have:=a.view;rw[T.d7]at this;exact this.sc rfl,k _ H1 Z1 c k1 (a.pop.push (.bl (!p)))])
theorem zS(h:kQ X CL b e δ p δ1)(h1:p=true->bw X CL b e1 δ1 t δ2)(g:p=false->bw X CL b e2 δ1 t δ2):bw X CL b (.IfExp e e1 e2 pos) δ t δ2:=λH Z U ts vs Q S k=>
 bH (N8 Ye bX bX) (h H Z U ts vs _ S λH1 Z1 d k1 f=>by
  cases p with
  | true=>exact EV (h1 rfl H1 Z1 U ts vs _ f λv H2 Z2 a k2 c=>k v H2 Z2 (d.trans a) (k1.trans k2) c)
  | false=>exact ER (g rfl H1 Z1 U ts vs _ f λv H2 Z2 a k2 c=>k v H2 Z2 (d.trans a) (k1.trans k2) c))
theorem zT{k:Int}(r:aD K CL Z ds vs)(h:mw ds k=some d):∃v,mw vs k=some v/\aY K CL Z d v:=by
 unfold mw at h ⊢;rw[<- r.length];cases e:NK _ k with
 | none=>rw[e]at h;cases h
 | some j=>
  rw[e]at h;exact r.get h
def av{k:Int}(h1:bN X CL b e1 δ (.tup ds) δ1)(n:bN X CL b e2 δ1 (.int k) δ2)(m:mw ds k=some d)(j:nq e2:=by exactλ_ _=>rfl):bN X CL b (.Subscript e1 e2 pos) δ d δ2:=λH Z U ts vs Q S kk=>
 bH (B9 OD bX bX j) (h1 H Z U ts vs _ S λv1 H1 Z1 e k1 p i=>n H1 Z1 U ts vs _ p λv2 H2 Z2 c k2 o h=>by
  have a:=i.mono k2;obtain⟨_,_,rfl,l,g⟩:=a.pQ;obtain⟨v,hv,f⟩:=zT g m;exact#[_,_,k,v,rfl,h.sc rfl,l,hv,kk v H2 Z2 (e.trans c) (k1.trans k2) o f])
def aF{k:Int}(h1:bN X CL b e1 δ (.lst ds) δ1)(n:bN X CL b e2 δ1 (.int k) δ2)(m:mw ds k=some d)(j:nq e2:=by exactλ_ _=>rfl):bN X CL b (.Subscript e1 e2 pos) δ d δ2:=λH Z U ts vs Q S kk=>
 bH (B9 HQ bX bX j) (h1 H Z U ts vs _ S λv1 H1 Z1 e k1 p i=>n H1 Z1 U ts vs _ p λv2 H2 Z2 c k2 o h=>by
  have a:=i.mono k2;obtain⟨_,_,rfl,l,g⟩:=a.lS;obtain⟨v,hv,f⟩:=zT g m;exact#[_,_,k,v,rfl,h.sc rfl,l,hv,kk v H2 Z2 (e.trans c) (k1.trans k2) o f])
def zU{k:Int}{x:Str}{c:Nat}(h1:bN X CL b e1 δ (.str x) δ1)(j:bN X CL b e2 δ1 (.int k) δ2)(h:x.length<=sizeLine)(i:mw x.cps.toList k=some c)(g:nq e2:=by exactλ_ _=>rfl):bw X CL b (.Subscript e1 e2 pos) δ (.sh (.str #[(List.toArray [c])])) δ2:=λH Z U ts vs Q S kk=>
 bH (B9 Z8 bX bX g) (h1 H Z U ts vs _ S λv1 H1 Z1 d k1 m f=>j H1 Z1 U ts vs _ m λv2 H2 Z2 a k2 l e=>
  #[x,k,c,f.sc rfl,e.sc rfl,h,i,kk _ H2 Z2 (d.trans a) (k1.trans k2) (l.push (.str _))])
def EY{k:Int}(h1:bw X CL b e1 δ (.sh (.tup ds)) δ1)(m:bN X CL b e2 δ1 (.int k) δ2)(l:mw ds k=some d)(i:nq e2:=by exactλ_ _=>rfl):bw X CL b (.Subscript e1 e2 pos) δ (.sh d) δ2:=λH Z U ts vs Q S kk=>
 bH (B9 OD bX bX i) (h1 H Z U ts vs _ S λv1 H1 Z1 e k1 n=>m H1 Z1 U _ _ _ n λv2 H2 Z2 c k2 a h=>by
  obtain⟨fp,gp,_,r,_,_⟩:=a.rep;cases r with
  | cons r _=>
   replace r:=r.KG;obtain⟨rfl,r⟩:=r;obtain⟨_,_,rfl,j,g⟩:=r.pQ;obtain⟨v,hv,f⟩:=zT g l;exact#[_,_,k,v,rfl,h.sc rfl,aB.OW a.zh j,hv,kk v H2 Z2 (e.trans c) (k1.trans k2) (a.pop.push f)])
end
theorem bz.pT:∀{ds:BB} {us:BS} {ts:Bn} {vs:BS},aD K CL Z ds us->bz K CL b H Z δ U ts vs->bz K CL b H Z δ U ((ds.map T.sh).reverse++ts) (us.reverse++vs)
 | _,_,_,_,.nil,S=>S
 | _,_,ts,vs,.cons r t,S=>by
  rw[eJ,nz,nz,eB,eB];exact bz.pT t (S.push r)
section
variable{δ1:Ap}{p q:Bool}{pos pp:Pos}{ds:BB}
def zV(hm:X.mg "len" = none)(h:bN X CL b e δ (.lst ds) δ1)(g:Gl X "len":=by rfl)(a:AC X e []:=by exact aT rfl)(hpl:(backTo pos (starEach ([]:CC) X.env)).any (·.1)=false:=by rfl):bw X CL b (.Call (.Name "len" pp) [e] [] pos) δ (.sh (.int ds.length)) δ1:=λH Z U ts vs Q S k=>
 bH (je zH g hm PySem.boot_len (bB bX cV a) (he:=a)) (h H Z U ts vs _ S λv H1 Z1 c k1 i r=>by
  obtain⟨_,_,rfl,f,d⟩:=r.lS;exact#[_,_,rfl,.inl f,d.length▸k _ H1 Z1 c k1 (i.push (.int _)) ])
def uh{x:Str}(hm:X.mg "len" = none)(h:bN X CL b e δ (.str x) δ1)(d:x.length<=sizeLine)(f:Gl X "len":=by rfl)(a:AC X e []:=by exact aT rfl):bw X CL b (.Call (.Name "len" pp) [e] [] pos) δ (.sh (.int x.length)) δ1:=λH Z U ts vs Q S k=>
 bH (je zI f hm PySem.boot_len (bB bX cV a) (he:=a)) (h H Z U ts vs _ S λv H1 Z1 c k1 g r=>#[x,by rw[r.sc rfl],d,k _ H1 Z1 c k1 (g.push (.int _))])
def iF(hm:X.mg "list" = none)(h:bN X CL b e δ (.lst ds) δ1)(hi:D.bP ds=true)(m:Gl X "list":=by rfl)(hv:bootBuiltins "list" = some (.type "list"):=by rfl)(d:AC X e []:=by exact aT rfl):bw X CL b (.Call (.Name "list" pp) [e] [] pos) δ (.lst (ds.map T.sh)) δ1:=λH Z U ts vs Q S k=>
 bH (j8 zJ m hm hv (bB bX cV d) (he:=d)) (h H Z U ts vs _ S λv H1 Z1 g k1 f r=>by
  obtain⟨_,_,rfl,i,a⟩:=r.lS;refine#[_,_,rfl,.inl i,λl j=>?_];obtain⟨c,n⟩:=(bz.pT (aD.j6 f.tp hi a) f).rG (g0:=[]) (by simp[a.length]) j;exact k _ _ _ g (k1.trans c) n)
def uR(X:Cx)(CL:BC)(b:Bx)(e:Expr)(δ:Ap)(P:T->Prop)(δ':Ap):Prop:=
 ∀(H Z:Hp) (U:L2.St) (ts:Bn) (vs:BS) (Q:VK),bz X.K CL b H Z δ U ts vs->(∀t v H' Z',P t->aB Z Z'->aB H H'->bz X.K CL b H' Z' δ' U (t::ts) (v::vs)->Q v H')->xO X e U H Q
theorem bw.tq(h:bw X CL b e δ t δ1):uR X CL b e δ (· = t) δ1:=λH Z U ts vs Q S k=>h H Z U ts vs Q S λv H' Z'=>k t v H' Z' rfl
def yB(K:Frag)(CL:BC){A:Type}(n:Nat)(arg:A->BB)(Pre:A->Prop)(R:A->T->Prop):Sp:=λvs H Q _=>
 ∃(W:Hp) (a:A),aB W H/\(∀c o,H c=some o->gF o=true->W c=some o)/\aD K CL W (arg a) vs/\(arg a).length=n/\Pre a/\gY CL W ∧
  ∀t v H' W' fp,R a t->aB H H'->aB W W'->aB W' H'->(∀c o,W' c=some o->W c=none->H c=none)->(∀c o,H' c=some o->gF o=true->W' c=some o) →
   aZ K CL H' W' t v fp->fp.Nodup->(∀c∈fp,W' c=none/\H c=none)->Q v H'
def HW(K:Frag)(CL:BC){A:Type}(n:Nat)(arg:A->BB)(Pre:A->Prop)(res:A->T):Sp:=λvs H Q _=>
 ∃(W:Hp) (a:A),aB W H/\(∀c o,H c=some o->gF o=true->W c=some o)/\aD K CL W (arg a) vs/\(arg a).length=n/\Pre a/\gY CL W ∧
  ∀v H' W' fp,aB H H'->aB W W'->aB W' H'->(∀c o,W' c=some o->W c=none->H c=none)->(∀c o,H' c=some o->gF o=true->W' c=some o) →
   aZ K CL H' W' (res a) v fp->fp.Nodup->(∀c∈fp,W' c=none/\H c=none)->Q v H'
def PH{A:Type}{n:Nat}{arg:A->BB}{Pre:A->Prop}{res:A->T}(vs:BS)(H:Hp)(Q:VK)(E:XK)(h:HW K CL n arg Pre res vs H Q E):yB K CL n arg Pre (λa t=>t=res a) vs H Q E:=by
 obtain⟨W,a,h1,f,e,d,c,b,k⟩:=h;exact#[W,a,h1,f,e,d,c,b,λt v H' W' fp q=>q▸k v H' W' fp]
variable{A:Type}{k n:Nat}{f:Addr}{fd:FuncData}{ps:AT}{x:Str}{arg:A->BB}{Pre:A->Prop}{res:A->T}
def Vd(a:A)(F:eU X.prog X.w X.K X.mg X.base tG k f fd ps (HW X.K CL n arg Pre res))(m:dI k X.A)(hm:X.mg x=some (.ref f))(p:keepIn X.K (.ref f)=true)(u:Binds X.K fd ps [])
  (h:BL X CL b (e::es) δ (arg a) δ1) (o:(arg a).length=n) (hp:Pre a) (t:(res a).clean=true) (s:Gl X x)
  (l:AD x:=by decide) (he:AC X e es:=by exact aT rfl) (hpl:AL X pos es:=by rfl) :
  bw X CL b (.Call (.Name x pp) (e::es) [] pos) δ (res a) δ1:=λH Z U ts vs Q S kk=>
 bH (zE F m s hm p u .nil HS zN l he hpl) (h H Z U ts vs _ S λus H1 Z1 g k1 c r=>by
  rw[e6];refine#[H1,a,.refl _,λ_ _ q _=>q,r,o,hp,c.KL,λv H' W' fp d ww j nw tp rt nd own=>?_];obtain⟨Z',i,y⟩:=c.back d c.zh ww j nw tp rt nd own (.inr t);exact kk v H' Z' (g.trans i) (k1.trans d) y)
variable{D D':cy}{st:Stmt}{cZ ad3:CO}
theorem Meets.to{E:Ends}(M:Meets K CL b Z ts vs D E)(h1:∀δ,D'.nx δ->D.nx δ)(d:∀t δ,D'.rt t δ->D.rt t δ)(c:∀δ,D'.bk δ->D.bk δ)(a:∀δ,D'.ct δ->D.ct δ):Meets K CL b Z ts vs D' E:=
 #[λ_ _ _ _ s S k=>M.nx _ _ _ _ s S (h1 _ k),λ_ _ _ _ _ _ s S k=>M.rt _ _ _ _ _ _ s S (d _ _ k),λ_ _ _ _ s S k=>M.bk _ _ _ _ s S (c _ k),λ_ _ _ _ s S k=>M.ct _ _ _ _ s S (a _ k)]
def aj(h:D.nx δ):cg X CL b [] δ D:=λH Z U ts vs E S M=>KJ Hx (M.nx δ U H Z (.refl _) S h)
def bG(h:O2 X CL b st δ {D with nx:=λδ1=>cg X CL b cZ δ1 D}):cg X CL b (st::cZ) δ D:=λH Z U ts vs E S M=>
 KJ (pL q1 NQ) (h H Z U ts vs _ S #[λδ' U' H' Z' s a k=>k H' Z' U' ts vs E a (M.mono s),M.rt,M.bk,M.ct])
def XP(h:bw X CL b e δ t δ1)(k:D.rt t δ1):O2 X CL b (.Return (some e) pos) δ D:=λH Z U ts vs E S M=>nQ (Ez bX) (h H Z U ts vs _ S λv H1 Z1 a k1 c=>M.rt t v H1 Z1 δ1 U a c k)
theorem PD(h:kQ X CL b e δ p δ1)(h1:p=true->cg X CL b cZ δ1 D)(d:p=false->cg X CL b ad3 δ1 D):O2 X CL b (.If e cZ ad3 pos) δ D:=λH Z U ts vs E S M=>
 nQ (OH Ye NQ NQ) (h H Z U ts vs _ S λH1 Z1 a k1 c=>by
  cases p with
  | true=>exact EV (h1 rfl H1 Z1 U ts vs E c (M.mono a))
  | false=>exact ER (d rfl H1 Z1 U ts vs E c (M.mono a)))
def um{P:T->Prop}(i:Nat){pos':Pos}(h:uR X CL b e δ P δ1)(k:∀t,P t->D.nx (δ1.set i (some t)))(f:i<δ1.length:=by decide)(g:X.N.Nodup:=by assumption)(hi:X.N[i]? = some x:=by rfl)(c:Loc X.env.scope x:=by first|exact .inl rfl|exact .inr rfl)
  (d:swapsWith e (some (.Name x pos')) pos.line X.env=pure false:=by rfl) (hf:AM X x:=by first|exact .inl rfl|exact .inr rfl|assumption):O2 X CL b (.Assign [.Name x pos'] e pos) δ D:=λH Z U ts vs E S M=>
 nQ (Oa g hi c bX d hf) (h H Z U ts vs _ S λt v H1 Z1 p a k1 j=>M.nx _ _ H1 Z1 a (j.set f) (k t p))
def O6(i:Nat){pos':Pos}(h:bw X CL b e δ t δ1)(k:D.nx (δ1.set i (some t)))(d:i<δ1.length:=by decide)(f:X.N.Nodup:=by assumption)(hi:X.N[i]? = some x:=by rfl)(a:Loc X.env.scope x:=by first|exact .inl rfl|exact .inr rfl)
  (c:swapsWith e (some (.Name x pos')) pos.line X.env=pure false:=by rfl) (hf:AM X x:=by first|exact .inl rfl|exact .inr rfl|assumption):O2 X CL b (.Assign [.Name x pos'] e pos) δ D:=um i (bw.tq h) (λ_ q=>q▸k) d f hi a c hf
end
noncomputable def entry(N:AT)(ds:BB):Ap:=ds.map (λd=>some (T.sh d))++List.replicate (N.length-ds.length) none
theorem jg{K:Frag}{CL:BC}{H Z:Hp}:∀{ds:BB} {vs:BS} (n:Nat),aD K CL Z ds vs->dU K CL H Z (ds.map (λd=>some (T.sh d))++List.replicate n none) (vs.map some++List.replicate n none) []
 | _,_,0,.nil=>.nil
 | _,_,n+1,.nil=>.skip (jg n .nil)
 | _,_,n,.cons r t=>.cons (.sh r) (jg n t)
variable{P:Program}{w:World}{mg:BM}{base:Heap}{x qual:Str}{st:Stmt}{f:Addr}{fd:FuncData}{N ps:AT}{k:Nat}
def HX{sp:Sp}(F:NP K x qual st f fd)(S:dm N ps (aC st))(len:∀vs H Q E,sp vs H Q E->vs.length=ps.length)
  (b:∀(dP:Value) (A:Around) (outer:Cn) (s:Shared) (H:Hp) (vs:BS) (Q:VK) (E:XK),fd.code=dP->dI k (A.deeper (envOfC qual (aC st) s.heap.objs.size f dP))->sp vs H Q E →
   ∃t,Hv (kT tG P w K mg base N qual (aC st) f dP A outer s H E).Ul (bJ st) t/\t {nx:=λ_ H'=>Q .non H',rt:=Q} (L2.start N vs) H):eU P w K mg base tG (k+1) f fd ps sp:=by
 obtain⟨dV,oc,od,kV,doc,pm,an,dP,ct,B6,rfl,lk,gX⟩:=F.ex;refine Ov lk gX S len λA outer s H vs Q E a c=>?_;obtain⟨t,h,q⟩:=b dP A _ s H vs Q E rfl a c;exact#[t,h.Ul,q]
variable{A:Type}
theorem O7{arg:A->BB}{Pre:A->Prop}{R:A->T->Prop}(F:NP K x qual st f fd)(S:dm N ps (aC st))
  (p:∀(dP:Value) (g:Around) (outer:Cn) (s:Shared) (H:Hp) (E:XK) (b:Bx) (a:A),fd.code=dP->dI k (g.deeper (envOfC qual (aC st) s.heap.objs.size f dP))->Pre a →
   cg (kT tG P w K mg base N qual (aC st) f dP g outer s H E).Ul CL b (bJ st) (entry N (arg a)) {nx:=λ_=>R a (.sh .non),rt:=λt _=>R a t}) :
  eU P w K mg base tG (k+1) f fd ps (yB K CL ps.length arg Pre R):=by
 refine HX F S (λvs H Q E h=>?_) (λdP g outer s H vs Q E gX n h=>?_)
 .obtain⟨W,a,_,_,r,i,_⟩:=h;rw[<- r.length];exact i
 .obtain⟨W,a,j,tp,r,i,hp,tb,kk⟩:=h;refine#[_,NQ,p dP g _ s H E #[H,W] a gX n hp H W _ [] [] _ #[#[[],[],?_,.nil,jP,λa d=>by cases d],.refl _,.refl _,j,λa o q z=>?_,tp,tb] #[λδ' U' H' Z' s' c e=>?_,λt v H' Z' δ' U' s' c e=>?_,λ_ _ _ _ _ _ e=>e.elim,λ_ _ _ _ _ _ e=>e.elim]]
  .unfold entry L2.start;rw[<- r.length];exact jg _ r
  .grind
  .exact kk _ .non H' Z' [] e c.bh c.zz c.zh c.new c.tp (.sh .non) jP λa d=>by cases d
  .obtain⟨fp,gp,_,m,nd,own⟩:=c.rep;cases m with
   | @cons _ _ _ _ f1 f2 l u=>
    have h1:=(hO.1 nd).2.1;exact kk t v H' Z' f1 e c.bh c.zz c.zh c.new c.tp l (hO.1 h1).1 λa d=>own a (eL _ (ft _ d))
def uS{arg:A->BB}{Pre:A->Prop}{res:A->T}(F:NP K x qual st f fd)(S:dm N ps (aC st))
  (g:∀(dP:Value) (c:Around) (outer:Cn) (s:Shared) (H:Hp) (E:XK) (b:Bx) (a:A),fd.code=dP->dI k (c.deeper (envOfC qual (aC st) s.heap.objs.size f dP))->Pre a →
   cg (kT tG P w K mg base N qual (aC st) f dP c outer s H E).Ul CL b (bJ st) (entry N (arg a)) {nx:=λ_=>res a=.sh .non,rt:=λt _=>t=res a}) :
  eU P w K mg base tG (k+1) f fd ps (HW K CL ps.length arg Pre res):=(O7 F S λdP c outer s H E b a e d hp=>λH1 Z U ts vs i S M=>g dP c outer s H E b a e d hp H1 Z U ts vs i S (M.to (λ_ q=>q.symm) (λ_ _ q=>q) (λ_ q=>q) (λ_ q=>q))).imp λvs H Q E h=>PH vs H Q E h
variable{prog:Program}{A:Around}{R:Result->Shared->Prop}{s:Shared}{elt iter:Expr}{ifs:CC}{scope:Scope}{pos:Pos}
theorem zW{target:Expr}{it acc:Value}{E:BA}(I:Nat->Shared->Prop)(ex:∀ev s,E ev s->notedBy (model prog w) A env (λx s'=>R (.error x) s') ev s)
  (turn:∀n s,I n s->wpAny (model prog w) A (pyNext it) (λr b=>match r with
   | none=>R (.ok .next) b
   | some v=>wpAny (model prog w) A (letOwnedTupleGo target it v) (λ_ p=>wpAny (model prog w) A (assign target env v) (λ_ f=>
     wpAny (model prog w) A (forIn ifs true λc r=>if r=true then do let ok ← isTrue c env (eval c env);pure (ForInStep.yield ok) else pure (ForInStep.yield r)) (λok a=>
      if ok=true then wpAny (model prog w) A (eval elt env) (λx e=>
       wpAny (model prog w) A (call (.builtin "list.append") [acc,x]) (λ_ d=>∃m,m<n/\I m d) E e) E a
      else ∃m,m<n/\I m a) E f) E p) E b) E s)
  (n:Nat) (h:I n s) :
  codeAny (model prog w) A (.compLoop (.ListComp elt [#[target,iter,ifs,0]] scope pos) 0 it acc env) R s:=by
 refine codeAny_loop rfl I (λn s q=>?_) n h;refine wpAny_noted ?_;rw[compTurn_list];refine d5 (o4 (d5 (gr (turn n s q) (λr b i=>?_) ex)));cases r with
 | none=>exact eR i
 | some v=>
  refine d5 (gr i (λ_ p j=>?_) ex);refine d5 (gr j (λ_ f o=>d5 (gr o (λok a g=>?_) ex)) ex);cases ok with
  | false=>exact eR #[rfl,g]
  | true=>
   exact d5 (d5 (gr g (λx e l=>d5 (gr l (λ_ d k=>eR (eR #[rfl,k])) ex)) ex))
abbrev _root_.Co:=List (Str×NameKind)
abbrev _root_.DA:=List (Str×Addr)
noncomputable def fC(env:Env):Co->DA->DA
 | [],cs=>cs
 | (n,k)::r,cs=>fC env r (if k == .free then(n,(env.cells.lookup n).getD 0)::cs else cs)
theorem xR(h:∀x∈scope.names,x.2=.free->∃c,env.cells.lookup x.1=some c):closureFor scope env=pure (fC env scope.names []):=by
 have go:∀(l:List _) (cs:List _),(∀x∈l,x.2=.free->∃c,env.cells.lookup x.1=some c) →
   (forIn l cs λx r=>match x with|(name,kind)=>if (kind==NameKind.free)=true then do let a ← cellOf env name;pure (ForInStep.yield ((name,a)::r)) else pure (ForInStep.yield r):Sem _)=pure (fC env l cs):=by
  intro l
  induction l with
  | nil=>intro cs _;rfl
  | cons x r f=>
   intro cs d;obtain⟨n,k⟩:=x;rw[List.forIn_cons];by_cases j:k=.free
   .subst j;obtain⟨c,g⟩:=d _ d6 rfl;have e:cellOf env n=pure c:=by unfold cellOf;rw[g]
    simp only[beq_self_eq_true,if_true,e,pure_bind];rw[f _ λy b=>d y (ee _ b)];simp[fC,if_true];rw[g];rfl
   .have i:(k==NameKind.free)=false:=by grind
    simp only[i,Bool.false_eq_true,if_false,pure_bind];rw[f _ λy b=>d y (ee _ b)];simp[fC,i,Bool.false_eq_true,if_false]
 unfold closureFor;have:=go _ [] h;simp only[bind_pure]at this ⊢;exact this
theorem oO{env:Env}:∀{l:Co} {cs:DA} {y:Str} {c:Addr},(∀x∈l,x.2=.free->∃c,env.cells.lookup x.1=some c)->(∀y c,cs.lookup y=some c->env.cells.lookup y=some c) →
  (fC env l cs).lookup y=some c->env.cells.lookup y=some c
 | [],cs,y,c,_,h,e=>h y c e
 | (n,k)::r,cs,y,c,b,h,e=>by
  refine oO (λz a=>b z (ee _ a)) (λz d a=>?_) e;by_cases f:k=.free
  .subst f;obtain⟨i,g⟩:=b _ d6 rfl;grind
  simp_all
theorem sP{env:Env}{y:Str}:∀{l:Co} {cs:DA},(∃c,cs.lookup y=some c)->∃c,(fC env l cs).lookup y=some c
 | [],cs,h=>h
 | (n,k)::r,cs,h=>by
  refine sP (l:=r) ?_;by_cases a:(k==NameKind.free)=true
  .rw[di a,hu];by_cases b:(y==n)=true
   .rw[b];simp_all
   .have:(y==n)=false:=by simp_all
    rw[this];exact h
  .rw[cq a];exact h
theorem oQ{env:Env}{y:Str}:∀{l:Co} {cs:DA},l.lookup y=some .free->∃c,(fC env l cs).lookup y=some c
 | [],_,h=>by simp at h
 | (n,k)::r,cs,h=>by
  rw[hu]at h;by_cases a:(y==n)=true
  .refine sP (l:=r) ?_;simp_all
  .have:(y==n)=false:=by simp_all
   rw[this]at h;exact oQ (l:=r) h
def aR(X:Cx)(scope:Scope)(Nc:AT)(C:Addr)(s:Shared)(H:Hp)(fp:BY):Cx where
 prog:=X.prog
 w:=X.w
 K:=X.K
 mg:=X.mg
 base:=X.base
 A:=X.A
 N:=Nc
 eh:=s
 h5:=H
 env:=compEnvC scope (fC X.env scope.names []) C X.env
 outer:=X.stack
 stack:=X.stack
 ex:=fp
 fn:=λ_=>false
 calm:=X.calm
 pn:=[]
 xe:=λ_ _=>False
abbrev _root_.Cc:=List Nat
structure gu(X:Cx)(scope:Scope)(x:Str)(Nc:AT)(ix:Cc):Prop where
 kind:scope.kind=.function
 zX:∀y∈scope.names,y.2 ≠ .cell
 nd:Nc.Nodup
 names:∀y∈scope.names,y.2=.local->scope.names.lookup y.1=some .local
 own:scope.names.lookup x=some .local
 frees:∀y∈scope.names,y.2=.free->scope.names.lookup y.1=some .free/\(X.env.kindOf y.1=some .cell\/X.env.kindOf y.1=some .free)
 hd:Nc=x::ix.filterMap (X.N[·]?)
 oC:∀i∈ix,∃y,X.N[i]? = some y/\scope.names.lookup y=some .free
theorem fE{env:Env}:∀{names:Co} {x:Str} {k:NameKind},names.lookup x=some k ->
  (names.map λ(n,k)=>if (k==NameKind.free&&env.scope.kind == .function&&env.kindOf n==some .cell) then(n,NameKind.cell) else(n,k)).lookup x=some (if (k==NameKind.free&&env.scope.kind == .function&&env.kindOf x==some .cell) then .cell else k)
 | [],_,_,h=>by simp at h
 | (n,b)::r,x,k,h=>by
  have c:=@fE env r x k;show List.lookup x ((if (b==NameKind.free&&env.scope.kind == .function&&env.kindOf n==some _)=true then(n,NameKind.cell) else(n,b))::_)=_;cases a:x==n with
  | true=>
   simp[hu,a]at h;cases h;have e:x=n:=by grind
   subst e;split<;>simp
  | false=>
   simp[hu,a]at h;split
   .simp only[hu,a];exact c h
   .simp only[hu,a];exact c h
theorem iV{env:Env}:∀{names:Co} {x:Str},names.lookup x=none ->
  (names.map λ(n,k)=>if (k==NameKind.free&&env.scope.kind == .function&&env.kindOf n==some .cell) then(n,NameKind.cell) else(n,k)).lookup x=none
 | [],_,_=>rfl
 | (n,b)::r,x,h=>by
  have c:=@iV env r x;show List.lookup x ((if (b==NameKind.free&&env.scope.kind == .function&&env.kindOf n==some _)=true then(n,NameKind.cell) else(n,b))::_)=_;cases a:x==n with
  | true=>simp only[hu,a]at h;cases h
  | false=>
   simp only[hu,a]at h;split
   .simp only[hu,a];exact c h
   .simp only[hu,a];exact c h
variable{Nc:AT}{pins:At}
theorem yE{l:At}{U':L2.St}{s':Shared}{h'':Heap}(I:Inv X pins U H s)(h:∀b∈fp,mq X pins H b)
  (J:Inv (aR X scope Nc s.heap.objs.size s H fp) l U' H' s') (i:Heap.SameBut s.heap.objs.size s'.heap h''):Inv X pins U H' {s' with heap:=h''}:=by
 have un:Un (lK X.stack) fp H H' s.heap _:=J.base;have j:Un (lK X.stack) fp H H' s.heap h'':=by
  have ne:∀b o,s.heap.get? b=some o->b≠s.heap.objs.size:=λb o e=>gh (e4 e);refine#[λb o e n a f=>(i.2 b (ne b o e)).trans (un.keep b o e n a f),λb o e n a f=>?_,un.free,λb o e f=>?_,un.mh,un.dO,un.mj]
  .obtain⟨sl,q⟩:=un.slot b o e n a f;exact#[sl,(i.2 b (ne b o e)).trans q]
  .obtain⟨o',q⟩:=un.there b o e f;exact#[o',(i.2 b (ne b o e)).trans q]
 have m:H' s.heap.objs.size=none:=J.free;have bO:=λb u e=>by
  refine(J.bO b u e).oK (λc v r q=>(i.2 c ?_).trans q) (λ_ q=>q) λ_ _ q=>q;rintro rfl;grind
 obtain⟨p,g,d,t,k⟩:=s';obtain rfl:k=s.os:=J.os;exact I.call j bO J.bare λb a=>#[(h b a).2.2.2.1,(h b a).2.1,(h b a).2.2.2.2.1,(h b a).2.2.2.2.2]
def xa(X:Cx):CC->TT
 | []=>λ_ H Q=>Q true H
 | [c]=>U6 X c
 | _=>λ_ _ _=>False
def O8(I:Inv X pins U H s)(h:xa X ifs U H Q) :
  wpAny (model X.prog X.w) X.A (forIn ifs true λc r=>if r=true then do let ok ← isTrue c X.env (eval c X.env);pure (ForInStep.yield ok) else pure (ForInStep.yield r)) (TP X pins U Q) X.xe s:=by
 match ifs,h with
 | [],h=>exact wpAny_tests_nil #[H,I,h]
 | [c],h=>
  exact wpAny_tests_one (h pins s I)
def n4(X:Cx)(CL:BC)(b:Bx)(ifs:CC)(δ:Ap)(p:Bool):Prop:=
 match ifs with
 | []=>p=true
 | [c]=>kQ X CL b c δ p δ
 | _=>False
theorem n4.Hm{p:Bool}(h:n4 X CL b ifs δ p)(S:bz X.K CL b H Z δ U [] [])
  (k:∀H' Z',aB Z Z'->aB H H'->bz X.K CL b H' Z' δ U [] []->Q p H'):xa X ifs U H Q:=by
 match ifs,h with
 | [],h=>
  have e:=h;subst e;exact k H Z (.refl _) (.refl _) S
 | [c],h=>exact(h) H Z U [] [] Q S k
def kh:(T.lst ts).clean=T.c7 ts:=rfl
theorem uT{g:D->T}:∀{ds:BB},(∀d∈ds,(g d).clean=true)->T.c7 (ds.map g)=true
 | [],_=>rfl
 | d::ds,h=>by
  rw[eJ,T.c7,h d d6,uT λe he=>h e (ee _ he)];rfl
theorem aP.at:∀{tl:Bn} {us:BS} {fp:BY} {j:Nat} {t:T},aP K CL H Z tl us fp->tl[j]? = some t->∃v f1 f2 b,us[j]? = some v/\fp=f1++(f2++b)/\aZ K CL H Z t v f2 ∧
  ∀{H':Hp} {t':T} {v':V} {g:BY},(∀a∈f1++b,H' a=H a)->aZ K CL H' Z t' v' g->aP K CL H' Z (tl.set j t') (us.set j v') (f1++(g++b))
 | _,_,_,_,_,.nil,e=>by simp at e
 | _,_,_,0,_,.cons (fp:=fp) (gp:=gp) r q,e=>by
  simp at e;subst e;exact#[_,[],fp,gp,rfl,rfl,r,λ{H' t' v' g} k c=>aP.cons (fp:=g) c (aP.mono (.refl _) (λa d=>k a (‹_›)) q)]
 | _,_,_,j+1,t,.cons (fp:=fp) r q,e=>by
  obtain⟨v,f1,f2,b,h1,i,h,f⟩:=aP.at q (‹_›);refine#[v,fp++f1,f2,b,‹_›,WF,h,λk c=>?_];rw[eB];exact .cons (r.mono (.refl _) λa d=>k a (by simp[d])) (f (λa d=>k a WF) c)
variable{α:Type}
theorem ki{l:List α}{x:α}(h:l[i]? = some x):l.set i x=l:=by
 apply l3;intro j;rw[List.getElem?_set];split
 .rename_i e;subst e;split
  .exact h.symm
  grind
 .rfl
variable{δ2:Ap}
theorem bz.write{f1 f2 d g gp f:BY}(S:bz K CL b H Z δ U ts vs)(nd:((f1++(f2++d))++gp).Nodup)(own:∀c∈(f1++(f2++d))++gp,Z c=none/\b.B c=none)(k:a∈f2)
  (m:∃o,H a=some o) (l:dU K CL (upd H a (.lst xs)) Z δ2 U (f1++(g++d))) (j:aP K CL (upd H a (.lst xs)) Z tl us f) (pm:((f1++(g++d))++f).Nodup) (sub:∀c∈(f1++(g++d))++f,c∈(f1++(f2++d))++gp) :
  bz K CL b (upd H a (.lst xs)) Z δ2 U tl us:=by
 have h:=own a (by simp[k]);refine#[#[_,_,l,j,pm,λc e=>own c (sub c e)],λc o q=>?_,S.zz,λc o q=>?_,S.new,λc o q i=>?_,S.tab]
 .rw[az (aS q h.2)];exact S.bh c o q
 .rw[az (aS q h.1)];exact S.zh c o q
 .by_cases e:c=a
  .subst e;rw[aJ]at q;cases q;cases i
  .rw[az e]at q;exact S.tp c o q i
theorem bz.append(S:bz K CL b H Z δ U (t::ts) (v::vs))(hi:δ[i]? = some (some (.lst tl))) :
  ∃a us,U[i]? = some (some (.ref a))/\H a=some (.lst us)/\us.length=tl.length/\bz K CL b (upd H a (.lst (us++[v]))) Z (δ.set i (some (.lst (tl++[t])))) U ts vs:=by
 obtain⟨fp,gp,e,r,nd,k⟩:=S.rep;obtain⟨v0,f1,f2,l,hv,q,rt,put,_⟩:=e.get hi;subst q;obtain⟨a,us,g,rfl,rfl,m,rs⟩:=rt.lS;cases r with
 | @cons _ _ _ _ j f p o=>
  have ne:∀c∈(f1++(g++l))++(j++f),c≠a:=λc d e=>by
   subst e;have hp:((f1++((c::g)++l))++(j++f)).Perm (c::((f1++(g++l))++(j++f))):=by simp
   exact(hX.1 (hp.nodup_iff.1 nd)).1 d
  refine#[a,us,hv,m,rs.length.symm,?_];have n:aZ K CL _ Z _ (.ref a) _:=
   .lst aJ (aP.app (rs.mono (.refl _) λc d=>az (ne c (by simp[d]))) (.cons (p.mono (.refl _) λc d=>az (ne c (by simp[d]))) .nil))
  have e2:=put (.refl _) (λc d=>az (ne c (by
   obtain h|h:=eg.1 d
   .simp[h]
   .simp[h]))) n
  rw[ki hv]at e2;have hp:((f1++((a::(g++(j++[])))++l))++f).Perm ((f1++((a::g)++l))++(j++f)):=by
   simp only[e6,g4,eB];refine lb f1 (List.Perm.cons a (lb g ?_));rw[<- eB,<- eB];exact i8.append_right f
  exact S.write nd k (d6) #[_,m] e2 (o.mono (.refl _) λc d=>az (ne c (by simp[d]))) (hp.nodup_iff.2 nd) λc d=>hp.mem_iff.1 d
section
variable{δ1:Ap}{tl0:Bn}{D:cy}{pp pa pb:Pos}
def XN(i:Nat)(h0:δ[i]? = some (some (.lst tl0)))(h:bw X CL b e δ t δ1)(h1:δ1[i]? = some (some (.lst tl)))(p:tl.length<sizeLine)(k:D.nx (δ1.set i (some (.lst (tl++[t])))))
  (hi:X.N[i]? = some x:=by rfl) (hv:N5 X.env.scope x:=by first|exact Or.inl rfl|exact Or.inr (Or.inl rfl)|exact Or.inr (Or.inr rfl)) (hd:AD x:=by decide) (gX:AE x:=by decide)
  (r:attributeBase (.Name x pp) "append" X.env (eval (.Name x pp) X.env)=eval (.Name x pp) X.env:=by rfl)
  (m:AB X pb e:=by rfl)
  (c:(pa.endLine==pb.line)=true:=by rfl) (d:AC X e []:=by exact aT rfl) (j:swapsWith (.Call (.Attribute (.Name x pp) "append" pa) [e] [] pb) none pos.line X.env=pure false:=by rfl) :
  O2 X CL b (.Expr (.Call (.Attribute (.Name x pp) "append" pa) [e] [] pb) pos) δ D:=λH Z U ts vs E S M=>
 nQ (pM (sO PySem.F.plainAttrs_list PySem.F.slot_list_append PySem.F.type_list_append rE (jS hi hv hd gX) (bB bX cV d) r m c d rfl) j) (by
  obtain⟨v0,e0,l⟩:=S.look h0;refine#[v0,e0,?_,?_]
  .obtain⟨_,_,rfl,o,_⟩:=l.lS;exact .inl #[rfl,_,o]
  .refine h H Z U ts vs _ S λv H1 Z1 g k1 u=>?_;obtain⟨a,us,f,q,n,s⟩:=u.append h1;rw[e0]at f;cases f;exact#[a,us,v,rfl,rfl,q,n▸p,M.nx _ U _ Z1 g s k])
end
def FA:Option (Option T)->Option T
 | some (some t)=>some (.sh t.d7)
 | _=>none
noncomputable def yY:Option (Option T)->Option T
 | some (some (T.sh d))=>some (.sh d)
 | _=>none
def pU(δ:Ap)(ix:Cc):Ap:=ix.map λi=>FA δ[i]?
def pV(δ:Ap)(ix:Cc):Ap:=ix.map λi=>yY δ[i]?
theorem Ci(S:bz K CL b H Z δ U ts vs):∀(ix:Cc) (H':Hp),dU K CL H' H (pU δ ix) (ix.map λi=>(U[i]?).getD none) []
 | [],_=>.nil
 | i::r,H'=>by
  have a:=Ci S r H';show dU K CL H' H (FA _::pU δ r) (((U[i]?).getD none)::r.map _) [];cases e:δ[i]? with
  | none=>exact .skip a
  | some o=>
   cases o with
   | none=>exact .skip a
   | some t=>
    obtain⟨v,hv,c⟩:=S.look e;rw[hv];exact .cons (.sh c) a
theorem Cj(S:bz K CL b H Z δ U ts vs):∀(ix:Cc) (H':Hp),dU K CL H' Z (pV δ ix) (ix.map λi=>(U[i]?).getD none) []
 | [],_=>.nil
 | i::r,H'=>by
  have a:=Cj S r H';show dU K CL H' Z (yY _::pV δ r) (((U[i]?).getD none)::r.map _) [];cases e:δ[i]? with
  | none=>exact .skip a
  | some o=>
   cases o with
   | none=>exact .skip a
   | some t=>
    cases t with
    | sh d=>
     obtain⟨v,hv,c⟩:=S.OZ e;rw[hv];exact .cons (.sh c) a
    | tup _=>exact .skip a
    | lst _=>exact .skip a
    | ins _ _=>exact .skip a
    | iO _=>exact .skip a
    | dct _=>exact .skip a
    | pin _ _=>exact .skip a
    | BK _ _ _=>exact .skip a
section
variable{δ1:Ap}{ds:BB}
structure Comes(X:Cx)(CL:BC)(b:Bx)(δ1:Ap)(U:L2.St)(ts:Bn)(vs:BS)(Z H:Hp)(ds:BB)(J:It)(H1:Hp):Prop where
 ex:∃Z1 us,aB Z Z1/\aB H H1/\bz X.K CL b H1 Z1 δ1 U ts vs/\aD X.K CL Z1 ds us/\(∀i H2,aB Z1 H2->i<ds.length->J.go i H2) ∧
  (∀i H2 x H',aB Z1 H2->i<ds.length->J.X8 i H2 x H'->H'=H2/\us[i]? = some x)/\(∀H2,aB Z1 H2->J.stop ds.length H2)
def NR(X:Cx)(CL:BC)(b:Bx)(tg e:Expr)(δ:Ap)(ds:BB)(δ1:Ap):Prop:=
 ∃a,PI X tg e a/\∀(H Z:Hp) (U:L2.St) (ts:Bn) (vs:BS) (R:It->Hp->Prop),bz X.K CL b H Z δ U ts vs->(∀J H1,Comes X CL b δ1 U ts vs Z H ds J H1->R J H1)->a U H R
theorem cQ{tg:Expr}(h:bw X CL b iter δ (.sh (.lst ds)) δ1):NR X CL b tg iter δ ds δ1:=by
 refine#[_,UG bX,λH Z U ts vs R S k=>h H Z U ts vs _ S λv H1 Z1 g k1 e=>?_];obtain⟨fp,gp,_,r,_,_⟩:=e.rep;cases r with
 | cons r _=>
  replace r:=r.KG;obtain⟨rfl,r⟩:=r;obtain⟨a,us,rfl,c,d⟩:=r.lS;refine#[a,rfl,#[us,e.zh.seq c],k _ _ #[Z1,us,g,k1,e.pop,d,λi H2 s hi=>?_,λi H2 y H' s hi f=>#[f.1,f.2 us (s.seq c)],λH2 s=>#[us,s.seq c,by rw[d.length];grind]]];have j:=d.length▸hi;exact#[us,us[i],s.seq c,WE]
theorem O9{tg:Expr}(h:bw X CL b iter δ (.sh (.tup ds)) δ1):NR X CL b tg iter δ ds δ1:=by
 refine#[_,ZN bX,λH Z U ts vs R S k=>h H Z U ts vs _ S λv H1 Z1 g k1 e=>?_];obtain⟨fp,gp,_,r,_,_⟩:=e.rep;cases r with
 | cons r _=>
  replace r:=r.KG;obtain⟨rfl,r⟩:=r;obtain⟨a,us,rfl,c,d⟩:=r.pQ;refine#[a,rfl,#[us,aB.OW e.zh c],k _ _ #[Z1,us,g,k1,e.pop,d,λi H2 s hi=>?_,λi H2 y H' s hi f=>#[f.1,f.2 us (aB.OW s c)],λH2 s=>#[us,aB.OW s c,by rw[d.length];grind]]];have j:=d.length▸hi;exact#[us,us[i],aB.OW s c,WE]
noncomputable def d8(lo:Int)(n:Nat):BB:=(List.range n).map λ(i:Nat)=>D.int (lo+i)
def Ck(lo:Int)(n:Nat):aD K CL Z (d8 lo n) ((List.range n).map λ(i:Nat)=>V.int (lo+i)):=by
 unfold d8;generalize List.range n=l
 induction l with
 | nil=>exact .nil
 | cons i r a=>exact .cons (.int _) a
theorem uU{tg:Expr}{pr pc:Pos}{n:Int}(hm:X.mg "range" = none)(h:bN X CL b iter δ (.int n) δ1)(d:-(2 ^ 62)<=n/\n<2 ^ 62)(g:Gl X "range")(f:starEach [iter] X.env=[(false,eval iter X.env)]:=by rfl)(l:AC X iter []:=by exact aT rfl) :
  NR X CL b tg (.Call (.Name "range" pr) [iter] [] pc) δ (d8 0 n.toNat) δ1:=by
 refine#[_,Km g hm (bB bX cV l) f,λH Z U ts vs R S k=>h H Z U ts vs _ S λv H1 Z1 e k1 j r=>#[n,by rw[r.sc rfl],d.1,d.2,k _ _ #[Z1,_,e,k1,j,Ck 0 _,λi H2 s hi=>?_,λi H2 y H' s hi c=>?_,λH2 s=>?_]]]
 .show i<n.toNat;have:(d8 0 n.toNat).length=n.toNat:=by simp[d8]
  lia
 .have a:i<n.toNat:=by simpa [d8] using hi
  refine#[c.1,?_];rw[fT,hU a,c.2];rfl
 .show n.toNat<=(d8 0 _).length;simp[d8]
theorem KN{tg:Expr}{pr pc:Pos}{e1 e2:Expr}{m n:Int}(hm:X.mg "range" = none)(h1:bN X CL b e1 δ (.int m) δ1)(p:bN X CL b e2 δ1 (.int n) δ2)(l:-(2 ^ 62)<=m/\m<2 ^ 62 /\ -(2 ^ 62)<=n/\n<2 ^ 62)(o:Gl X "range")
  (j:AR X e1 e2:=by rfl) (u:starEach [e2] X.env=[(false,eval e2 X.env)]:=by rfl) (d:starEach [e1,e2] X.env=(false,eval e1 X.env)::starEach [e2] X.env:=by rfl) (c:AC X e2 []:=by rfl) :
  NR X CL b tg (.Call (.Name "range" pr) [e1,e2] [] pc) δ (d8 m (n-m).toNat) δ2:=by
 refine#[_,Kn o hm (bB bX (bB bX cV c) d) j u,λH Z U ts vs R S k=>h1 H Z U ts vs _ S λv H1 Z1 g k1 t r=>p H1 Z1 U ts vs _ t λv2 H2 Z2 f k2 q h=>#[m,n,by rw[r.sc rfl,h.sc rfl],l,k _ _ #[Z2,_,g.trans f,k1.trans k2,q,Ck m _,λi H2 s hi=>?_,λi H2 y H' s hi e=>?_,λH2 s=>?_]]]
 .show i<(n-m).toNat;have:(d8 m (n-m).toNat).length=(n-m).toNat:=by simp[d8]
  lia
 .have a:i<(n-m).toNat:=by simpa [d8] using hi
  refine#[e.1,?_];rw[fT,hU a,e.2];rfl
 .show(n-m).toNat<=(d8 m _).length;simp[d8]
def Block(X:Cx)(CL:BC)(scope:Scope)(Nc:AT)(ifs:CC)(elt:Expr)(δc:Ap)(ds:BB)(p:D->Bool)(g:D->T):Prop:=
 ∀C s0 b f0 a d,d∈ds->n4 (aR X scope Nc C s0 b f0) CL a ifs (some (.sh d)::δc) (p d)/\(p d=true->bw (aR X scope Nc C s0 b f0) CL a elt (some (.sh d)::δc) (g d) (some (.sh d)::δc))
variable{δc:Ap}{p:D->Bool}{g:D->T}
end
variable{δ1:Ap}
def xS:L3.D->String->Option Bool
 | .non,n=>if n="int" \/ n="str" \/ n="list" \/ n="tuple" \/ n="bool" \/ n="dict" then some false else none
 | .bl _,n=>if n="int" \/ n="bool" then some true else if n="str" \/ n="list" \/ n="tuple" \/ n="dict" then some false else none
 | .int _,n=>if n="int" then some true else if n="str" \/ n="list" \/ n="tuple" \/ n="bool" \/ n="dict" then some false else none
 | .str _, n => if n = "str" then some true else if n = "int" \/ n = "list" \/ n = "tuple" \/ n = "bool" \/ n = "dict" then some false else none
 | .lst _,n=>if n="list" then some true else if n="int" \/ n="str" \/ n="tuple" \/ n="bool" \/ n="dict" then some false else none
 | .tup _,n=>if n="tuple" then some true else if n="int" \/ n="str" \/ n="list" \/ n="bool" \/ n="dict" then some false else none
 | _,_=>none
noncomputable def w9(t n:String):Option Bool:=if (Value.type t==Value.type n)=true then some true else if PySem.W.kitMeta n=true then(fastBuiltinMro t).map (·.contains (.type n)) else none
def ko{t n:String}:kitOne K (.type t) (.type n)=w9 t n:=rfl
def Pb:(["NoneType","bool","int","str","list","tuple"].all λt=>["int","str","list","tuple","bool","dict"].all λn=>w9 t n==some (t==n || (t=="bool" && n=="int")))=true:=by decide +kernel
def nA{t n:String}(a:t∈["NoneType","bool","int","str","list","tuple"])(b:n∈["int","str","list","tuple","bool","dict"]):w9 t n=some (t==n || (t=="bool" && n=="int")):=by
 have:=Pb;rw[fR]at this;have h:=this t a;rw[fR]at h;simpa using h n b
noncomputable def qw:L3.D->Option String
 | .non=>some "NoneType"
 | .bl _=>some "bool"
 | .int _=>some "int"
 | .str _ => some "str"
 | .lst _=>some "list"
 | .tup _=>some "tuple"
 | _=>none
theorem KP:jG X (.builtin "isinstance") (λxs H Q=>∃y n d t,xs=[y,.ty n]/\aY X.K CL H d y/\qw d=some t/\n∈["int","str","list","tuple","bool","dict"]/\Q (.bl (t==n || (t=="bool" && n=="int"))) H):=by
 intro pins s U H xs us Q I r h;obtain⟨y,n,d,t,rfl,m,b,g,q⟩:=h;obtain⟨u,u2,rfl,f,i⟩:=r.two;cases (show u2=Value.type n from i);have fin:∀tk,EP X pins U Q _ {s with toks:=tk}:=λtk=>#[.bl _,H,I.tok tk,rfl,q];cases m with
 | non=>cases b;cases (show u=Value.none from f);exact lx PySem.W.kitx_none I.j7 True.intro (ko.trans (nA WA g)) (λz=>nomatch z) fin
 | bl c=>cases b;cases (show u=Value.bool c from f);exact lx PySem.W.kitx_bool I.j7 True.intro (ko.trans (nA WA g)) (λz=>nomatch z) fin
 | int c=>cases b;obtain⟨tt,e⟩:=(show ∃t,u=Value.int c t from f);cases e;exact lx PySem.W.kitx_int I.j7 True.intro (ko.trans (nA WA g)) (λz=>nomatch z) fin
 | str c=>cases b;obtain⟨tt,e⟩:=(show ∃t,u=Value.str c t from f);cases e;exact lx PySem.W.kitx_str I.j7 True.intro (ko.trans (nA WA g)) (λz=>nomatch z) fin
 | @lst a ws _ k l=>
  cases b;cases (show u=Value.ref a from f);obtain⟨its,_,j,_⟩:=I.list k;obtain⟨o,p,e,c,_⟩:=j;exact lx PySem.W.kitx_list I.j7 #[o,e,c] (ko.trans (nA WA g)) (λz=>nomatch z) fin
 | @tup a ws _ k l=>
  cases b;cases (show u=Value.ref a from f);obtain⟨its,_,j,_⟩:=I.tuple k;obtain⟨o,e,c,_⟩:=j;exact lx PySem.W.kitx_tuple I.j7 #[o,e,c] (ko.trans (nA WA g)) (λz=>nomatch z) fin
 | ins _ _=>cases b
 | any _=>cases b
 | val _=>cases b
 | iO _ _=>cases b
 | dct _ _=>cases b
 | BK _ _ _=>cases b
variable{d:L3.D}{pp:Pos}
def HZ{t n:String}{nm:Str}{pq:Pos}(hm:X.mg "isinstance" = none)(c:X.mg nm=none)(o:Gl X "isinstance")(f:Gl X nm)(g:bootBuiltins nm=some (.type n))(p:nm≠"__name__")(a:AD nm)(h:bN X CL b e δ d δ1)(l:qw d=some t)(m:n∈["int","str","list","tuple","bool","dict"])
  (i:starEach [e,.Name nm pq] X.env=(false,eval e X.env)::starEach [.Name nm pq] X.env:=by exact aT rfl) :
  bw X CL b (.Call (.Name "isinstance" pp) [e,.Name nm pq] [] pos) δ (.sh (.bl (t==n || (t=="bool" && n=="int")))) δ1:=λH Z U ts vs Q S k=>
 bH (je (KP) o hm boot_isinstance (bB bX (bB (Hw f c g (v:=.ty n) rfl p a) cV) i) (he:=i)) (h H Z U ts vs _ S λv H1 Z1 j k1 q r=>
  #[v,n,d,t,rfl,r,l,m,k _ H1 Z1 j k1 (q.push (.bl _))])
variable{n:Nat}
def g7(h:Nat.ble n 1000=true):n<=sizeLine:=hH (cL (eE h))
structure Vn(X:Cx)(i:Nat)(x:Str):Prop where
 hi:X.N[i]? = some x
 hv:N5 X.env.scope x
 hd:(x==("__debug__":Str))=false
 gX:(x==("__classdict__":Str))=false
structure Ln(X:Cx)(i:Nat)(x:Str):Prop extends Vn X i x where
 loc:Loc X.env.scope x
 hf:X.fn x=true\/X.env.scope.names.lookup x=some .local
structure Gx(X:Cx):Prop where
 nd:X.N.Nodup
 calm:X.calm=true
 xe:PassesOwn (model X.prog X.w) X.A X.env X.xe
structure Fc(X:Cx)(CL:BC)(x:Str)(k n:Nat){A:Type}(arg:A->BB)(Pre:A->Prop)(res:A->T):Prop where
 ex:∃f fd ps,eU X.prog X.w X.K X.mg X.base tG k f fd ps (HW X.K CL n arg Pre res)/\X.mg x=some (.ref f)/\keepIn X.K (.ref f)=true/\Binds X.K fd ps []
 room:dI k X.A
section
variable{D:cy}{cZ:CO}{ds:BB}
def v_(n:Vn X i x)(h:δ[i]? = some (some (.sh d)):=by rfl):bw X CL b (.Name x pos) δ (.sh d) δ:=X1 i n.hi n.hv n.hd n.gX h
def vM(n:Vn X i x)(h:δ[i]? = some (some t):=by rfl):bw X CL b (.Name x pos) δ t (δ.set i none):=U9 i n.hi n.hv n.hd n.gX h
def vB(n:Vn X i x)(h:δ[i]? = some (some t):=by rfl):bN X CL b (.Name x pos) δ t.d7 δ:=X0 i n.hi n.hv n.hd n.gX h
def cI{k:Int}(h:bN X CL b e δ (.int k) δ1):bw X CL b (.UnaryOp .USub e pos) δ (.sh (.int (-k))) δ1:=λH Z U ts vs Q S kk=>
 bH (Pt ZV bX) (h H Z U ts vs _ S λv H1 Z1 a k1 c r=>#[k,r.sc rfl,kk _ H1 Z1 a k1 (c.push (.int _))])
def vL(n:Vn X i x)(h:δ[i]? = some (some (.lst (ds.map T.sh))):=by rfl):bN X CL b (.Name x pos) δ (.lst ds) δ:=by
 have:=vB (CL:=CL) (b:=b) (pos:=pos) n h
 rwa [T.d7,iC]at this
def c_{A:Type}{arg:A->BB}{Pre:A->Prop}{res:A->T}(a:A)(F:Fc X CL x k n arg Pre res)(g:Gl X x)(h:BL X CL b (e::es) δ (arg a) δ1)(hp:Pre a)(i:(res a).clean=true)(d:(arg a).length=n:=by rfl)
  (c:AD x:=by decide) (he:AC X e es:=by exact aT rfl) (hpl:AL X pos es:=by rfl) :
  bw X CL b (.Call (.Name x pp) (e::es) [] pos) δ (res a) δ1:=by
 obtain⟨f,fd,ps,j,m,k,b⟩:=F.ex;exact Vd a j F.room m k b h d hp i g c he hpl
def aA{pos':Pos}(g:Gx X)(n:Ln X i x)(h:bw X CL b e δ t δ1)(k:cg X CL b cZ (δ1.set i (some t)) D)(c:i<δ1.length:=by exact eE rfl)(a:swapsWith e (some (.Name x pos')) pos.line X.env=pure false:=by rfl) :
  cg X CL b (.Assign [.Name x pos'] e pos::cZ) δ D:=bG (O6 i h k c g.nd n.hi n.loc a n.hf)
def aI(h:bw X CL b e δ t δ1)(k:D.rt t δ1):cg X CL b (.Return (some e) pos::cZ) δ D:=bG (XP h k)
def aM{p:Bool}{a c:CO}(h:kQ X CL b e δ p δ1)(h1:p=true->cg X CL b a δ1 {D with nx:=λδ2=>cg X CL b cZ δ2 D})(d:p=false->cg X CL b c δ1 {D with nx:=λδ2=>cg X CL b cZ δ2 D}):cg X CL b (.If e a c pos::cZ) δ D:=bG (PD h h1 d)
theorem cg.to{D':cy}(h:cg X CL b cZ δ D')(h1:∀δ,D'.nx δ->D.nx δ)(d:∀t δ,D'.rt t δ->D.rt t δ)(c:∀δ,D'.bk δ->D.bk δ)(a:∀δ,D'.ct δ->D.ct δ):cg X CL b cZ δ D:=λH Z U ts vs E S M=>h H Z U ts vs E S (M.to h1 d c a)
def sQ{p:Bool}{a c:CO}(J:Ap->Prop)(h:kQ X CL b e δ p δ1)(h1:p=true->cg X CL b a δ1 {D with nx:=J})(d:p=false->cg X CL b c δ1 {D with nx:=J})(k:∀δ2,J δ2->cg X CL b cZ δ2 D):cg X CL b (.If e a c pos::cZ) δ D:=
 aM h (λhp=>cg.to (h1 hp) k (λ_ _ q=>q) (λ_ q=>q) (λ_ q=>q)) (λhp=>cg.to (d hp) k (λ_ _ q=>q) (λ_ q=>q) (λ_ q=>q))
def jh{o:Option Expr}{l:Nat}(h:∃c,swapsWith e o l env=pure c):swapsWith e o l env=pure true\/swapsWith e o l env=pure false:=by
 obtain⟨c,h⟩:=h;cases c
 .exact .inr h
 .exact .inl h
def Pg{C:Addr}(h1:Nc[i]? = some x)(a:scope.names.lookup x=some .local)(hd:AD x:=by decide)(gX:AE x:=by decide):Vn (aR X scope Nc C s H fp) i x:=
 #[h1,.inl (lookup_relabel_local a),hd,gX]
def XB{C:Addr}(h1:Nc[i]? = some x)(a:scope.names.lookup x=some .free)(hd:AD x:=by decide)(gX:AE x:=by decide):Vn (aR X scope Nc C s H fp) i x:=by
 refine#[h1,?_,hd,gX];have q:=fE (env:=X.env) a;show(relabel _ _).names.lookup x=some _\/(relabel _ _).names.lookup x=some _\/(relabel _ _).names.lookup x=some _;rw[show(relabel _ _).names.lookup x=_ from q];split
 .exact .inr (.inl rfl)
 .exact .inr (.inr rfl)
def Ve{C:Addr}(a:scope.names.lookup x=some .globalImplicit):Gl (aR X scope Nc C s H fp) x:=by
 have q:=fE (env:=X.env) a;show(relabel _ _).names.lookup x=some _;rw[show(relabel _ _).names.lookup x=_ from q];rfl
end
variable{t:String}{pq:Pos}
def yF:bootBuiltins "int" = some (.type "int"):=by decide +kernel
def y8(hm:X.mg "isinstance" = none)(a:X.mg "int" = none)(i:Gl X "isinstance")(c:Gl X "int")(h:bN X CL b e δ d δ1)(f:qw d=some t:=by rfl)(g:starEach [e,.Name "int" pq] X.env=(false,eval e X.env)::starEach [.Name "int" pq] X.env:=by exact aT rfl) :
  bw X CL b (.Call (.Name "isinstance" pp) [e,.Name "int" pq] [] pos) δ (.sh (.bl (t=="int" || (t=="bool" && "int" == "int")))) δ1:=HZ hm a i c yF WA WA h f WA g
def EZ:bootBuiltins "bool" = some (.type "bool"):=by decide +kernel
def Uq(hm:X.mg "isinstance" = none)(a:X.mg "bool" = none)(i:Gl X "isinstance")(c:Gl X "bool")(h:bN X CL b e δ d δ1)(f:qw d=some t:=by rfl)(g:starEach [e,.Name "bool" pq] X.env=(false,eval e X.env)::starEach [.Name "bool" pq] X.env:=by exact aT rfl) :
  bw X CL b (.Call (.Name "isinstance" pp) [e,.Name "bool" pq] [] pos) δ (.sh (.bl (t=="bool" || (t=="bool" && "bool" == "int")))) δ1:=HZ hm a i c EZ WA WA h f WA g
def fF:bootBuiltins "list" = some (.type "list"):=by decide +kernel
def Cm:bootBuiltins "tuple" = some (.type "tuple"):=by decide +kernel
noncomputable def m2(sc:Scope)(l:Co):Bool:=l.all λp=>sc.names.lookup p.1==some p.2
def Vf{sc:Scope}{l:Co}(h:m2 sc l=true)(i:Nat){k:NameKind}(hi:l[i]? = some (x,k)):sc.names.lookup x=some k:=by
 unfold m2 at h;rw[fR]at h;exact hI.1 (h _ (fw hi))
inductive Vg(X:Cx):Cc->AT->Prop where
 | nil:Vg X [] []
 | cons {i:Nat} {y:Str} {ix:Cc} {ys:AT} (n:Vn X i y) (k:X.env.kindOf y=some .cell\/X.env.kindOf y=some .free) (r:Vg X ix ys):Vg X (i::ix) (y::ys)
noncomputable def Ph(scope:Scope)(x:Str)(a:AT):Bool:=
 scope.kind == .function&&scope.names.lookup x==some .local&&a.all (λy=>scope.names.lookup y==some .free)&&decide ((x::a).Nodup) &&
  scope.names.all λy=>y.2 != .cell&&(y.2 != .local || scope.names.lookup y.1==some .local)&&(y.2 != .free || (a.contains y.1&&scope.names.lookup y.1==some .free))
variable{ix:Cc}
theorem bM{h:AT}(c:Vg X ix h)(ok:Ph scope x h=true):gu X scope x (x::h) ix:=by
 unfold Ph at ok;simp only[et,fR,fo,hI]at ok;obtain⟨⟨⟨⟨h1,m⟩,g⟩,f⟩,b⟩:=ok;have j:∀y∈h,X.env.kindOf y=some .cell\/X.env.kindOf y=some .free:=by
  clear g f b
  induction c with
  | nil=>intro y a;cases a
  | cons n k r d=>
   intro y a;obtain e|a:=d3.1 a
   .subst e;exact k
   simp_all
 refine#[h1,λy a e=>?_,f,λy a e=>?_,m,λy a e=>?_,?_,λi hi=>?_]
 .have:=(b y a).1.1;rw[e]at this;simp at this
 .have:=(b y a).1.2;rw[e]at this;simpa using this
 .have:=(b y a).2;simp_all
 .congr 1;clear g f b j
  induction c with
  | nil=>rfl
  | cons n k r d=>rw[i2,n.hi,<- d]
 .clear f b j
  induction c with
  | nil=>cases hi
  | @cons o y ix ys n k r d=>
   obtain e|hi:=d3.1 hi
   .subst e;exact#[y,n.hi,g y d6]
   .exact d (λz l=>g z (ee _ l)) hi
noncomputable def D.Cq:D->Int
 | .int i=>i
 | _=>0
noncomputable def D.toS:D->Str
 | .str x => x
 | _=>Str.empty
theorem mG{bs:BN}{k:Int}(h0:0<=k)(h1:k<bs.length):mw (bs.map D.int) k=some (.int (bs.getD k.toNat 0)):=by
 obtain⟨j,rfl⟩:∃j:Nat,k=j:=#[k.toNat,Wl];refine fY ?_;simp_all
theorem kr:∀(bs:BN),D.bP (bs.map D.int)=true
 | []=>rfl
 | i::r=>by rw[eJ,D.bP,kr r];rfl
variable{j:Nat}
theorem uV{lo:Int}{d:D}(h:(d8 lo n)[j]? = some d):d=.int (lo+j)/\j<n:=by
 have a:=by
  have:=(gz.1 h).1;simpa [d8] using this
 refine#[?_,a];unfold d8 at h;rw[fT,hU a]at h;simp_all
def fG(l:List α):l.filter (λ_=>true)=l:=by simp
theorem Cr{K:Frag}{CL:BC}{Z:Hp}:∀(ns:BN),aD K CL Z (ns.map D.int) (ns.map V.int)
 | []=>.nil
 | n::r=>.cons (.int n) (Cr r)
def Xt{arg:BN->BB}{pre:BN->Prop}{res:BN->T}{ns:BN}(b:arg ns=[.lst (ns.map D.int)])(hp:pre ns)(d:res ns=.sh (.bl true))(f:lM K H a (ns.map V.int))(h0:∀x,uM x=true->CL x=0:=by intros;rfl) :
  HW K CL 1 arg pre res [.ref a] H (λv _=>v=.bl true) λ_ _ _=>False:=
 #[H,ns,.refl _,λ_ _ q _=>q,by rw[b];exact .cons (.lst f (Cr ns)) .nil,by rw[b];rfl,hp,λx c e=>absurd (h0 x c) e,λv H' W' fp _ _ _ _ _ r _ _=>by
  rw[d]at r;replace r:=r.KG;obtain⟨rfl,r⟩:=r;exact r.sc rfl]
mutual
def D.toPy:D->PyData
 | .non=>.none
 | .bl b=>.bool b
 | .int i=>.int i
 | .str x => .str x
 | .tup ds=>.tuple (D.pW ds)
 | .lst ds=>.list (D.pW ds)
 | .ins _ _=>.none
 | .iO _=>.none
 | .dct _=>.none
 | .any=>.none
 | .val _=>.none
 | .BK _ _ _=>.none
def D.pW:BB->List PyData
 | []=>[]
 | d::ds=>d.toPy::D.pW ds
end
inductive rj:Nat->D->Prop where
 | non (n:Nat):rj n .non
 | bl (n:Nat) (b:Bool):rj n (.bl b)
 | int (n:Nat) (i:Int):rj n (.int i)
 | str (n:Nat) (x:Str) (h:PyData.strOk x=true):rj n (.str x)
 | tup {n:Nat} {ds:BB} (h:∀d∈ds,rj n d):rj (n+1) (.tup ds)
 | lst {n:Nat} {ds:BB} (h:∀d∈ds,rj n d):rj (n+1) (.lst ds)
def Vh(a b:D):Bool:=PyData.eqv a.toPy b.toPy
theorem rj.w8{n:Nat}:∀{ds:BB},(∀d∈ds,d.toPy.canLay0=true/\d.toPy.depth<=n)->PyData.canLayAll0 (D.pW ds)=true/\PyData.depthAll (D.pW ds)<=n
 | [],_=>#[ rfl,fc _ ]
 | d::ds,h=>by
  have h1:=h d d6;have a:=rj.w8 λe he=>h e (ee _ he);rw[D.pW,PyData.canLayAll0,h1.1,a.1];exact#[rfl,Nat.max_le.2 #[h1.2,a.2]]
theorem rj.lay{d:D}(h:rj n d):d.toPy.canLay0=true/\d.toPy.depth<=n:=by
 induction h with
 | non n=>exact#[ rfl,fc _ ]
 | bl n b=>exact#[ rfl,fc _ ]
 | int n i=>exact#[ rfl,fc _ ]
 | str n x c=>exact#[ ‹_›,fc _ ]
 | @tup n ds _ a=>
  have:=rj.w8 a;rw[D.toPy,PyData.canLay0,PyData.depth];simp_all
 | @lst n ds _ a=>
  have:=rj.w8 a;rw[D.toPy,PyData.canLay0,PyData.depth];simp_all
def Pj{d:D}(h:rj n d):Vh d d=true:=SeqAt.eqv_refl _ h.lay.1
def Pk(I:L2.Inv X pins U H s){d:D}{u:Value}(hd:rj n d)(q:aY X.K CL H d v)(r:RelV v u):∃as,Reads s.heap u d.toPy as:=by
 refine aY.rec
  (motive_2:=λds vs _=>∀(n:Nat) (us:List _),(∀d∈ds,rj n d)->Vals vs us->∃as,ReadsAll s.heap us (D.pW ds) as) (motive_3:=λ_ _ _=>True) (motive_4:=λ_ _ _=>True) (motive_5:=λ_ _ _=>True)
  (λ_ _ _ r=>?non) (λb _ _ _ r=>?bl) (λi _ _ _ r=>?int) (λx _ _ _ r=>?str) (λ_ _ _ hd _=>by cases hd) (λ_ _ _ hd _=>by cases hd) (λl _ a n u hd r=>?tup) (λl _ a n u hd r=>?lst) (λ_ _ _ _ _ hd _=>by cases hd) (λ_ _ _ _ _ hd _=>by cases hd) (λ_ _ _ _ _ hd _=>by cases hd) (λ_ _ _ _ _ _ _ hd _=>by cases hd)
  (λ_ _ _ r=>?nil) (λ_ _ a j n us h r=>?cons) trivial (λ_ _ _ _=>trivial) trivial (λ_ _ _ _=>trivial) trivial (λ_ _ _ _=>trivial) q n u hd r
 case non=>cases r;exact#[[],.none]
 case bl=>cases r;exact#[[],.bool b]
 case int=>obtain⟨t,rfl⟩:=r;exact#[[],.int i t]
 case str=>obtain⟨t,rfl⟩:=r;exact#[[],.str x t]
 case tup=>
  cases hd with
  | tup hd=>
   cases r;obtain⟨its,f,⟨o,e,c,k,m⟩,_⟩:=I.tuple l;obtain⟨as,g⟩:=a _ _ hd f;exact#[as,.tuple e c m (‹_›)]
 case lst=>
  cases hd with
  | lst hd=>
   cases r;obtain⟨its,f,⟨o,k,e,c,_,m⟩,_⟩:=I.list l;obtain⟨as,g⟩:=a _ _ hd f;exact#[_,.list e c m (‹_›)]
 case nil=>cases r;exact#[[],.nil]
 case cons=>
  cases r with
  | cons r rs=>
   obtain⟨as,g⟩:=a n _ (h _ d6) r;obtain⟨bs,p⟩:=j n _ (λe he=>h e (ee _ he)) rs;exact#[ _,.cons g p]
variable{δ3:Ap}{e1 e2:Expr}{p2:Pos}{t:T}{cZ:CO}{DD:cy}{d1 d2:D}{ds:BB}
theorem Y3(k:X.A.units+64<cLine):lR X (compareOp .Eq) (λx y H Q=>∃a c,aY X.K CL H a x/\aY X.K CL H c y/\rj 60 a/\rj 60 c/\Q (.bl (Vh a c)) H):=by
 intro pins s U H x y v u Q I f e h;obtain⟨a,c,g,rc,b,d,q⟩:=h;obtain⟨as,j⟩:=Pk I b g f;obtain⟨bs,i⟩:=Pk I d rc e;exact SeqAt.rcAt_reads j i b.lay.1 d.lay.1 (by have:=b.lay.2;lia) _ X.w X.xe _ #[.bl _,H,I,rfl,q]
def JI{op:CmpOp}{f:Bool->Bool}(n:lR X (compareOp op) (λx y H Q=>∃a c,aY X.K CL H a x/\aY X.K CL H c y/\rj 60 a/\rj 60 c/\Q (.bl (f (Vh a c))) H))(h1:bN X CL b e1 δ d1 δ1)(o:bN X CL b e2 δ1 d2 δ2)(k1:rj 60 d1)(k2:rj 60 d2)
  (hm:behindInMarks op e2=false):kQ X CL b (.Compare e1 [op] [e2] pos) δ (f (Vh d1 d2)) δ2/\bw X CL b (.Compare e1 [op] [e2] pos) δ (.sh (.bl (f (Vh d1 d2)))) δ2:=by
 constructor
 .intro H Z U ts vs Q S k;refine pR (nk n bX bX hm) (h1 H Z U ts vs _ S λv1 H1 Z1 h e m j=>o H1 Z1 U ts vs _ m λv2 H2 Z2 g d l i=>?_);exact#[d1,d2,j.mono d,i,k1,k2,_,rfl,k H2 Z2 (h.trans g) (e.trans d) l]
 .intro H Z U ts vs Q S k;refine bH (nj n bX bX hm) (h1 H Z U ts vs _ S λv1 H1 Z1 h e m j=>o H1 Z1 U ts vs _ m λv2 H2 Z2 g d l i=>?_);exact#[d1,d2,j.mono d,i,k1,k2,k _ H2 Z2 (h.trans g) (e.trans d) (l.push (.bl _))]
def Pn(a:X.A.units+64<cLine)(h1:bN X CL b e1 δ d1 δ1)(c:bN X CL b e2 δ1 d2 δ2)(k1:rj 60 d1)(k2:rj 60 d2):kQ X CL b (.Compare e1 [.Eq] [e2] pos) δ (Vh d1 d2) δ2/\bw X CL b (.Compare e1 [.Eq] [e2] pos) δ (.sh (.bl (Vh d1 d2))) δ2:=
 JI (f:=λb=>b) (Y3 a) h1 c k1 k2 (jT _)
def cutD(xs:List α)(lo hi:CS):List α:=(xs.drop (HT.BJ xs.length 0 lo)).take (HT.BJ xs.length xs.length hi-HT.BJ xs.length 0 lo)
theorem aD.drop{K:Frag}{Z:Hp}:∀{ds:BB} {vs:BS} (n:Nat),aD K CL Z ds vs->aD K CL Z (ds.drop n) (vs.drop n)
 | _,_,0,r=>r
 | _,_,_+1,.nil=>.nil
 | _,_,n+1,.cons _ t=>aD.drop n t
theorem aD.take{K:Frag}{Z:Hp}:∀{ds:BB} {vs:BS} (n:Nat),aD K CL Z ds vs->aD K CL Z (ds.take n) (vs.take n)
 | _,_,0,_=>.nil
 | _,_,_+1,.nil=>.nil
 | _,_,n+1,.cons r t=>.cons r (aD.take n t)
theorem aD.cut{ds:BB}(r:aD K CL Z ds vs)(lo hi:CS):aD K CL Z (cutD ds lo hi) (Oz vs lo hi):=by
 unfold cutD Oz;rw[r.length];exact(r.drop _).take _
theorem uW:∀{ds:BB},D.bP ds=true->∀d∈ds,d.j6=true
 | [],_,_,h=>by cases h
 | d::ds,k,e,h=>by
  rw[D.bP,et]at k;obtain h|h:=d3.1 h
  .subst h;exact k.1
  .exact uW k.2 e h
theorem gG:∀{ds:BB},(∀d∈ds,d.j6=true)->D.bP ds=true
 | [],_=>rfl
 | d::ds,h=>by rw[D.bP,h d d6,gG λe he=>h e (ee _ he)];rfl
def Vi{xs:List α}{lo hi:CS}{x:α}(h:x∈cutD xs lo hi):x∈xs:=List.mem_of_mem_drop (List.mem_of_mem_take h)
def n3(X:Cx)(CL:BC)(b:Bx)(e:Option Expr)(δ:Ap)(k:CS)(δ':Ap):Prop:=
 ∃t,PO X e t/\∀(H Z:Hp) (U:L2.St) (ts:Bn) (vs:BS) (Q:CS->Hp->Prop),bz X.K CL b H Z δ U ts vs->(∀H' Z',aB Z Z'->aB H H'->bz X.K CL b H' Z' δ' U ts vs->Q k H')->t U H Q
def pX:n3 X CL b none δ none δ:=#[_,UQ,λH Z U ts vs Q S k=>k H Z (.refl _) (.refl _) S]
def pY{k:Int}(h:bN X CL b e δ (.int k) δ1):n3 X CL b (some e) δ (some k) δ1:=#[_,UR bX,λH Z U ts vs Q S kk=>h H Z U ts vs _ S λv H1 Z1 a k1 c r=>#[k,r.sc rfl,kk H1 Z1 a k1 c]]
def pZ{lo hi:Option Expr}{l h:CS}(h1:bN X CL b e δ (.lst ds) δ1)(g:D.bP ds=true)(x:n3 X CL b lo δ1 l δ2)(w:n3 X CL b hi δ2 h δ3):bw X CL b (.Subscript e (.Slice lo hi none p2) pos) δ (.lst ((cutD ds l h).map T.sh)) δ3:=λH Z U ts vs Q S k=>by
 obtain⟨t2,f,q⟩:=x;obtain⟨t3,a,o⟩:=w;refine bH (B7 UU bX f a) (h1 H Z U ts vs _ S λv H1 Z1 n k1 A r=>q H1 Z1 U ts vs _ A λH2 Z2 m k2 z=>o H2 Z2 U ts vs _ z λB Z3 j k3 i=>?_);have t:=r.mono (k2.trans k3);obtain⟨_,_,rfl,u,s⟩:=t.lS;refine#[_,_,rfl,u,λp hp=>?_];have rc:=aD.j6 i.tp (gG λd hd=>uW g d (Vi hd)) (s.cut l h);obtain⟨c,y⟩:=(bz.pT rc i).rG (g0:=[]) (by simp[rc.length]) hp;exact k _ _ _ (n.trans (m.trans j)) (k1.trans (k2.trans (k3.trans c))) y
def ku(hm:X.mg "tuple" = none)(h:bN X CL b e δ (.lst ds) δ1)(hi:D.bP ds=true)(p:Gl X "tuple")(f:AC X e []:=by exact aT rfl):bw X CL b (.Call (.Name "tuple" pp) [e] [] pos) δ (.sh (.tup ds)) δ1:=λH Z U ts vs Q S k=>
 bH (j8 xN p hm Cm (bB bX cV f) (he:=f)) (h H Z U ts vs _ S λv H1 Z1 m k1 i r=>by
  obtain⟨_,_,rfl,n,d⟩:=r.lS;refine#[_,_,rfl,.inl #[n,λl o=>?_]];obtain⟨a,c,q⟩:=(bz.pT (aD.j6 i.tp hi d) i).uP (by simp[d.length]) o;obtain⟨Z3,j,g⟩:=q.zO;rw[T.d7,iC]at g;exact k _ _ Z3 (m.trans (a.trans j)) (k1.trans c) g)
def p6{tl0:Bn}{pa pb:Pos}(n:Vn X i x)(h0:δ[i]? = some (some (.lst tl0)))(h:bw X CL b e δ t δ1)(h1:δ1[i]? = some (some (.lst tl)))(g:tl.length<=1000000)(k:cg X CL b cZ (δ1.set i (some (.lst (tl++[t])))) DD)
  (j:attributeBase (.Name x pp) "append" X.env (eval (.Name x pp) X.env)=eval (.Name x pp) X.env:=by rfl)
  (d:AB X pb e:=by rfl)
  (a:(pa.endLine==pb.line)=true:=by rfl) (f:AC X e []:=by exact aT rfl) (c:swapsWith (.Call (.Attribute (.Name x pp) "append" pa) [e] [] pb) none pos.line X.env=pure false:=by rfl) :
  cg X CL b (.Expr (.Call (.Attribute (.Name x pp) "append" pa) [e] [] pb) pos::cZ) δ DD:=
 bG (XN i h0 h h1 (pl g WA) k n.hi n.hv n.hd n.gX j d a f c)
def aX(c:ds.length=n)(hm:X.mg "len" = none)(h:bN X CL b e δ (.lst ds) δ1)(d:Gl X "len")(a:AC X e []:=by exact aT rfl):bw X CL b (.Call (.Name "len" pp) [e] [] pos) δ (.sh (.int n)) δ1:=by
 subst c;exact zV hm h d a
def bZ(h:bw X CL b e δ (.lst (ds.map T.sh)) δ1):bN X CL b e δ (.lst ds) δ1:=by
 have:=Yh h
 rwa [T.d7,iC]at this
theorem zY{f:α->D}{l:List α}{k:Int}(z:α)(h0:0<=k)(h1:k<l.length):mw (l.map f) k=some (f (l.getD k.toNat z)):=by
 obtain⟨j,rfl⟩:∃j:Nat,k=j:=#[k.toNat,Wl];refine fY ?_;simp_all
theorem b9{α:Type}{f:α->D}(h:∀a,(f a).j6=true):∀(l:List α),D.bP (l.map f)=true
 | []=>rfl
 | a::l=>by rw[eJ,D.bP,h a,b9 h l];rfl
variable{d:D}
def Vj{k:Int}{u:Tok}(hm:X.mg x=some (.int k u))(a:Gl X x)(hd:AD x:=by decide):bw X CL b (.Name x pos) δ (.sh (.int k)) δ:=λH Z U ts vs Q S kk=>
 bH (ud (v:=.int k) a hm #[u,rfl] hd) (kk _ H Z (.refl _) (.refl _) (S.push (.int k)))
def aL{k:Int}(hm:∃u,X.mg x=some (.int k u))(a:Gl X x)(hd:AD x:=by decide):bw X CL b (.Name x pos) δ (.sh (.int k)) δ:=by
 obtain⟨u,hm⟩:=hm;exact Vj hm a hd
def vE(n:Vn X i x)(h:δ[i]? = some (some t))(e:t.d7=d):bN X CL b (.Name x pos) δ d δ:=e▸vB n h
theorem kW(x:Str):∀l:AT,kf (.str x) (l.map V.str)=decide (x∈l)
 | []=>by simp[kf]
 | y::l=>by
  have b:=kW x l;unfold kf at b ⊢;have e:∀a c,UW (.str a) (.str c)=(a==c):=λ_ _=>rfl;grind
theorem aD.strs{K:Frag}{Z:Hp}:∀{l:AT} {vs:BS},aD K CL Z (l.map D.str) vs->vs=l.map V.str
 | [],_,r=>by
  have a:=r;cases a;rfl
 | y::l,_,r=>by
  have a:=r;cases a with
  | cons c b=>rw[c.sc rfl,aD.strs b];rfl
theorem eG:∀l:AT,(l.map V.str).all nS=true
 | []=>rfl
 | y::l=>by rw[eJ,jO,eG l];rfl
variable{l:AT}
def kB(h1:bN X CL b e1 δ (.str x) δ1)(m:bN X CL b e2 δ1 (.tup (l.map .str)) δ2)(hm:behindInMarks .In e2=false) :
  kQ X CL b (.Compare e1 [.In] [e2] pos) δ (decide (x∈l)) δ2/\bw X CL b (.Compare e1 [.In] [e2] pos) δ (.sh (.bl (decide (x∈l)))) δ2:=by
 constructor
 .intro H Z U ts vs Q S k;refine pR (nk ny bX bX hm) (h1 H Z U ts vs _ S λv1 H1 Z1 d k1 j a=>m H1 Z1 U ts vs _ j λv2 H2 Z2 c k2 i g=>?_);obtain⟨_,_,rfl,h,f⟩:=g.pQ;have e:=f.strs;subst e;refine#[_,_,rfl,.inr h,by rw[a.sc rfl];rfl,eG l,_,rfl,?_];rw[cq fg,a.sc rfl,kW];exact k H2 Z2 (d.trans c) (k1.trans k2) i
 .intro H Z U ts vs Q S k;refine bH (nj ny bX bX hm) (h1 H Z U ts vs _ S λv1 H1 Z1 d k1 j a=>m H1 Z1 U ts vs _ j λv2 H2 Z2 c k2 i g=>?_);obtain⟨_,_,rfl,h,f⟩:=g.pQ;have e:=f.strs;subst e;refine#[_,_,rfl,.inr h,by rw[a.sc rfl];rfl,eG l,?_];rw[cq fg,a.sc rfl,kW];exact k _ H2 Z2 (d.trans c) (k1.trans k2) (i.push (.bl _))
def gH(h1:bN X CL b e1 δ (.str x) δ1)(c:Ek X CL b es δ1 ((l.map D.str).map T.sh) δ2)(a:(l.map D.str).length<=sizeLine:=by exact g7 rfl) :
  kQ X CL b (.Compare e1 [.In] [.Tuple es j p2] pos) δ (decide (x∈l)) δ2/\bw X CL b (.Compare e1 [.In] [.Tuple es j p2] pos) δ (.sh (.bl (decide (x∈l)))) δ2:=kB h1 (ak (cW c a)) rfl
noncomputable def uX:Expr->Option Str
 | .Constant (.str x) _ _=>some x
 | _=>none
def rH:CC->Option AT
 | []=>some []
 | e::es=>(uX e).bind λx=>(rH es).map (x::·)
theorem Ct(h:uX e=some x):∃j p,e=.Constant (.str x) j p:=by
 unfold uX at h;split at h
 .cases h;grind
 .cases h
theorem eK:∀{es:CC} {l:AT},rH es=some l->Ek X CL b es δ ((l.map D.str).map T.sh) δ
 | [],l,h=>by
  have e:=(e5 h).symm;subst e;exact dX
 | e::es,l,h=>by
  rw[rH]at h;obtain⟨x,a,h⟩:=Option.bind_eq_some_iff.1 h;obtain⟨d,c,rfl⟩:=hW.1 h;obtain⟨j,p,rfl⟩:=Ct a;exact bF bQ (eK c)
noncomputable def JE{a:Stmt}(J:Ap->Prop)(k:∀δ2,J δ2->cg X CL b cZ δ2 DD)(h:(∀δ2,J δ2->cg X CL b cZ δ2 DD)->cg X CL b (a::cZ) δ DD):cg X CL b (a::cZ) δ DD:=h k
theorem zZ{l:List α}{k:Int}(z:α)(h0:0<=k)(h1:k<l.length):mw l k=some (l.getD k.toNat z):=by
 obtain⟨j,rfl⟩:∃j:Nat,k=j:=#[k.toNat,Wl];refine fY ?_;have a:j<l.length:=by lia
 rw[gc a];simp[List.getD,a]
def str_len(x y:Str):(x++y).length=x.length+y.length:=by
 show(x.cps++y.cps).size=_;rw[Array.size_append];rfl
def sR(l:BN):T.c7 ((l.map D.int).map T.sh)=true:=by
 rw[eI]
 induction l with
 | nil=>rfl
 | cons i r a=>rw[eJ,T.c7,a];rfl
theorem pP.get:∀{fs:ES} {gs:Bz} {f:Str} {d:D},pP K CL Z fs gs->fs.lookup f=some d->∃v,gs.lookup f=some v/\aY K CL Z d v
 | _,_,_,_,.nil,e=>by simp at e
 | _,_,f,d,.cons (x:=x) r t,e=>by
  rw[hu]at e ⊢;cases h:f==x with
  | true=>rw[h]at e;grind
  | false=>rw[h]at e;exact pP.get t e
def xT(f:Str)(t:T):B1->B1
 | []=>[(f,t)]
 | (g,x)::r=>if g=f then(g,t)::r else(g,x)::xT f t r
theorem cG.length{fs:B1}{gs:Bz}(h:cG K CL H Z fs gs fp):fs.length=gs.length:=
 cG.ind (P:=λd v _=>d.length=v.length) rfl (λ_ _ i=>congrArg _ i) h
theorem cG.put{f:Str}{g:BY}{fs:B1}{gs:Bz}(q:aZ K CL H Z t v g):cG K CL H Z fs gs fp →
  ∃b a,cG K CL H Z (xT f t fs) (jU f v gs) b/\a.Sublist fp/\b.Perm (g++a):=
 cG.ind (P:=λfs gs fp=>∃b a,cG K CL H Z (xT f t fs) (jU f v gs) b/\a.Sublist fp/\b.Perm (g++a)) #[ _,[],.cons q .nil,iq _,List.Perm.refl _] λ{x _ _ _ _ fp gp} r rs i=>by
  rw[xT,jU];by_cases h:x=f
  .rw[di h,di h];exact#[ _,gp,.cons q rs,o7 _ _,List.Perm.refl _]
  .rw[cq h,cq h];obtain⟨p,p',h1,d,c⟩:=i;refine#[ _,_,.cons r h1,jf (iq _) d,(lb fp c).trans ?_];rw[<- eB,<- eB];exact i8.append_right p'
theorem bz.Pp{o:HO}{f gp e:BY}(hm:gF o=false)(S:bz K CL b H Z δ U ts vs)(own:∀c∈fp++gp,Z c=none/\b.B c=none)(j:a∈fp++gp)
  (k:dU K CL (upd H a o) Z δ2 U f) (h:aP K CL (upd H a o) Z tl us e) (pm:(f++e).Nodup) (sub:∀c∈f++e,c∈fp++gp) :
  bz K CL b (upd H a o) Z δ2 U tl us:=by
 have g:=own a j;refine#[#[_,_,k,h,pm,λc d=>own c (sub c d)],λc u q=>?_,S.zz,λc u q=>?_,S.new,λc u q i=>?_,S.tab]
 .rw[az (aS q g.2)];exact S.bh c u q
 .rw[az (aS q g.1)];exact S.zh c u q
 .by_cases d:c=a
  .subst d;rw[aJ]at q;grind
  .rw[az d]at q;exact S.tp c u q i
variable{f:Str}{d:D}{fs:ES}
def b6(j:Ej X.K (CL c))(n:bS X.K (CL c) f)(h:bN X CL b e δ (.ins c fs) δ1)(i:fs.lookup f=some d)(l:AS X e f:=by rfl) :
  bN X CL b (.Attribute e f pos) δ d δ1:=λH Z U ts vs Q S k=>
 bH (Ol bX l) (h H Z U ts vs _ S λv H' Z' z s o r=>by
  obtain⟨a,dx,gs,rfl,m,g⟩:=r.OX;obtain⟨w,hw,p⟩:=g.get i;exact#[a,CL c,dx,gs,w,rfl,m,j,n,hw,k w H' Z' z s o p])
def uY(l:Ej X.K (CL c))(n:bS X.K (CL c) f)(h:bw X CL b e δ (.sh (.ins c fs)) δ1)(j:fs.lookup f=some d)(m:AS X e f:=by rfl) :
  bw X CL b (.Attribute e f pos) δ (.sh d) δ1:=λH Z U ts vs Q S k=>
 bH (Ol bX m) (h H Z U ts vs _ S λv H' Z' z s g=>by
  obtain⟨fp,gp,_,r,_,_⟩:=g.rep;cases r with
  | cons r _=>
   replace r:=r.KG;obtain⟨rfl,r⟩:=r;obtain⟨a,dx,gs,rfl,o,i⟩:=r.OX;obtain⟨w,hw,p⟩:=i.get j;exact#[a,CL c,dx,gs,w,rfl,g.zh _ _ o,l,n,hw,k w H' Z' z s (g.pop.push p)])
def oy(K:Frag)(CL:BC){A:Type}(c:Str)(n:Nat)(arg:A->BB)(Pre:A->Prop)(res:A->B1):Sp:=λvs H Q _=>
 ∃(W b:Hp) (a:A) (x dx:Addr) (us:BS),vs=.ref x::us/\b x=none/\b dx=none/\dx≠x/\H=upd (upd b dx (.own x)) x (.ins (CL c) dx []) ∧
  aB W b/\(∀c o,b c=some o->gF o=true->W c=some o)/\aD K CL W (arg a) us/\(arg a).length+1=n/\Pre a/\gY CL W ∧
  ∀H' W' fp,aB b H'->aB W W'->aB W' H'->(∀c o,W' c=some o->W c=none->b c=none)->(∀c o,H' c=some o->gF o=true->W' c=some o) →
   aZ K CL H' W' (.ins c (res a)) (.ref x) fp->fp.Nodup->(∀c∈fp,W' c=none/\b c=none)->Q .non H'
variable{A:Type}{f:Addr}{arg:A->BB}{Pre:A->Prop}
def Vk{res:A->B1}(a:A)(M:Mk X.K (CL c) f)(F:eU X.prog X.w X.K X.mg X.base tG k f fd ps (oy X.K CL c n arg Pre res))(s:dI (k+1) X.A)(hm:X.mg x=some (.ref (CL c)))(v:Binds X.K fd ps [])
  (h:BL X CL b (e::es) δ (arg a) δ1) (t:(arg a).length+1=n) (hp:Pre a) (z:T.bY (res a)=true) (u:Gl X x)
  (o:AD x:=by decide) (he:AC X e es:=by exact aT rfl) (hpl:AL X pos es:=by rfl) :
  bw X CL b (.Call (.Name x pp) (e::es) [] pos) δ (.ins c (res a)) δ1:=λH Z U ts vs Q S kk=>
 bH (HL M F s u hm v .nil HS zN o he hpl) (h H Z U ts vs _ S λus H1 Z1 j k1 g r x dx p d ne=>by
  rw[e6];refine#[H1,H1,a,x,dx,us,rfl,p,d,ne,rfl,.refl _,λ_ _ q _=>q,r,t,hp,g.KL,λH' W' fp i ww m nw tp rt nd own=>#[rfl,?_]];obtain⟨Z',l,y⟩:=g.back i g.zh ww m nw tp rt nd own (.inr (‹_›));exact kk _ H' Z' (j.trans l) (k1.trans i) y)
def Ic{arg:A->BB}{Pre:A->Prop}{res:A->B1}(F:NP K x qual st f fd)(S:dm N ps (aC st))
  (J:∀(dP:Value) (l:Around) (outer:Cn) (s:Shared) (H:Hp) (E:XK) (b:Bx) (a:A) (y:Addr),dI k (l.deeper (envOfC qual (aC st) s.heap.objs.size f dP))->Pre a →
   cg (kT tG P w K mg base N qual (aC st) f dP l outer s H E).Ul CL b (bJ st) (some (.pin y (.ins c []))::((arg a).map (λd=>some (T.sh d))++List.replicate (N.length-((arg a).length+1)) none))
    {nx:=λδ=>δ[0]? = some (some (.pin y (.ins c (res a)))),rt:=λ_ _=>False}) :
  eU P w K mg base tG (k+1) f fd ps (oy K CL c ps.length arg Pre res):=by
 refine HX F S (λvs H Q E h=>?_) (λdP l outer s H vs Q E _ I h=>?_)
 .obtain⟨W,j,a,y,dx,us,rfl,_,_,_,_,_,_,r,B,_⟩:=h;rw[gv,<- r.length];exact B
 .obtain⟨W,j,a,y,dx,us,rfl,m,n,ne,rfl,u,tp,r,B,hp,tb,kk⟩:=h;have old:∀{d:Addr} {o:HO},j d=some o->upd (upd j dx (.own y)) y (.ins (CL c) dx []) d=some o:=λ{d o} q=>by
   rw[az (aS q m),az (aS q n)];exact q
  refine#[_,NQ,J dP l outer s _ E #[j,W] a y I hp _ W _ [] [] _ #[#[[y]++[],[],?_,.nil,WE,λd hd=>?_],λd o q=>old q,.refl _,λd o q=>old (u d o q),λd o q z=>?_,λd o q i=>?_,tb] #[λδ' U' H' Z' s' g e=>?_,λt v H' Z' δ' U' s' g e=>e.elim,λ_ _ _ _ _ _ e=>e.elim,λ_ _ _ _ _ _ e=>e.elim]]
  .unfold L2.start;rw[eJ,gv,g4,<- r.length];exact .cons (.pin (.ins aJ .nil)) (jg _ r)
  .have:d=y:=by simpa using hd
   subst this;exact#[X2 u m,m]
  .have D:W d=some o:=q;have p:W d=none:=z;rw[D]at p;cases p
  .by_cases h1:d=y
   .subst h1;rw[aJ]at q;cases q;cases i
   .rw[az h1]at q;by_cases C:d=dx
    .subst C;rw[aJ]at q;cases q;cases i
    .rw[az C]at q;exact tp d o q i
  .obtain⟨fp,gp,L,_,nd,own⟩:=g.rep;obtain⟨v,f1,f2,M,hv,G,rt,_,_⟩:=L.get e;subst G;replace rt:=rt.EK;obtain⟨rfl,rt⟩:=rt;refine kk H' Z' f2 g.bh g.zz g.zh g.new g.tp rt ?_ λd hd=>own d (by simp[hd]);have h1:=(hO.1 nd).1;exact(hO.1 (hO.1 h1).2.1).1
variable{body:CO}{ds xU:BB}
theorem Ie(g:Gx X)(P:Nat->Ap->Prop)(m:Nat)(h0:P m δ)
  (k:∀m δ,P m δ->∃p δ1,kQ X CL b e δ p δ1 ∧
   (p=true->cg X CL b body δ1 {nx:=λδ2=>∃a,a<m/\P a δ2,rt:=DD.rt,bk:=λδ2=>cg X CL b cZ δ2 DD,ct:=λδ2=>∃a,a<m/\P a δ2})/\(p=false->cg X CL b cZ δ1 DD)) :
  cg X CL b (.While e body [] pos::cZ) δ DD:=bG λH Z U ts vs E S M=>
 nQ (Ob g.xe Ye NQ) (by
  refine#[λm U H=>∃Z2 δ2,aB Z Z2/\bz X.K CL b H Z2 δ2 U ts vs/\P m δ2,#[m,Z,δ,.refl _,S,h0],?_];rintro m U H ⟨Z2,δ2,f,o,p2⟩;obtain⟨p,δ3,j,h1,n⟩:=k m δ2 p2;refine j H Z2 U ts vs _ o λi Z3 d k3 h=>?_;cases p with
  | true=>
   refine#[ _,λU' H' q=>q,?_];refine h1 rfl i Z3 U ts vs _ h #[λδ' U' H' Z' s' c ⟨a,l,q⟩=>#[a,l,Z',δ',f.trans (d.trans s'),c,q],λt v H' Z' δ' U' s' c q=>M.rt t v H' Z' δ' U' (f.trans (d.trans s')) c q,
    λδ' U' H' Z' s' c q=>M.nx δ' U' H' Z' (f.trans (d.trans s')) c q,λδ' U' H' Z' s' c ⟨a,l,q⟩=>#[a,l,Z',δ',f.trans (d.trans s'),c,q]]
  | false=>
   exact M.nx δ3 U i Z3 (f.trans d) h (n rfl))
def ND(K:Frag):R2:=λx y H Q=>∃l b xs zs,x=.ref l/\y=.ref b/\lM K H l xs/\lM K H b zs/\xs.length+zs.length<=sizeLine/\∀p,H p=none->Q (.ref p) (upd H p (.lst (xs++zs)))
theorem Vl:lR X (binaryOp .Add) (ND X.K):=by
 intro pins s U H x y v u Q I j i h;obtain⟨l,b,xs,zs,rfl,rfl,o,p,C,q⟩:=h;cases j;cases i;obtain⟨its,r,k,_⟩:=I.list o;obtain⟨f,d,a,_⟩:=I.list p;have e1:=r.length;have e2:=d.length;obtain⟨⟨c1,dd,z,sl⟩,e,m,n,hd⟩:=k.isList;obtain⟨⟨c2,c,w,B⟩,g,A,n2,hd2⟩:=a.isList;cases m;cases A;cases hd;cases hd2;refine concat_meets #[_,e,rfl] #[_,g,rfl] noFill_list_add seq_list_add PySem.F.slot_list_add PySem.F.entry_list_add (PySem.F.args_list_add_2 _ _)
  (list_addW l b _ _ n n2 dd c sl B WI) #[e,g,?_]
 have t:its.toArray++f.toArray=(its++f).toArray:=by simp
 rw[t];exact#[.ref _,_,I.OI (r.append d) WF,rfl,q _ I.fresh]
theorem aD.app{ds xU:BB}{a:BS}(h:aD K CL Z ds vs)(b:aD K CL Z xU a):aD K CL Z (ds++xU) (vs++a):=
 aD.ind (P:=λds vs=>aD K CL Z (ds++xU) (vs++a)) b (λr _ i=>.cons r i) h
def jH(h1:bN X CL b e1 δ (.lst ds) δ1)(r:bN X CL b e2 δ1 (.lst xU) δ2)(o:D.bP ds=true)(n:D.bP xU=true)(q:ds.length+xU.length<=sizeLine) :
  bw X CL b (.BinOp e1 .Add e2 pos) δ (.lst ((ds++xU).map T.sh)) δ2:=λH Z U ts vs Q S k=>
 bH (Hz Vl bX bX) (h1 H Z U ts vs _ S λv1 H1 Z1 i k1 t l=>r H1 Z1 U ts vs _ t λv2 H2 Z2 h k2 f j=>by
  have d:=l.mono k2;obtain⟨_,_,rfl,e,g⟩:=d.lS;obtain⟨_,_,rfl,m,a⟩:=j.lS;refine#[_,_,_,_,rfl,rfl,e,m,by rw[<- g.length,<- a.length];exact q,λp hp=>?_];have rc:=aD.app (aD.j6 f.tp o g) (aD.j6 f.tp n a);obtain⟨c,s⟩:=(bz.pT rc f).rG (g0:=[]) (by simp[g.length,a.length]) hp;exact k _ _ _ (i.trans h) (k1.trans (k2.trans c)) s)
def boot_min:bootBuiltins "min" = some (.builtin "min"):=by decide +kernel
def boot_max:bootBuiltins "max" = some (.builtin "max"):=by decide +kernel
def boot_str:bootBuiltins "str" = some (.type "str"):=by decide +kernel
def Vm{i j:Int}(g:Gx X)(hm:X.mg "min" = none)(f:Gl X "min")(h:BL X CL b [e1,e2] δ [.int i,.int j] δ1)(e:starEach [e1,e2] X.env=(false,eval e1 X.env)::starEach [e2] X.env:=by exact aT rfl)(hpl:(backTo pos (starEach [e2] X.env)).any (·.1)=false:=by rfl) :
  bw X CL b (.Call (.Name "min" pp) [e1,e2] [] pos) δ (.sh (.int (if j<i then j else i))) δ1:=λH Z U ts vs Q S k=>
 bH (je (Kr g.calm) f hm boot_min zN (he:=e) (hpl:=hpl)) (h H Z U ts vs _ S λus H1 Z1 a k1 l r=>by
  cases r with
  | cons d r=>
   cases r with
   | cons c r=>
    cases r;rw[d.sc rfl,c.sc rfl];exact#[i,j,rfl,k _ H1 Z1 a k1 (l.push (.int _))])
def Vo{i j:Int}(g:Gx X)(hm:X.mg "max" = none)(f:Gl X "max")(h:BL X CL b [e1,e2] δ [.int i,.int j] δ1)(e:starEach [e1,e2] X.env=(false,eval e1 X.env)::starEach [e2] X.env:=by exact aT rfl)(hpl:(backTo pos (starEach [e2] X.env)).any (·.1)=false:=by rfl) :
  bw X CL b (.Call (.Name "max" pp) [e1,e2] [] pos) δ (.sh (.int (if j > i then j else i))) δ1:=λH Z U ts vs Q S k=>
 bH (je (Kq g.calm) f hm boot_max zN (he:=e) (hpl:=hpl)) (h H Z U ts vs _ S λus H1 Z1 a k1 l r=>by
  cases r with
  | cons d r=>
   cases r with
   | cons c r=>
    cases r;rw[d.sc rfl,c.sc rfl];exact#[i,j,rfl,k _ H1 Z1 a k1 (l.push (.int _))])
def Ig{i:Int}(hm:X.mg "str" = none)(d:Gl X "str")(h:bN X CL b e δ (.int i) δ1)(hi:i.natAbs.log2<1920)(a:AC X e []:=by exact aT rfl) :
  bw X CL b (.Call (.Name "str" pp) [e] [] pos) δ (.sh (.str (toString i))) δ1:=λH Z U ts vs Q S k=>
 bH (j8 zC d hm boot_str (bB bX cV a) (he:=a)) (h H Z U ts vs _ S λv H1 Z1 c k1 f r=>r.sc rfl▸#[i,rfl,hi,k _ H1 Z1 c k1 (f.push (.str _))])
structure Fm(X:Cx)(CL:BC)(x:Str)(k n:Nat){A:Type}(arg:A->BB)(Pre:A->Prop)(res:A->B1):Prop where
 ex:∃f fd ps,Mk X.K (CL x) f/\eU X.prog X.w X.K X.mg X.base tG k f fd ps (oy X.K CL x n arg Pre res)/\X.mg x=some (.ref (CL x))/\Binds X.K fd ps []
 room:dI (k+1) X.A
structure Fq(X:Cx)(CL:BC)(c m:Str)(k n:Nat){A:Type}(arg:A->BB)(Pre:A->Prop)(res:A->T):Prop where
 ex:∃f fd ps,Meth X.K (CL c) m f/\eU X.prog X.w X.K X.mg X.base tG k f fd ps (HW X.K CL n arg Pre res)/\Binds X.K fd ps []
 room:dI k X.A
 cls:Ej X.K (CL c)
def Pr(N:AT)(y:Addr)(c:Str)(ds:BB):Ap:=some (.pin y (.ins c []))::(ds.map (λd=>some (T.sh d))++List.replicate (N.length-(ds.length+1)) none)
def Y2{b:BC}{arg:BN->BB}{pre:BN->Prop}{res:BN->T}(m:∀a,arg a=[.lst (a.map .int)])(j:∀a,res a=.sh (.bl true))(h0:∀x,uM x=true->CL x=0) :
  ∀(vs:BS) (H:Hp) (Q:VK) (E:XK),HW K b 1 arg pre res vs H Q E->HW K CL 1 arg pre res vs H Q E:=by
 rintro vs H Q E ⟨W,a,h1,p,d,o,n,_,k⟩;have c:∀{l:BN} {us:BS},aD K b W (l.map .int) us->aD K CL W (l.map .int) us:=by
  intro l
  induction l with
  | nil=>intro us r;cases r;exact .nil
  | cons i l g=>
   intro us r;cases r with
   | cons r t=>cases r;exact .cons (.int i) (g t)
 refine#[W,a,h1,p,?_,o,n,λx h e=>absurd (h0 x h) e,λv H' W' fp a1 a2 a3 a4 a5 r nd own=>k v H' W' fp a1 a2 a3 a4 a5 ?_ nd own]
 .rw[m]at d ⊢;cases d with
  | cons r t=>
   cases t;obtain⟨_,_,rfl,q,f⟩:=r.lS;exact .cons (.lst q (c f)) .nil
 .rw[j]at r ⊢;replace r:=r.KG;obtain⟨rfl,r⟩:=r;cases r;exact .sh (.bl _)
section
variable{m:Str}{D:cy}
def mk_{arg:A->BB}{Pre:A->Prop}{res:A->B1}(a:A)(F:Fm X CL x k n arg Pre res)(g:Gl X x)(h:BL X CL b (e::es) δ (arg a) δ1)(hp:Pre a)(i:T.bY (res a)=true)(d:(arg a).length+1=n:=by rfl)
  (c:AD x:=by decide) (he:AC X e es:=by exact aT rfl) (hpl:AL X pos es:=by rfl) :
  bw X CL b (.Call (.Name x pp) (e::es) [] pos) δ (.ins x (res a)) δ1:=by
 obtain⟨f,fd,ps,M,j,m,b⟩:=F.ex;exact Vk a M j F.room m b h d hp i g c he hpl
end
def z7{f:Str}{d:α}{fs:List (Str×α)}:((f,d)::fs).lookup f=some d:=by simp
variable{d:L3.D}
theorem z8(x:Int):∀l:BN,kf (.int x) (l.map V.int)=decide (x∈l)
 | []=>rfl
 | y::l=>by
  have a:=z8 x l;unfold kf at a ⊢;rw[eJ,i3,a];show(y==x || _)=_;by_cases h:y=x
  .subst h;simp
  .have h':¬ x=y:=λe=>h e.symm;simp[h,h']
theorem aD.ints{K:Frag}{Z:Hp}:∀{l:BN} {vs:BS},aD K CL Z (l.map D.int) vs->vs=l.map V.int
 | [],_,r=>by
  have a:=r;cases a;rfl
 | y::l,_,r=>by
  have a:=r;cases a with
  | cons c b=>rw[c.sc rfl,aD.ints b];rfl
theorem kX:∀l:BN,(l.map V.int).all nS=true
 | []=>rfl
 | y::l=>by rw[eJ,jO,kX l];rfl
def uZ(d:L3.D):Option BB:=match d with
 | .lst ds=>some ds
 | .tup ds=>some ds
 | _=>none
theorem aY.uZ{ds:BB}(r:aY K CL Z d v)(h:L3.uZ d=some ds):∃p us,v=.ref p/\(lM K Z p us\/lN K Z p us)/\aD K CL Z ds us:=by
 cases r with
 | tup b a=>cases h;exact#[_,_,rfl,.inr b,a]
 | lst b a=>cases h;exact#[_,_,rfl,.inl b,a]
 | non=>cases h
 | bl=>cases h
 | int=>cases h
 | str=>cases h
 | any=>cases h
 | val=>cases h
 | iO=>cases h
 | dct=>cases h
 | ins=>cases h
 | BK=>cases h
def Vp{l:BN}{i:Int}(h1:bN X CL b e1 δ (.int i) δ1)(o:bN X CL b e2 δ1 d δ2)(hd:L3.uZ d=some (l.map .int))(hm:behindInMarks .NotIn e2=false) :
  kQ X CL b (.Compare e1 [.NotIn] [e2] pos) δ (!decide (i∈l)) δ2/\bw X CL b (.Compare e1 [.NotIn] [e2] pos) δ (.sh (.bl (!decide (i∈l)))) δ2:=by
 constructor
 .intro H Z U ts vs Q S k;refine pR (nk iX bX bX hm) (h1 H Z U ts vs _ S λv1 H1 Z1 f k1 n a=>o H1 Z1 U ts vs _ n λv2 H2 Z2 c k2 m h=>?_);obtain⟨p,us,rfl,j,g⟩:=aY.uZ h hd;have e:=g.ints;subst e;refine#[_,_,rfl,j,by rw[a.sc rfl];rfl,kX l,_,rfl,?_];rw[a.sc rfl,z8];exact k H2 Z2 (f.trans c) (k1.trans k2) m
 .intro H Z U ts vs Q S k;refine bH (nj iX bX bX hm) (h1 H Z U ts vs _ S λv1 H1 Z1 f k1 n a=>o H1 Z1 U ts vs _ n λv2 H2 Z2 c k2 m h=>?_);obtain⟨p,us,rfl,j,g⟩:=aY.uZ h hd;have e:=g.ints;subst e;refine#[_,_,rfl,j,by rw[a.sc rfl];rfl,kX l,?_];rw[a.sc rfl,z8];exact k _ H2 Z2 (f.trans c) (k1.trans k2) (m.push (.bl _))
def Ih(h1:bN X CL b e1 δ (.str x) δ1)(n:bN X CL b e2 δ1 d δ2)(hd:L3.uZ d=some (l.map .str))(hm:behindInMarks .In e2=false) :
  kQ X CL b (.Compare e1 [.In] [e2] pos) δ (decide (x∈l)) δ2/\bw X CL b (.Compare e1 [.In] [e2] pos) δ (.sh (.bl (decide (x∈l)))) δ2:=by
 constructor
 .intro H Z U ts vs Q S k;refine pR (nk ny bX bX hm) (h1 H Z U ts vs _ S λv1 H1 Z1 f k1 m a=>n H1 Z1 U ts vs _ m λv2 H2 Z2 c k2 j h=>?_);obtain⟨p,us,rfl,i,g⟩:=aY.uZ h hd;have e:=g.strs;subst e;refine#[_,_,rfl,i,by rw[a.sc rfl];rfl,eG l,_,rfl,?_];rw[a.sc rfl,kW];exact k H2 Z2 (f.trans c) (k1.trans k2) j
 .intro H Z U ts vs Q S k;refine bH (nj ny bX bX hm) (h1 H Z U ts vs _ S λv1 H1 Z1 f k1 m a=>n H1 Z1 U ts vs _ m λv2 H2 Z2 c k2 j h=>?_);obtain⟨p,us,rfl,i,g⟩:=aY.uZ h hd;have e:=g.strs;subst e;refine#[_,_,rfl,i,by rw[a.sc rfl];rfl,eG l,?_];rw[a.sc rfl,kW];exact k _ H2 Z2 (f.trans c) (k1.trans k2) (j.push (.bl _))
def p8(h1:bN X CL b e1 δ (.str x) δ1)(n:bN X CL b e2 δ1 d δ2)(hd:L3.uZ d=some (l.map .str))(hm:behindInMarks .NotIn e2=false) :
  kQ X CL b (.Compare e1 [.NotIn] [e2] pos) δ (!decide (x∈l)) δ2/\bw X CL b (.Compare e1 [.NotIn] [e2] pos) δ (.sh (.bl (!decide (x∈l)))) δ2:=by
 constructor
 .intro H Z U ts vs Q S k;refine pR (nk iX bX bX hm) (h1 H Z U ts vs _ S λv1 H1 Z1 f k1 m a=>n H1 Z1 U ts vs _ m λv2 H2 Z2 c k2 j h=>?_);obtain⟨p,us,rfl,i,g⟩:=aY.uZ h hd;have e:=g.strs;subst e;refine#[_,_,rfl,i,by rw[a.sc rfl];rfl,eG l,_,rfl,?_];rw[a.sc rfl,kW];exact k H2 Z2 (f.trans c) (k1.trans k2) j
 .intro H Z U ts vs Q S k;refine bH (nj iX bX bX hm) (h1 H Z U ts vs _ S λv1 H1 Z1 f k1 m a=>n H1 Z1 U ts vs _ m λv2 H2 Z2 c k2 j h=>?_);obtain⟨p,us,rfl,i,g⟩:=aY.uZ h hd;have e:=g.strs;subst e;refine#[_,_,rfl,i,by rw[a.sc rfl];rfl,eG l,?_];rw[a.sc rfl,kW];exact k _ H2 Z2 (f.trans c) (k1.trans k2) (j.push (.bl _))
variable{ds:BB}
def bV:Ek X CL b [] δ (([]:BB).map T.sh) δ:=dX
def ay(h1:bw X CL b e δ (.sh d) δ1)(c:Ek X CL b es δ1 (ds.map T.sh) δ2)(a:AC X e es:=by exact aT rfl):Ek X CL b (e::es) δ ((d::ds).map T.sh) δ2:=bF h1 c a
theorem dz(h:Ek X CL b es δ (ds.map T.sh) δ1)(a:ds.length<=sizeLine):bw X CL b (.List es pos) δ (.lst (ds.map T.sh)) δ1:=g6 h WF
def ji(l:AT):D.bP (l.map L3.D.str)=true:=b9 (λ_=>rfl) _
def Ii(h:bw X CL b e δ (.lst (ds.map T.sh)) δ1):bw X CL b e δ (.sh (.lst ds)) δ1:=by
 have:=zQ h
 rwa [T.d7,iC]at this
noncomputable def f9(h:bw X CL b e δ t δ1)(q:t.d7=d):bw X CL b e δ (.sh d) δ1:=q▸zQ h
noncomputable def Yl{d2:L3.D}(h:bN X CL b e δ d δ1)(q:d=d2):bN X CL b e δ d2 δ1:=q▸h
noncomputable def aE{t2:T}(h:bw X CL b e δ t δ1)(q:t=t2):bw X CL b e δ t2 δ1:=q▸h
structure Cu(Z H Z' H':Hp):Prop where
 z:aB Z Z'
 h:aB H H'
 zh:aB Z' H'
 new:∀a o,Z' a=some o->Z a=none->H a=none
 tp:∀a o,H' a=some o->gF o=true->Z' a=some o
theorem Cu.refl(zh:aB Z H)(tp:∀a o,H a=some o->gF o=true->Z a=some o):Cu Z H Z H:=#[.refl _,.refl _,zh,λa o q z=>WI,tp]
theorem Cu.tup(zh:aB Z H)(tp:∀a o,H a=some o->gF o=true->Z a=some o)(hp:H p=none):Cu Z H (upd Z p (.tup xs)) (upd H p (.tup xs)):=by
 have b:=zh.free hp;refine#[aB.upd b,aB.upd hp,λa o q=>?_,λa o q z=>?_,λa o q i=>?_]
 .by_cases e:a=p
  .subst e;rw[aJ]at q ⊢;exact q
  .rw[az e]at q ⊢;exact zh a o q
 .by_cases e:a=p
  .subst e;exact hp
  .rw[az e,z]at q;cases q
 .by_cases e:a=p
  .subst e;rw[aJ]at q ⊢;exact q
  .rw[az e]at q ⊢;exact tp a o q i
theorem bz.grow(S:bz K CL b H Z δ U ts vs)(g:Cu Z H Z' H'):bz K CL b H' Z' δ U ts vs:=by
 obtain⟨fp,gp,e,r,nd,k⟩:=S.rep;have old:=λa c=>(eg.1 c).elim (e.there a) (r.there a);have keep:∀a∈fp++gp,H' a=H a:=λa c=>by
  obtain⟨o,q⟩:=old a c;rw[q];exact g.h a o q
 refine#[#[fp,gp,e.mono g.z (λa c=>keep a (ft _ c)),r.mono g.z (λa c=>keep a (eL _ c)),nd,λa c=>#[?_,(k a c).2]],S.bh.trans g.h,S.zz.trans g.z,g.zh,λa o q z=>?_,g.tp,S.tab]
 .cases q:Z' a with
  | none=>rfl
  | some o=>
   obtain⟨u,d⟩:=old a c;rw[g.new a o q (k a c).1]at d;cases d
 .cases e2:Z a with
  | none=>exact S.bh.free (g.new a o q e2)
  | some u=>
   have:=g.z a u e2;rw[q]at this;cases this;exact S.new a o e2 z
def Ij(δ:Ap):Cc->BB->Ap
 | i::is,d::ds=>Ij (δ.set i (some (.sh d))) is ds
 | _,_=>δ
noncomputable def u9(U:L2.St):Cc->BS->L2.St
 | i::is,v::vs=>u9 (U.set i (some v)) is vs
 | _,_=>U
theorem bz.sets{ps:BB}{ys:BS}:∀{is:Cc} {δ:Ap} {U:L2.St},bz K CL b H Z δ U ts vs->aD K CL Z ps ys->(∀i∈is,i<δ.length)->bz K CL b H Z (Ij δ is ps) (u9 U is ys) ts vs:=by
 intro is
 induction is generalizing ps ys with
 | nil=>
  intro δ U S r _;cases ps<;>cases ys<;>exact S
 | cons i is d=>
  intro δ U S r a;cases r with
  | nil=>exact S
  | cons r c=>exact d ((S.push r).set (a i d6)) c (λj e=>by rw[nT];exact a j (ee _ e))
section
variable{tg:Expr}{ds:BB}
structure Pu(X:Cx)(CL:BC)(b:Bx)(δ1:Ap)(U:L2.St)(ts:Bn)(vs:BS)(Z H:Hp)(ds:BB)(J:It)(H1:Hp):Prop where
 ex:∃Z1,aB Z Z1/\aB H H1/\bz X.K CL b H1 Z1 δ1 U ts vs/\(∀i H2,aB Z1 H2->i<ds.length->J.go i H2) ∧
  (∀i Z2 H2 x H',aB Z1 Z2->aB Z2 H2->(∀a o,H2 a=some o->gF o=true->Z2 a=some o)->i<ds.length->J.X8 i H2 x H'->∃Z3 d,ds[i]? = some d/\Cu Z2 H2 Z3 H'/\aY X.K CL Z3 d x)/\(∀H2,aB Z1 H2->J.stop ds.length H2)
def NS(X:Cx)(CL:BC)(b:Bx)(tg e:Expr)(δ:Ap)(ds:BB)(δ1:Ap):Prop:=
 ∃a,PI X tg e a/\∀(H Z:Hp) (U:L2.St) (ts:Bn) (vs:BS) (R:It->Hp->Prop),bz X.K CL b H Z δ U ts vs->(∀J H1,Pu X CL b δ1 U ts vs Z H ds J H1->R J H1)->a U H R
def Cv(h:NR X CL b tg iter δ ds δ1):NS X CL b tg iter δ ds δ1:=by
 obtain⟨f,pi,hw⟩:=h;refine#[f,pi,λH Z U ts vs R S k=>hw H Z U ts vs R S λJ H1 zz=>?_];obtain⟨Z1,us,a,k1,n,g,go,c,st⟩:=zz;refine k J H1 #[Z1,a,k1,n,go,λi Z2 H2 x H' s1 s2 tp hi l=>?_,st];obtain⟨e,m⟩:=c i H2 x H' (s1.trans s2) hi l;subst e;obtain⟨d,hd,j⟩:=g.xf m;exact#[Z2,d,hd,.refl s2 tp,j.mono s1]
def nZ(X:Cx)(CL:BC)(tg:Expr)(is:Cc)(parts:D->Option BB):Prop:=
 ∃t:TG,PG X tg t/\∀(Z H:Hp) (d:D) (ps:BB) (x:V) (U:L2.St) (Q:L2.St->Hp->Prop),aB Z H->aY X.K CL Z d x->parts d=some ps->(∀ys,aD X.K CL Z ps ys->Q (u9 U is ys) H)->t x U H Q
def part1(d:D):Option BB:=some [d]
noncomputable def part2:D->Option BB
 | .tup [a,c]=>some [a,c]
 | _=>none
theorem KQ{d:D}{ps:BB}(h:part2 d=some ps):∃d1 d2,d=.tup [d1,d2]/\ps=[d1,d2]:=by
 cases d with
 | tup ds=>
  obtain _|⟨a,_|⟨c,_|⟨e,l⟩⟩⟩:=ds
  .cases h
  .cases h
  .cases h;exact#[_,_,rfl,rfl]
  .cases h
 | _=>cases h
theorem E3{d:D}{ps:BB}{x:V}{Q:L2.St->Hp->Prop}(zh:aB Z H)(r:aY K CL Z d x)(e:part2 d=some ps)(k:∀ys,aD K CL Z ps ys->Q (u9 U [i,j] ys) H):Dj K 2 (N9 (Hy i) (N9 (Hy j) Em)) x U H Q:=by
 obtain⟨d1,d2,rfl,rfl⟩:=KQ e;obtain⟨_,_,rfl,f,a⟩:=r.pQ;cases a with
 | cons c a=>
  cases a with
  | cons b a=>
   cases a;exact#[_,_,rfl,aB.OW zh f,rfl,_,_,rfl,_,_,rfl,rfl,k _ (.cons c (.cons b .nil))]
def vd{px:Pos}(a:X.N.Nodup)(n:Ln X i x):nZ X CL (.Name x px) [i] part1:=
 #[ _,uf a n.hi n.loc n.hf,λZ H d ps x U Q zh r e k=>by
  cases e;exact k [x] (.cons r .nil)]
def p9{y:Str}{px py pt:Pos}(a:X.N.Nodup)(h:X.calm=true)(n:Ln X i x)(m:Ln X j y)(f:(assignEach [.Name x px,.Name y py] X.env).map (·.2)=assign (.Name x px) X.env::(assignEach [.Name y py] X.env).map (·.2):=by rfl)(b:(assignEach [.Name y py] X.env).map (·.2)=assign (.Name y py) X.env::(assignEach [] X.env).map (·.2):=by rfl)
  (g:(assignEach [.Name x px,.Name y py] X.env).length=2:=by rfl) (c:(assignEach [.Name x px,.Name y py] X.env).findIdx? (·.1)=none:=by rfl):nZ X CL (.Tuple [.Name x px,.Name y py] k pt) [i,j] part2:=
 #[ _,ZJ h (BZ (uf a n.hi n.loc n.hf) (BZ (uf a m.hi m.loc m.hf) UE b) f) g c,λZ H d ps x U Q zh r e k=>E3 zh r e k]
theorem Vq{D:cy}(is:Cc)(parts:L3.D->Option BB)(P:Nat->Ap->Prop)(h:NS X CL b tg iter δ ds δ1)(l:nZ X CL tg is parts)(h0:P 0 δ1)(G:∀j δ,P j δ->∀i∈is,i<δ.length)
  (C:∀j d δ,ds[j]? = some d->P j δ->∃ps,parts d=some ps/\cg X CL b cZ (Ij δ is ps) {nx:=P (j+1),rt:=D.rt,bk:=D.nx,ct:=P (j+1)}) (hd:∀δ,P ds.length δ->D.nx δ)
  (hp:PassesOwn (model X.prog X.w) X.A X.env X.xe) (I:X.calm=true) (F:AN X iter:=by intro _;rfl) :
  O2 X CL b (.For tg iter cZ [] pos) δ D:=λH Z U ts vs E S M=>by
 obtain⟨R,pi,hw⟩:=h;obtain⟨t,pg,l⟩:=l;refine nQ (ZO hp I pi pg NQ F) (hw H Z U ts vs _ S λJ H1 zz=>?_);obtain⟨Z1,f,k1,O,go,u,st⟩:=zz;refine#[λj m U H2=>m=ds.length-j/\j<=ds.length/\∃Z2 δ2,aB Z1 Z2/\bz X.K CL b H2 Z2 δ2 U ts vs/\P j δ2,#[_,rfl,fc _,Z1,δ1,.refl _,O,h0],?_];rintro j m U H2 ⟨rfl,T,Z2,δ2,s,c,p2⟩;by_cases p:j<ds.length
 .refine .inr #[go j H2 (s.trans c.zh) p,_,λU' H' h=>#[ _,Wl,rfl,p,h],λy H' B=>?_];obtain⟨Z3,d,o,q,x⟩:=u j Z2 H2 y H' s c.zh c.tp p B;obtain⟨ps,n,L⟩:=C j d δ2 o p2;have r:=c.grow q;refine l Z3 H' d ps y U _ r.zh x n λys g=>?_;have N:=r.sets g (G j δ2 p2);have s3:=s.trans q.z;exact L _ Z3 _ ts vs _ N #[λδ' U' H' Z' s' a k=>#[Z',δ',s3.trans s',a,k],λt v H' Z' δ' U' s' a k=>M.rt t v H' Z' δ' U' (f.trans (s3.trans s')) a k,λδ' U' H' Z' s' a k=>M.nx δ' U' H' Z' (f.trans (s3.trans s')) a k,λδ' U' H' Z' s' a k=>#[Z',δ',s3.trans s',a,k]]
 .have e:j=ds.length:=by lia
  subst e;exact .inl #[st H2 (s.trans c.zh),M.nx δ2 U H2 Z2 (f.trans s) c (hd δ2 p2)]
def rJ{D:cy}{is:Cc}{parts:L3.D->Option BB}(g:Gx X)(a:nZ X CL tg is parts)(P:Nat->Ap->Prop)(h:NS X CL b tg iter δ ds δ1)(h0:P 0 δ1)(f:∀j δ,P j δ->∀i∈is,i<δ.length)
  (c:∀j d δ,ds[j]? = some d->P j δ->∃ps,parts d=some ps/\cg X CL b body (Ij δ is ps) {nx:=P (j+1),rt:=D.rt,bk:=λδ2=>cg X CL b cZ δ2 D,ct:=P (j+1)}) (hd:∀δ,P ds.length δ->cg X CL b cZ δ D) (e:AN X iter:=by intro _;rfl) :
  cg X CL b (.For tg iter body [] pos::cZ) δ D:=
 bG (Vq is _ P h a h0 f c hd g.xe g.calm e)
def iG{D:cy}{pos':Pos}(g:Gx X)(n:Ln X i x)(P:Nat->Ap->Prop)(h:NR X CL b (.Name x pos') iter δ ds δ1)(h0:P 0 δ1)(e:∀j δ,P j δ->i<δ.length)
  (a:∀j d δ,ds[j]? = some d->P j δ->cg X CL b body (δ.set i (some (.sh d))) {nx:=P (j+1),rt:=D.rt,bk:=λδ2=>cg X CL b cZ δ2 D,ct:=P (j+1)}) (hd:∀δ,P ds.length δ->cg X CL b cZ δ D) (c:AN X iter:=by intro _;rfl) :
  cg X CL b (.For (.Name x pos') iter body [] pos::cZ) δ D:=
 rJ g (vd g.nd n) P (Cv h) h0 (λj δ hp k f=>eC.1 f▸e j δ hp) (λj d δ l hp=>#[_,rfl,a j d δ l hp]) hd c
end
structure iP(X:Cx)(scope:Scope)(xs:AT)(Nc:AT)(ix:Cc):Prop where
 kind:scope.kind=.function
 zX:∀y∈scope.names,y.2 ≠ .cell
 nd:Nc.Nodup
 names:∀y∈scope.names,y.2=.local->scope.names.lookup y.1=some .local
 own:∀x∈xs,scope.names.lookup x=some .local
 frees:∀y∈scope.names,y.2=.free->scope.names.lookup y.1=some .free/\(X.env.kindOf y.1=some .cell\/X.env.kindOf y.1=some .free)
 hd:Nc=xs++ix.filterMap (X.N[·]?)
 oC:∀i∈ix,∃y,X.N[i]? = some y/\scope.names.lookup y=some .free
noncomputable def KR(U:L2.St)(ix:Cc)(os:List (Option V)):L2.St:=os++ix.map λi=>(U[i]?).getD none
variable{xs:AT}
theorem Cy(sc:iP X scope xs Nc ix)(I:Inv X pins U H s)(A:∀b∈fp,mq X pins H b/\b<s.heap.objs.size){h':Heap}{m:BM}{tk:Nat}
  (hn:h'.Ns s.heap.objs.size m) (d:∀b o,s.heap.get? b=some o->h'.get? b=some o) :
  Inv (aR X scope Nc s.heap.objs.size s H fp) [] (KR U ix (List.replicate xs.length none)) H {s with heap:=h',toks:=tk}:=by
 have frees:∀y∈scope.names,y.2=.free->∃c,X.env.cells.lookup y.1=some c:=λy K e=>I.ok.has y.1 (sc.frees y K e).2;have sub:∀{y:Str} {c:Addr},(fC X.env scope.names []).lookup y=some c->X.env.cells.lookup y=some c:=λ{y c} e=>oO frees (λ_ _ z=>by cases z) e;have hlen:(KR U ix (List.replicate xs.length none)).length=Nc.length:=by
  have all:∀l:Cc,(∀i∈l,∃y,X.N[i]? = some y/\scope.names.lookup y=some .free)->(l.filterMap (X.N[·]?)).length=l.length:=by
   intro l
   induction l with
   | nil=>intro _;rfl
   | cons i r J=>
    intro h;obtain⟨y,e,_⟩:=h i d6;rw[i2,e];show _+1=_+1;rw[J λj D=>h j (ee _ D)]
  unfold KR;rw[sc.hd,fv,fv,d4,iw,all ix sc.oC]
 have C0:s.heap.get? s.heap.objs.size=none:=tj (ea _);refine#[#[I.ok.mod,sc.kind,I.ok.glob,I.ok.blt,ea _,λy z c h1 f=>I.ok.inj y z c (sub h1) (sub f),λy K=>?_,λy c hf _=>(by cases (show false=true from hf)),I.ok.hd,I.ok.frames,.inl rfl,λb t=>#[gh (A b t).2,λy c e=>(A b t).1.2.2.2.2.1 y c (sub e)],I.bs,er I.ok.N6 I.sz,λb o e t=>?_,λb t hf=>?_,I.stack,I.pJ],
  rfl,I.bare,Un.kept d,#[m,hn,λi y v h1 f h3=>?_],λy c e=>?_,I.bO.fresh (ea _),λy c e=>I.iU y c (sub e),λp hp=>absurd (show p∈([]:At) from hp) WE,I.bO.kept d,hlen]
 .
  have C:(relabel scope X.env).names.lookup y=some .cell\/(relabel scope X.env).names.lookup y=some .free:=K;cases e:scope.names.lookup y with
  | none=>
   have:=iV (env:=X.env) e;obtain q|q:=C<;>(rw[show(relabel scope X.env).names.lookup y=none from this]at q;cases q)
  | some k=>
   have q:=fE (env:=X.env) e;have d:k=.free:=by
    by_cases d:k=.free
    .exact d
    .have t:(k==NameKind.free)=false:=by simpa using d
     rw[cq (by rw[t];simp)]at q;have Y:k ≠ .cell:=λz=>by
      subst z;exact sc.zX _ (kS e) rfl
     obtain z|z:=C
     .rw[show(relabel scope X.env).names.lookup y=some k from q]at z;exact absurd (e5 z) Y
     .rw[show(relabel scope X.env).names.lookup y=some k from q]at z;exact absurd (e5 z) d
   subst d;exact oQ e
 .
  rcases(A b t).1.2.2.2.1 with z|z
  .exact I.ok.Eu b o e z
  .exact absurd (hz (e4 e) (er I.ok.N6 z)) (m4 _)
 .obtain z|z:=d3.1 (I.uG b hf)
  .exact(A b t).1.2.1 z
  .exact(A b t).1.2.2.1 z
 .
  unfold KR at f;by_cases hi:i<xs.length
  .rw[lj (by rw[iw];exact hi),List.getElem?_replicate,di hi]at f;cases f
  .obtain⟨n,rfl⟩:∃n,i=xs.length+n:=#[i-xs.length,Wl];rw[i5 (by rw[iw];lia),iw,wo,fT]at f;cases G:ix[n]? with
   | none=>rw[G]at f;cases f
   | some j=>
    rw[G]at f;have w:(U[j]?).getD none=some v:=e5 f;have D:U[j]? = some (some v):=by
     cases q:U[j]? with
     | none=>rw[q]at w;cases w
     | some o=>rw[q]at w;exact congrArg some w
    obtain⟨g,B,x⟩:=sc.oC j (fw G);have O:Nc[xs.length+n]? = some g:=by
     have all:∀(l:Cc) (i:Nat),(∀j∈l,∃y,X.N[j]? = some y/\scope.names.lookup y=some .free)->l[i]? = some j->(l.filterMap (X.N[·]?))[i]? = some g:=by
      intro l
      induction l with
      | nil=>intro i _ h;simp at h
      | cons a r J=>
       intro i h hi;obtain⟨ya,P,_⟩:=h a d6;rw[i2,P];cases i with
       | zero=>
        simp at hi;subst hi;rw[B]at P;cases P;rfl
       | succ i=>exact J i (λj D=>h j (List.mem_cons_of_mem _ D)) (by simpa using hi)
     rw[sc.hd,i5 Wl,wo];exact all ix n sc.oC G
    have ey:g=y:=by
     have F:Nc[xs.length+n]? = some y:=h1;rw[O]at F;exact e5 F
    subst ey;have T:=(sc.frees (g,.free) (kS x) rfl).2;have R:N5 X.env.scope g:=T.elim (λz=>.inr (.inl z)) (λz=>.inr (.inr z));obtain⟨m0,Z,M⟩:=I.loc;obtain⟨u,W,lk⟩:=M j g v B D R;refine#[u,W,?_];obtain⟨kk,_⟩|⟨_,c,hc,V⟩:=lk
    .obtain z|z:=T
     .rw[kk]at z;cases z
     .rw[kk]at z;cases z
    .obtain⟨S,E⟩:=oQ (env:=X.env) (cs:=[]) x;have:S=c:=by
      have:=sub E;rw[hc]at this;exact(e5 this).symm
     subst this;obtain⟨o,L,hd⟩:=V;refine .inr #[?_,S,E,o,d _ _ L,hd];have q:=fE (env:=X.env) x;show(relabel scope X.env).names.lookup g=some .cell\/(relabel scope X.env).names.lookup g=some .free;rw[show(relabel scope X.env).names.lookup g=_ from q];split
     .exact .inl rfl
     .exact .inr rfl
 .obtain⟨v,o,L,hd⟩:=I.cell y c (sub e);exact#[v,o,d _ _ L,hd]
def Pw(X:Cx)(tg elt:Expr)(ifs:CC)(n:Nat)(U:L2.St)(ix:Cc)(D:Addr)(N:Hp->Prop)(e:V)(os:List (Option V))(g:Hp):Prop:=
 ∃t:TG,PG X tg t/\t e (KR U ix os) g λa f=>∃b,b.length=n/\a=KR U ix b/\xa X ifs a f λok d=>
  if ok=true then xO X elt a d λy c=>∃acc,c D=some (.lst acc)/\acc.length<sizeLine/\N (upd c D (.lst (acc++[y]))) else N d
variable{tg:Expr}
def E4{J:It}{it:Addr}{tn:Nat->Heap->Prop}{G:Addr->Hp->Prop}{RR:Value->Addr->Result->Shared->Prop}{E:BA}(f:Cx->Value->Shared->Prop)
  (sc:iP X scope xs Nc ix) (hc:X.calm=true) (I:Inv X pins U H s) (l:Turn X.prog X.w X.K tg J fp it tn) (st:tn 0 s.heap) (hf:∀b∈fp,mq X pins H b)
  (loop:∀D,H D=none->∃W:Nat->Nat->Hp->Prop,(∃m,W 0 m (upd H D (.lst [])))/\∀i m H2,W i m H2->(J.stop i H2/\G D H2) ∨
   (J.go i H2/\∃N:Hp->Prop,(∀H',N H'->∃m',m'<m/\W (i+1) m' H')/\∀P O,J.X8 i H2 P O->∀C s0 H0 f0 os,os.length=xs.length->Pw ((aR X scope Nc C s0 H0 f0).d0 (f (aR X scope Nc C s0 H0 f0))) tg elt ifs xs.length U ix D N P os O))
  (ax:∀D C s' H',(∃m,s'.heap.Ns C m)->(∃o,s'.heap.get? C=some o/\∀v,o.data ≠ .cell v)->H' C=none->(C≠X.env.locals/\C∉X.fs/\X.eh.heap.objs.size<=C/\(∀y c,X.env.cells.lookup y=some c->c≠C)/\∀q∈X.pn++pins,q.1≠C)->(∀h',Heap.SameBut C s'.heap h'->Inv X pins U H' {s' with heap:=h'})->G D H'->RR (.ref D) C (.ok .next) s')
  (hex:∀D s3 O ev s',Inv X pins U O s3->(∀b∈fp,mq X pins O b)->f (aR X scope Nc s3.heap.objs.size s3 O fp) ev s'->notedBy (model X.prog X.w) X.A (compEnvC scope (fC X.env scope.names []) s3.heap.objs.size X.env) (λx Ou=>RR (.ref D) s3.heap.objs.size (.error x) Ou) ev s') :
  wpAny (model X.prog X.w) X.A (newList []) (λacc S=>wpAny (model X.prog X.w) X.A (newFunctionEnv scope X.env.globals (fC X.env scope.names []) [] X.env.qual none .none (some X.env)) (λKS R=>
   codeAny (model X.prog X.w) X.A (.compStart (.ListComp elt [#[tg,iter,ifs,0]] scope pos) 0 (.ref it) acc {KS with scope:=relabel scope X.env}) (RR acc KS.locals) R) E S) E s:=by
 refine wpAny_newObj_type ?_;have L:Inv X pins U (upd H s.heap.objs.size (.lst [])) {s with heap:=s.heap.push {cls:=.type "list",dict:=none,data:=.seq ([]:B0).toArray}}:=
  I.laid (t':=s.toks) (λb u e=>ff _ e) (ea _) #[by show 0<=sizeLine;exact fc _,[],0,.nil,hE _ rfl]
 have hD:H s.heap.objs.size=none:=I.bO.fresh (ea _);obtain⟨W,⟨m0,w0⟩,turn⟩:=loop _ hD;have M:∀b∈fp,mq X pins (upd H s.heap.objs.size (.lst [])) b/\b<(s.heap.push {cls:=.type "list",dict:=none,data:=.seq ([]:B0).toArray}).objs.size:=λb a=>by
  obtain⟨f0,f1⟩:=hf b a;obtain⟨o,ho,_⟩:=l.obj 0 _ st b a;have Cw:=e4 ho;refine#[#[by rw[az (gh Cw)];exact f0,f1],?_];rw[Heap.size_push];exact Nat.lt_succ_of_lt Cw
 have Y:tn 0 (s.heap.push {cls:=.type "list",dict:=none,data:=.seq ([]:B0).toArray}):=l.keep 0 _ _ st λb _ o e=>ff _ e;generalize ar:({s with heap:=s.heap.push {cls:=.type "list",dict:=none,data:=.seq ([]:B0).toArray}}:Shared)=s3 at L ⊢;have Ym:s3.heap=s.heap.push {cls:=.type "list",dict:=none,data:=.seq ([]:B0).toArray}:=by rw[<- ar]
 rw[<- Ym]at M Y;refine wpAny_newFunctionEnv sc.zX (by intro y hy;simp at hy) (λj bg bc=>?_) sc.kind;have old:∀b o,s3.heap.get? b=some o->j.get? b=some o:=λb o e=>(bc.2 b (gh (e4 e))).trans (ff _ e);have J0:=(Cy (tk:=s3.toks+([]:Da).length) sc L M bg old).d0 (f (aR X scope Nc s3.heap.objs.size s3 (upd H s.heap.objs.size (.lst [])) fp));have V:tn 0 j:=l.keep 0 _ _ Y λb _ o e=>old b o e;have Yn:∀s4:Shared,s4={s3 with heap:=j,toks:=s3.toks+([]:Da).length}->codeAny (model X.prog X.w) X.A (.compLoop (.ListComp elt [#[tg,iter,ifs,0]] scope pos) 0 (.ref it) (.ref s.heap.objs.size) (compEnvC scope (fC X.env scope.names []) s3.heap.objs.size X.env)) (RR (.ref s.heap.objs.size) s3.heap.objs.size) s4:=by
  rintro s4 rfl;have h:∀{H':Hp},(∀b∈fp,H' b=none)->∀b∈fp,mq ((aR X scope Nc s3.heap.objs.size s3 (upd H s.heap.objs.size (.lst [])) fp).d0 (f (aR X scope Nc s3.heap.objs.size s3 (upd H s.heap.objs.size (.lst [])) fp))) [] H' b:=λ{H'} hn b a=>by
   obtain⟨⟨f0,f1,f2,f3,f4,f5⟩,Cw⟩:=M b a;refine#[hn b a,gh Cw,λz=>?_,.inl a,λy c e=>f4 y c (oO (λy hy e=>I.ok.has y.1 (sc.frees y hy e).2) (λ_ _ z=>by cases z) e),λp hp=>absurd (show p∈([]:At) from hp) WE];obtain q|q:=d3.1 (L.uG b z)
   .exact f1 q
   .exact f2 q
  refine zW (E:=f (aR X scope Nc s3.heap.objs.size s3 (upd H s.heap.objs.size (.lst [])) fp)) (ex:=λev s' z=>hex _ s3 _ ev s' L (λb a=>(M b a).1) z) (λn s'=>∃i o H',o.length=xs.length/\Inv ((aR X scope Nc s3.heap.objs.size s3 (upd H s.heap.objs.size (.lst [])) fp).d0 (f (aR X scope Nc s3.heap.objs.size s3 (upd H s.heap.objs.size (.lst [])) fp))) [] (KR U ix o) H' s'/\tn i s'.heap/\(∀b∈fp,H' b=none)/\W i n H') ?_ m0 #[0,_,_,iw,J0,V,λb a=>(M b a).1.1,w0];rintro n s5 ⟨i,o5,H5,ag,I5,T,ae,w5⟩;obtain⟨stop,g⟩|⟨go,N,hN,step⟩:=turn i n H5 w5
  .refine cJ (l.done ((aR X scope Nc s3.heap.objs.size s3 (upd H s.heap.objs.size (.lst [])) fp).d0 (f (aR X scope Nc s3.heap.objs.size s3 (upd H s.heap.objs.size (.lst [])) fp))) rfl rfl rfl hc i [] s5 _ H5 _ I5 (h ae) T stop) λr s6 zz=>?_;obtain⟨hr,I6⟩:=zz;subst hr;obtain⟨m6,aa,_⟩:=I6.loc;obtain⟨oc,bp,bq,X6,aw,_⟩:=id aa;have k:=L.xK (ea s3.heap.objs.size) (H':=λ_=>none) rfl;refine ax _ _ s6 H5 #[m6,aa] #[oc,X6,λv z=>by rw[aw]at z;cases z] I6.free #[k.2.1,k.2.2.1,?_,k.2.2.2.2.1,k.2.2.2.2.2] (λh' Px=>yE L (λb a=>(M b a).1) I6.c6 Px) g;exact L.sz
  .refine cJ (l.item ((aR X scope Nc s3.heap.objs.size s3 (upd H s.heap.objs.size (.lst [])) fp).d0 (f (aR X scope Nc s3.heap.objs.size s3 (upd H s.heap.objs.size (.lst [])) fp))) rfl rfl rfl hc i [] s5 _ H5 _ I5 (h ae) T go) λr s6 zz=>?_;obtain⟨u,hr,h6⟩:=zz;subst hr;refine cJ h6 λ_ s7 zz=>?_;obtain⟨P,H7,I7,r7,y7,F,a0⟩:=zz;have bj:=I7.pinned (h a0) (l.obj _ _ F);obtain⟨t,hg,ht⟩:=step P _ y7 s3.heap.objs.size s3 (upd H s.heap.objs.size (.lst [])) fp o5 ag;refine cJ (hg _ s7 _ H7 P u _ bj r7 ht) λ_ s8 zz=>?_;obtain⟨bo,H8,I8,Z,af,e8,h8⟩:=zz;subst e8;refine cJ (O8 I8 h8) λok s9 zz=>?_;obtain⟨H9,I9,q9⟩:=zz;have again:∀{B:Hp} {sa:Shared},Inv ((aR X scope Nc s3.heap.objs.size s3 (upd H s.heap.objs.size (.lst [])) fp).d0 (f (aR X scope Nc s3.heap.objs.size s3 (upd H s.heap.objs.size (.lst [])) fp))) ([]++uI fp s7.heap) (KR U ix Z) B sa->N B->∃m,m<n/\∃i o H',o.length=xs.length/\Inv ((aR X scope Nc s3.heap.objs.size s3 (upd H s.heap.objs.size (.lst [])) fp).d0 (f (aR X scope Nc s3.heap.objs.size s3 (upd H s.heap.objs.size (.lst [])) fp))) [] (KR U ix o) H' sa/\tn i sa.heap/\(∀b∈fp,H' b=none)/\W i m H':=λ{B sa} Ia na=>by
    obtain⟨m',hm,wa⟩:=hN B na;refine#[m',hm,i+1,Z,B,af,Ia.pN,l.keep _ _ _ F λb a o e=>(Ia.pin (b,o) (eL _ (eL _ (kR a e)))).1,λb a=>?_,wa];obtain⟨o,e,d⟩:=l.obj _ _ F b a;exact(Ia.pin (b,o) (eL _ (eL _ (kR a e)))).2.1
   cases ok with
   | false=>
    rw[cq fg]at q9 ⊢;exact again I9 q9
   | true=>
    rw[di rfl]at q9 ⊢;refine cJ (q9 _ s9 I9) λv sa zz=>?_;obtain⟨y,B,Ia,ra,acc,ba,hlen,na⟩:=zz;refine cJ (rE (X:=(aR X scope Nc s3.heap.objs.size s3 (upd H s.heap.objs.size (.lst [])) fp).d0 (f (aR X scope Nc s3.heap.objs.size s3 (upd H s.heap.objs.size (.lst [])) fp))) _ sa _ B (.ref s.heap.objs.size) [y] (.ref s.heap.objs.size) [v] (λ_ Hb=>Hb=upd B s.heap.objs.size (.lst (acc++[y]))) Ia rfl (.cons ra .nil) #[_,acc,y,rfl,rfl,ba,hlen,rfl]) λ_ sb zz=>?_;obtain⟨_,Hb,Ib,_,eb⟩:=zz;subst eb;exact again Ib na
 exact codeAny_compStart_list (Yn _ rfl) (l.self _ 0 _ _ _ V (Yn _ rfl))
def z9(ps:BB):Ap:=ps.map λp=>some (.sh p)
theorem yG:∀{ys:BS} {os:List (Option V)} {pre r:L2.St},os.length=ys.length->u9 (pre++(os++r)) (List.range' pre.length ys.length) ys=pre++(ys.map some++r)
 | [],os,pre,r,h=>by
  have:=t5.1 h;subst this;rfl
 | y::ys,os,pre,r,h=>by
  match os,h with
  | o::os,h=>
   show u9 _ _ ys=_;have:=yG (pre:=pre++[some y]) (r:=r) (by simpa using h);simp_all
def Vr:∀{ps:BB} {ys:BS} {δc:Ap} {a:L2.St},aD K CL Z ps ys->dU K CL H Z δc a []->dU K CL H Z (z9 ps++δc) (ys.map some++a) []:=λ{ps ys δc a} h e=>
 aD.ind (P:=λps ys=>dU K CL H Z (z9 ps++δc) (ys.map some++a) []) e (λr _ i=>.cons (.sh r) i) h
section
variable{W1:Hp}{δc:Ap}{J:It}{ds:BB}{p:D->Bool}{g:D->T}{parts:D->Option BB}
def iY(X:Cx)(CL:BC)(scope:Scope)(Nc:AT)(n:Nat)(tg:Expr)(parts:D->Option BB)(ifs:CC)(elt:Expr)(δc:Ap)(ds:BB)(p:D->Bool)(q:D->T->Prop)(b:Cx->Value->Shared->Prop:=λ_ _ _=>False)(gd:D->Bx->Prop:=λ_ _=>True):Prop:=
 ∀C s0 a f0 c,nZ ((aR X scope Nc C s0 a f0).d0 (b (aR X scope Nc C s0 a f0))) CL tg (List.range' 0 n) parts/\∀d,d∈ds->gd d c->∃ps,parts d=some ps/\ps.length=n/\n4 ((aR X scope Nc C s0 a f0).d0 (b (aR X scope Nc C s0 a f0))) CL c ifs (z9 ps++δc) (p d)/\(p d=true->uR ((aR X scope Nc C s0 a f0).d0 (b (aR X scope Nc C s0 a f0))) CL c elt (z9 ps++δc) (q d) (z9 ps++δc))
def vf(X:Cx)(CL:BC)(scope:Scope)(Nc:AT)(n:Nat)(tg:Expr)(parts:D->Option BB)(ifs:CC)(elt:Expr)(δc:Ap)(ds:BB)(p:D->Bool)(g:D->T):Prop:=
 ∀C s0 a f0 b,nZ (aR X scope Nc C s0 a f0) CL tg (List.range' 0 n) parts/\∀d,d∈ds->∃ps,parts d=some ps/\ps.length=n/\n4 (aR X scope Nc C s0 a f0) CL b ifs (z9 ps++δc) (p d)/\(p d=true->bw (aR X scope Nc C s0 a f0) CL b elt (z9 ps++δc) (g d) (z9 ps++δc))
theorem vf.q(h:vf X CL scope Nc n tg parts ifs elt δc ds p g):iY X CL scope Nc n tg parts ifs elt δc ds p λd t=>t=g d:=λC s0 b f0 a=>#[(h C s0 b f0 a).1,λd hd _=>by
 obtain⟨ps,h1,i,f,c⟩:=(h C s0 b f0 a).2 d hd;exact#[ps,h1,i,f,λe=>(c e).tq]]
abbrev qa(ds:BB)(p:D->Bool)(q:D->T->Prop)(G:Nat->Bn->Prop):Prop:=∀i d l,ds[i]? = some d->G i l->(p d=false->G (i+1) l)/\(p d=true->∀t,q d t->G (i+1) (l++[t]))
def Yo:qa ds p (λd t=>t=g d) λi l=>l=((ds.take i).filter p).map g:=by
 rintro i d _ hd rfl;dsimp;rw[show ds.take (i+1)=ds.take i++[d] by rw[hZ,hd];rfl,hF,fx];refine#[λe=>?_,λe t z=>?_]
 .rw[hP (by simp[e]),List.filter_nil,List.map_nil,e6]
 .rw[z,lh e];rfl
structure GW(K:Frag)(CL:BC)(H W1:Hp)(D:Addr)(l:Bn)(k:Nat)(H2 Z2:Hp)(El:BS)(fp:BY):Prop where
 a1:aB H H2
 a2:aB W1 Z2
 a3:aB Z2 H2
 a4:Z2 D=none
 a5:∀a o,Z2 a=some o->W1 a=none->H a=none
 a6:∀a o,H2 a=some o->gF o=true->Z2 a=some o
 a7:H2 D=some (.lst El)
 a8:aP K CL H2 Z2 l El fp
 a9:fp.Nodup
 b1:D∉fp
 b2:∀a∈fp,Z2 a=none/\H a=none
 b3:El.length<=k
theorem sS{q:D->T->Prop}{G:Nat->Bn->Prop}{xw:Cx->Value->Shared->Prop}{gd:D->Bx->Prop}(g0:G 0 [])(gs:qa ds p q G)(S:bz X.K CL b H Z δ U ts vs)(zw:aB Z W1)(wh:aB W1 H)(tp:∀a o,H a=some o->gF o=true->W1 a=some o)
  (bg:∀H',dU X.K CL H' W1 δc (ix.map λi=>(U[i]?).getD none) []) (inner:iY X CL scope Nc n tg parts ifs elt δc ds p q xw gd) (bc:∀i d l,ds[i]? = some d->G i l->∀g Z3,aB H g->aB W1 Z3->aB Z3 g->(∀a o,Z3 a=some o->W1 a=none->H a=none)->(∀a o,g a=some o->gF o=true->Z3 a=some o)->gd d #[g,Z3])
  (ba:∀i H2,aB W1 H2->i<ds.length->J.go i H2)
  (hy:∀i Z2 H2 x H',aB W1 Z2->aB Z2 H2->(∀a o,H2 a=some o->gF o=true->Z2 a=some o)->i<ds.length->J.X8 i H2 x H'->∃Z3 d,ds[i]? = some d/\Cu Z2 H2 Z3 H'/\aY X.K CL Z3 d x)
  (kP:∀H2,aB W1 H2->J.stop ds.length H2) (hlen:ds.length<=sizeLine) (c:W1=Z\/∀l,G ds.length l->T.c7 l=true) :
  ∀D,H D=none->∃W:Nat->Nat->Hp->Prop,(∃m,W 0 m (upd H D (.lst [])))/\∀i m H2,W i m H2->(J.stop i H2/\∃Z2 l,G ds.length l/\aB Z Z2/\aB H H2/\bz X.K CL b H2 Z2 δ U (.lst l::ts) (.ref D::vs)) ∨
   (J.go i H2/\∃N:Hp->Prop,(∀H',N H'->∃m',m'<m/\W (i+1) m' H')/\∀xv g,J.X8 i H2 xv g->∀C s0 H0 f0 os,os.length=n->Pw ((aR X scope Nc C s0 H0 f0).d0 (xw (aR X scope Nc C s0 H0 f0))) tg elt ifs n U ix D N xv os g):=by
 intro D hD;have wD:W1 D=none:=wh.free hD;refine#[λi m H2=>m=ds.length-i/\i<=ds.length/\∃Z2 l El fp,G i l/\GW X.K CL H W1 D l i H2 Z2 El fp,#[ds.length,rfl,fc _,W1,[],[],[],g0,aB.upd hD,.refl _,wh.trans (aB.upd hD),wD,λa o q z=>?_,λa o q i=>?_,aJ,.nil,jP,WE,WE,WE],?_]
 .rw[q]at z;cases z
 .by_cases f:a=D
  .subst f;rw[aJ]at q;cases q;cases i
  .rw[az f]at q;exact tp a o q i
 .rintro i m H2 ⟨rfl,hi,Z2,l,El,fp,gl,hh,V,zh,zD,nw,I,A,ra,nd,nD,own,bp⟩;by_cases Cw:i<ds.length
  .refine .inr #[ba i H2 (V.trans zh) Cw,λH'=>∃Z2 l El fp,G (i+1) l/\GW X.K CL H W1 D l (i+1) H' Z2 El fp,λH' h=>#[ds.length-(i+1),Wl,rfl,Cw,h],λxv g y C s0 H0 f0 os a0=>?_];obtain⟨Z3,d,hd,s,rd⟩:=hy i Z2 H2 xv g V zh I Cw y;have P:∀a,Z2 a=none->(∃o,H2 a=some o)->Z3 a=none:=λa e ⟨o,e2⟩=>by
    cases q:Z3 a with
    | none=>rfl
    | some u=>rw[s.new a u q e]at e2;cases e2
   have L:∀a o,Z3 a=some o->W1 a=none->H a=none:=λa o q z=>by
    cases e:Z2 a with
    | none=>exact hh.free (s.new a o q e)
    | some u=>
     have:=s.z a u e;rw[q]at this;cases this;exact nw a o e z
   have j:aP X.K CL g Z3 l El fp:=ra.mono s.z λa f=>by
    obtain⟨o,e⟩:=ra.there a f;rw[e];exact s.h a o e
   have w:∀a∈fp,Z3 a=none/\H a=none:=λa f=>#[P a (own a f).1 (ra.there a f),(own a f).2];have F:Z3 D=none:=P D zD #[_,A];have B:g D=some (.lst El):=s.h D _ A;have Y:=hh.trans s.h;have k:=V.trans s.z;have E:=s.zh;have aa:=s.tp;clear own nw ra zD A hh V zh I s P;have bo:d∈ds:=fw hd;obtain⟨j2,aw⟩:=inner C s0 H0 f0 #[g,Z3];obtain⟨ps,ax,hpl,it,ie⟩:=aw d bo (bc i d l hd gl g Z3 Y k E L aa);obtain⟨t,pg,ht⟩:=j2;refine#[t,pg,ht Z3 g d ps xv _ _ E rd ax λys ae=>?_];have O:ys.length=n:=by rw[<- ae.length];exact hpl
   have es:u9 (KR U ix os) (List.range' 0 n) ys=KR U ix (ys.map some):=by
    have:=yG (ys:=ys) (os:=os) (pre:=[]) (r:=ix.map λi=>(U[i]?).getD none) (by rw[a0,O]);rw[O]at this;exact this
   refine#[ys.map some,by rw[d4];exact O,es,?_];rw[es];have S0:bz X.K CL #[g,Z3] g Z3 (z9 ps++δc) (KR U ix (ys.map some)) [] []:=
    #[#[[],[],Vr ae ((bg g).mono k λa f=>by cases f),.nil,jP,λa f=>by cases f],.refl _,.refl _,E,λa o q z=>(by have z':Z3 a=none:=z;rw[show Z3 a=some o from q]at z';cases z'),aa,(S.Ey.mono zw).mono k]
   refine it.Hm S0 λH4 Z4 R M S4=>?_;have bj:∀a∈fp,H4 a=g a:=λa f=>by
    obtain⟨o,e⟩:=j.there a f;rw[e];exact M a o e
   have Py:∀a,Z3 a=none->(∃o,g a=some o)->Z4 a=none:=λa e ⟨o,e2⟩=>by
    cases q:Z4 a with
    | none=>rfl
    | some u=>
     have:=S4.new a u q e;rw[show g a=none from this]at e2;cases e2
   cases hp:p d with
   | false=>
    refine ER #[Z4,l,El,fp,(gs i d l hd gl).1 hp,Y.trans M,k.trans R,S4.zh,Py D F #[_,B],λa o q z=>?_,S4.tp,M D _ B,?_,nd,nD,λa f=>#[Py a (w a f).1 (j.there a f),(w a f).2],Wl]
    .cases e:Z3 a with
     | none=>exact Y.free (S4.new a o q e)
     | some u=>
      have:=R a u e;rw[q]at this;cases this;exact L a o e z
    .exact j.mono R bj
   | true=>
    refine EV ((ie hp) H4 Z4 (KR U ix (ys.map some)) [] [] _ S4 λt yv H5 Z5 qt z5 k5 S5=>#[El,k5 D _ (M D _ B),Wl,?_]);obtain⟨f1,g1,e1,r1,af,ag⟩:=S5.rep;cases r1 with
    | @cons _ _ _ _ fy fn ry rn=>
     cases rn;rw[e6]at af ag;have ar:fy.Nodup:=(hO.1 af).2.1;have Vs:∀a∈fy,Z5 a=none/\g a=none:=λa f=>ag a (eL _ f);have E5:∀a,Z3 a=none->(∃o,g a=some o)->Z5 a=none:=λa e ⟨o,e2⟩=>by
      cases q:Z5 a with
      | none=>rfl
      | some u=>
       have:=S5.new a u q e;rw[show g a=none from this]at e2;cases e2
     have yD:∀a∈fy,a≠D:=λa f e=>by
      subst e;rw[(Vs a f).2]at B;cases B
     have bq:H5 D=some (.lst El):=k5 D _ (M D _ B);have sD:aB H (upd H5 D (.lst (El++[yv]))):=λa o q=>by
      rw[az (aS q hD)];exact k5 a o (M a o (Y a o q))
     refine#[Z5,l++[t],El++[yv],fp++fy,(gs i d l hd gl).2 hp t qt,sD,k.trans (R.trans z5),λa o q=>?_,E5 D F #[_,B],λa o q z=>?_,λa o q im=>?_,aJ,?_,?_,?_,λa f=>?_,?_]
     .rw[az (aS q (E5 D F #[_,B]))];exact S5.zh a o q
     .cases e:Z3 a with
      | none=>exact Y.free (S5.new a o q e)
      | some u=>
       have:=z5 a u (R a u e);rw[q]at this;cases this;exact L a o e z
     .by_cases f:a=D
      .subst f;rw[aJ]at q;cases q;cases im
      .rw[az f]at q;exact S5.tp a o q im
     .refine aP.app (j.mono (R.trans z5) λa f=>?_) (by
       have:=aP.cons (fp:=fy) (gp:=[]) (ry.mono (.refl _) λa f=>az (yD a f)) (aP.nil (H:=upd H5 D (.lst (El++[yv]))) (Z:=Z5))
       rwa [e6]at this)
      have:a≠D:=λe=>nD (e▸f);rw[az this];obtain⟨o,e⟩:=j.there a f;rw[e];exact k5 a o (M a o e)
     .refine hO.2 #[nd,ar,λa f a' Yg e=>?_];subst e;obtain⟨o,e⟩:=j.there a f;rw[(Vs a Yg).2]at e;cases e
     .intro h;obtain h|h:=eg.1 h
      .exact nD h
      .exact yD D h rfl
     .obtain h|h:=eg.1 f
      .exact#[E5 a (w a h).1 (j.there a h),(w a h).2]
      .exact#[(Vs a h).1,Y.free (Vs a h).2]
     .rw[fv,hV];lia
  .have e:i=ds.length:=by lia
   subst e;refine .inl #[kP H2 (V.trans zh),?_];obtain⟨Z',z',S'⟩:=S.back (H':=H2) (W:=W1) (W':=Z2) (t:=.lst l) (v:=.ref D) (fp:=D::fp) hh zw V zh nw I (.lst A ra) (hX.2 #[nD,nd]) (λa f=>by
    obtain h|h:=d3.1 f
    .subst h;exact#[zD,hD]
    .exact own a h) (c.imp id λc=>by
     rw[kh];exact c l gl)
   exact#[Z',l,gl,z',hh,S']
end
variable{δc:Ap}{ds:BB}{p:D->Bool}{g:D->T}{parts:D->Option BB}{q:L3.D->T->Prop}{G:Nat->Bn->Prop}
def nB{J:It}{it:Addr}{tn:Nat->Heap->Prop}{H1:Hp}{RR:Value->Addr->Result->Shared->Prop}{E:BA}{r:Cx->Value->Shared->Prop}{gd:L3.D->Bx->Prop}
  (g0:G 0 []) (gs:qa ds p q G) (sc:iP X scope xs Nc ix) (V:X.calm=true) (C:Pu X CL b δ1 U ts vs Z H ds J H1) (I:L2.Inv X pins U H1 s) (Tn:Turn X.prog X.w X.K tg J fp it tn) (st:tn 0 s.heap) (hf:∀b∈fp,mq X pins H1 b)
  (Y:(δc=pU δ1 ix/\∀l,G ds.length l->T.c7 l=true)\/δc=pV δ1 ix) (inner:iY X CL scope Nc xs.length tg parts ifs elt δc ds p q r gd) (hlen:ds.length<=sizeLine)
  (t:∀D C s' H' Z' l,G ds.length l->(∃m,s'.heap.Ns C m)->(∃o,s'.heap.get? C=some o/\∀v,o.data ≠ .cell v)->H' C=none->(C≠X.env.locals/\C∉X.fs/\X.eh.heap.objs.size<=C/\(∀y c,X.env.cells.lookup y=some c->c≠C)/\∀q∈X.pn++pins,q.1≠C)->(∀h',Heap.SameBut C s'.heap h'->L2.Inv X pins U H' {s' with heap:=h'})->aB Z Z'->aB H H'->bz X.K CL b H' Z' δ1 U (.lst l::ts) (.ref D::vs)->RR (.ref D) C (.ok .next) s')
  (n:∀Z1 W1,bz X.K CL b H1 Z1 δ1 U ts vs->aB Z1 W1->∀i d l,ds[i]? = some d->G i l->∀g Z3,aB H1 g->aB W1 Z3->aB Z3 g->(∀a o,Z3 a=some o->W1 a=none->H1 a=none)->(∀a o,g a=some o->gF o=true->Z3 a=some o)->gd d #[g,Z3])
  (hex:∀D s3 g ev s',L2.Inv X pins U g s3->(∀b∈fp,mq X pins g b)->r (aR X scope Nc s3.heap.objs.size s3 g fp) ev s'->notedBy (model X.prog X.w) X.A (compEnvC scope (fC X.env scope.names []) s3.heap.objs.size X.env) (λx Ou=>RR (.ref D) s3.heap.objs.size (.error x) Ou) ev s') :
  wpAny (model X.prog X.w) X.A (newList []) (λacc j=>wpAny (model X.prog X.w) X.A (newFunctionEnv scope X.env.globals (fC X.env scope.names []) [] X.env.qual none .none (some X.env)) (λF h=>
   codeAny (model X.prog X.w) X.A (.compStart (.ListComp elt [#[tg,iter,ifs,0]] scope pos) 0 (.ref it) acc {F with scope:=relabel scope X.env}) (RR acc F.locals) h) E j) E s:=by
 obtain⟨Z1,M,k1,f,go,u,k⟩:=C.ex;have R:∀D,H1 D=none->∃W:Nat->Nat->Hp->Prop,(∃m,W 0 m (upd H1 D (.lst [])))/\∀i m H2,W i m H2->(J.stop i H2/\∃Z2 l,G ds.length l/\aB Z1 Z2/\aB H1 H2/\bz X.K CL b H2 Z2 δ1 U (.lst l::ts) (.ref D::vs)) ∨
   (J.go i H2/\∃N:Hp->Prop,(∀H',N H'->∃B,B<m/\W (i+1) B H')/\∀z g,J.X8 i H2 z g->∀C s0 L f0 os,os.length=xs.length->Pw ((aR X scope Nc C s0 L f0).d0 (r (aR X scope Nc C s0 L f0))) tg elt ifs xs.length U ix D N z os g):=by
  obtain⟨e,cl⟩|e:=Y
  .subst e;exact sS g0 gs f f.zh (.refl _) (λ_ _ q _=>q) (Ci f ix) inner (n Z1 H1 f f.zh) (λi H2 s=>go i H2 (f.zh.trans s)) (λi Z2 H2 y H' s=>u i Z2 H2 y H' (f.zh.trans s)) (λH2 s=>k H2 (f.zh.trans s)) hlen (.inr cl)
  .subst e;exact sS g0 gs f (.refl _) f.zh f.tp (Cj f ix) inner (n Z1 Z1 f (.refl _)) go u k hlen (.inl rfl)
 refine E4 r sc V I Tn st hf R (λD C s' H' m io P ch ci zz=>?_) hex;obtain⟨Z',l,gl,O,S,S'⟩:=zz;exact t D C s' H' Z' l gl m io P ch ci (M.trans O) (k1.trans S) S'
def jI(sc:iP X scope xs Nc ix)(I:L2.Inv X pins U H s):closureFor scope X.env=pure (fC X.env scope.names []):=
 xR λy a e=>I.ok.has y.1 (sc.frees y a e).2
def E6(h:∀d∈ds,(g d).clean=true)(l:Bn)(e:l=((ds.take ds.length).filter p).map g):T.c7 l=true:=e▸uT λd hd=>h d (List.mem_of_mem_take (ij.1 hd).1)
def Cz(g0:G 0 [])(gs:qa ds p q G)(sc:iP X scope xs Nc ix)(i:X.calm=true)(h:NS X CL b tg iter δ ds δ1)(j:(δc=pU δ1 ix/\∀l,G ds.length l->T.c7 l=true)\/δc=pV δ1 ix)(inner:iY X CL scope Nc xs.length tg parts ifs elt δc ds p q)(hlen:ds.length<=sizeLine)
  (f:AN X iter:=by intro _;rfl):uR X CL b (.ListComp elt [#[tg,iter,ifs,0]] scope pos) δ (λt=>∃l,t=.lst l/\G ds.length l) δ1:=λH Z U ts vs Q S k pins s I=>by
 obtain⟨w,pi,hw⟩:=h;apply ub rfl f (jI sc I) sc.kind sc.names;refine cJ (pi pins s U H _ I (hw H Z U ts vs _ S λJ H1 C=>C)) λv s1 h1=>cJ h1 λd s2 zz=>?_;obtain⟨it,fp,tn,J,H1,e,u,n,st,hf,C⟩:=zz;subst e;refine nB g0 gs sc i C u n st hf j inner hlen (λD y s' H' Z' l gl m io x ch ci a c o=>?_) (λ_ _ _ _ _ _ _ _ _ _ _ _ _ _ _ _=>trivial) λ_ _ _ _ _ _ _ z=>z.elim;obtain⟨m,g⟩:=m;exact#[m,g,λh' r=>#[.ref D,H',ci h' r,rfl,k _ _ H' Z' #[l,rfl,gl] a c o]]
def Pz(sc:iP X scope xs Nc ix)(e:X.calm=true)(h:NS X CL b tg iter δ ds δ1)(a:(δc=pU δ1 ix/\∀d∈ds,(g d).clean=true)\/δc=pV δ1 ix)(inner:vf X CL scope Nc xs.length tg parts ifs elt δc ds p g)(hlen:ds.length<=sizeLine)
  (c:AN X iter:=by intro _;rfl):bw X CL b (.ListComp elt [#[tg,iter,ifs,0]] scope pos) δ (.lst ((ds.filter p).map g)) δ1:=λH Z U ts vs Q S k=>Cz (rfl) Yo sc e h (a.imp (λa=>#[a.1,E6 a.2]) id) inner.q hlen c H Z U ts vs Q S λt v H' Z' z=>by
 obtain⟨l,rfl,rfl⟩:=z;exact hS▸k v H' Z'
variable{y:Str}
theorem Ik{E:Ends}{D' a:Addr}{s':Shared}{py:Pos}(G:X.N.Nodup)(hi:X.N[i]? = some y)(x:Loc X.env.scope y)(h:AM X y)(m:∃m,s'.heap.Ns a m)(io:∃n,s'.heap.get? a=some n/\∀v,n.data ≠ .cell v)(u:H' a=none)
  (ch:a≠X.env.locals/\a∉X.fs/\X.eh.heap.objs.size<=a/\(∀y c,X.env.cells.lookup y=some c->c≠a)/\∀q∈X.pn++pins,q.1≠a) (ci:∀h',Heap.SameBut a s'.heap h'->L2.Inv X pins U H' {s' with heap:=h'}) (q:E.nx (U.set i (some (.ref D'))) H') :
  compPost (model X.prog X.w) X.A X.xe (some (assign (.Name y py) X.env)) (λ_ s'=>SP X pins E .next s') (.ref D') a (.ok .next) s':=by
 obtain⟨m,C⟩:=m;obtain⟨o,B,s⟩:=io;have p:L2.Inv X pins U H' s':=ci _ (.refl ..);have L:L2.Inv X (pins++[(a,o)]) U H' s':=p.uc λq g=>by
  obtain z|z:=eg.1 g
  .exact p.pin q (eL _ z)
  .have e:=by simpa using z
   subst e;exact#[B,u,ch.1,ch.2.1,s]
 have D:PG X (.Name y py) _:=uf G hi x h;refine cJ (D _ s' U H' (.ref D') _ (λd r=>d=U.set i _/\r=H') L rfl #[rfl,rfl]) λ_ t zz=>?_;obtain⟨d,r,k,I,j⟩:=zz;subst I;subst j;obtain⟨H,f,_⟩:=k.pin (a,o) (eL _ (eL _ WE));refine#[m,C.at' Wl,λh' J=>?_];have K:=k.uc λq g=>k.pin q (eL _ (ft _ g));have l:=K.turned (t':=t.toks) (λb o F e=>(J.2 b F).trans e) f ch.1.symm.symm (.inr ch.2.2.1) ch.2.2.2.1 ch.2.2.2.2;exact#[_,_,l,q]
def PB{D:cy}{py c:Pos}(i:Nat)(g0:G 0 [])(gs:qa ds p q G)(sc:iP X scope xs Nc ix)(u:X.calm=true)(h:NS X CL b tg iter δ ds δ1)(w:(δc=pU δ1 ix/\∀l,G ds.length l->T.c7 l=true)\/δc=pV δ1 ix)(inner:iY X CL scope Nc xs.length tg parts ifs elt δc ds p q)(hlen:ds.length<=sizeLine)
  (k:∀l,G ds.length l->D.nx (δ1.set i (some (.lst l)))) (t:i<δ1.length) (x:X.N.Nodup) (hi:X.N[i]? = some y) (n:Loc X.env.scope y) (a:AM X y)
  (f:swapsWith (.ListComp elt [#[tg,iter,ifs,0]] scope pos) (some (.Name y py)) c.line X.env=pure true)
  (o:AN X iter:=by intro _;rfl):O2 X CL b (.Assign [.Name y py] (.ListComp elt [#[tg,iter,ifs,0]] scope pos) c) δ D:=λH Z U ts vs E S M pins s I=>by
 obtain⟨K,pi,hw⟩:=h;rw[exec_Assign_Name_used _ _ _ _ f];refine d5 (o4 (d5 ?_));refine d5 (gr (ub rfl o (jI sc I) sc.kind sc.names ?_) (λ_ s' r=>eR (eR r)) λ_ _ e=>e);refine cJ (pi pins s U H _ I (hw H Z U ts vs _ S λJ H1 C=>C)) λv s1 h1=>cJ h1 λj s2 zz=>?_;obtain⟨it,fp,tn,J,H1,e,F,A,st,hf,C⟩:=zz;subst e;refine nB g0 gs sc u C F A st hf w inner hlen (λD' O s' H' Z' l gl m io g ch ci d L B=>?_) (λ_ _ _ _ _ _ _ _ _ _ _ _ _ _ _ _=>trivial) λ_ _ _ _ _ _ _ z=>z.elim;exact Ik x hi n a m io g ch ci (M.nx _ _ _ Z' d (B.set t) (k l gl))
variable{pos' pc:Pos}
def Vt{D:cy}(c:Gx X)(n:Ln X i x)(g0:G 0 [])(gs:qa ds p q G)(sc:iP X scope xs Nc ix)(h:NS X CL b tg iter δ ds δ1)
  (f:(δc=pU δ1 ix/\∀l,G ds.length l->T.c7 l=true)\/δc=pV δ1 ix) (inner:iY X CL scope Nc xs.length tg parts ifs elt δc ds p q) (hlen:ds.length<=sizeLine) (k:∀l,G ds.length l->cg X CL b cZ (δ1.set i (some (.lst l))) D) (e:i<δ1.length)
  (a:swapsWith (.ListComp elt [#[tg,iter,ifs,0]] scope pc) (some (.Name x pos')) pos.line X.env=pure true\/swapsWith (.ListComp elt [#[tg,iter,ifs,0]] scope pc) (some (.Name x pos')) pos.line X.env=pure false) (d:AN X iter:=by intro _;rfl) :
  cg X CL b (.Assign [.Name x pos'] (.ListComp elt [#[tg,iter,ifs,0]] scope pc) pos::cZ) δ D:=by
 obtain a|a:=a
 .exact bG (PB i g0 gs sc c.calm h f inner hlen k e c.nd n.hi n.loc n.hf a d)
 .exact bG (um i (Cz g0 gs sc c.calm h f inner hlen d) (λt z=>by obtain⟨l,rfl,gl⟩:=z;exact k l gl) e c.nd n.hi n.loc a n.hf)
theorem Y1{D:cy}(m:Gx X)(n:Ln X i x)(sc:iP X scope xs Nc ix)(h:NS X CL b tg iter δ ds δ1)
  (a:(δc=pU δ1 ix/\∀d∈ds,(g d).clean=true)\/δc=pV δ1 ix) (inner:vf X CL scope Nc xs.length tg parts ifs elt δc ds p g) (hlen:ds.length<=sizeLine) (k:cg X CL b cZ (δ1.set i (some (.lst ((ds.filter p).map g)))) D) (j:i<δ1.length)
  (c:swapsWith (.ListComp elt [#[tg,iter,ifs,0]] scope pc) (some (.Name x pos')) pos.line X.env=pure true\/swapsWith (.ListComp elt [#[tg,iter,ifs,0]] scope pc) (some (.Name x pos')) pos.line X.env=pure false) (f:AN X iter:=by intro _;rfl) :
  cg X CL b (.Assign [.Name x pos'] (.ListComp elt [#[tg,iter,ifs,0]] scope pc) pos::cZ) δ D:=Vt m n (rfl) Yo sc h (a.imp (λa=>#[a.1,E6 a.2]) id) inner.q hlen (λl e=>by simp_all) j c f
variable{C:Addr}
def PF(h1:Nc[i]? = some x)(a:scope.names.lookup x=some .local)(hd:AD x:=by decide)(gX:AE x:=by decide):Ln (aR X scope Nc C s H fp) i x:=
 #[Pg h1 a hd gX,.inl (lookup_relabel_local a),.inr (lookup_relabel_local a)]
def GS(K:Frag)(a:Addr):It:=
 #[λi H=>∃xs x,lM K H a xs/\xs[i]? = some x,λi H x H'=>∃T y,H T=none/\x=.ref T/\(∀xs,lM K H a xs->xs[i]? = some y)/\H'=upd H T (.tup [.int i,y]),λi H=>∃xs,lM K H a xs/\xs.length<=i]
theorem KY{o:HO}(I:L2.Inv X pins U H s)(fp:mq X pins H a)(new:eS X.prog X.w (upd H a o) s.heap a o):L2.Inv X pins U (upd H a o) s:=by
 have d:=fp.1;refine I.step (ch:=[a]) (λb g=>?_) (λb o _ _ _ e _=>e) (λb o _ _ _ e _=>#[ _,e]) (λb o f _ n=>by rw[az λz=>f (by simp[z])];exact n)
  (λb o _ e=>#[o,e]) (λb xs e=>az (aS e d)▸e) (λb o u e=>az (aS e d)▸e) (λb ps e=>#[#[],by rw[az (aS e d),e];simp]) (λm hm=>hm) (λb u e=>?_) I.bare
 .have e:=by simpa using g
  subst e;exact#[fp.2.2.2.1,fp.2.1,fp.2.2.2.2.1,fp.2.2.2.2.2]
 .by_cases z:b=a
  .subst z;rw[aJ]at e;grind
  .rw[az z]at e;exact(I.bO b u e).oK (λ_ _ _ q=>q) (λc q=>az (aS q d)▸q) (λc xs q=>az (aS q d)▸q) λc z q=>az (aS q d)▸q
def KZ{t':Nat}{h':Heap}{S:BY}(I:L2.Inv X pins U H s)(hf:∀b∈S,mq X pins H b)(k:∀b o,b∉S->s.heap.get? b=some o->h'.get? b=some o):L2.Inv X pins U H {s with heap:=h',toks:=t'}:=by
 have n:∀b u,H b=some u->b∉S:=λb u e z=>by rw[(hf b z).1]at e;cases e
 refine I.step (ch:=S) (λb f=>?_) (λb o _ _ a e _=>k b o a e) (λb o _ _ a e _=>#[_,k b o a e]) (λ_ _ _ _ n=>n) (λb o a e=>#[o,k b o a e]) (λ_ _ e=>e) (λ_ _ _ e=>e) (λb ps e=>#[#[],by rw[e];simp]) (λm hm=>?_) (λb u e=>?_) I.bare
 .obtain⟨_,f1,_,h,f4,g⟩:=hf b f;exact#[h,f1,f4,g]
 .obtain⟨o,es,ep,d,r⟩:=hm;exact#[o,es,ep,k _ o (λz=>(hf _ z).2.1 rfl) d,r]
 .exact(I.bO b u e).oK (λc v a q=>k c v (by obtain z|z:=a<;>first|(rw[z];exact n b u e)|exact n c _ z) q) (λ_ q=>q) λ_ _ q=>q
variable{elts:CC}{kk:Nat}{pt:Pos}
theorem K0(a e it:Addr)(J:e≠it):Turn P w K (.Tuple elts kk pt) (GS K a) [e,it] e (λi h=>(∃old,PySem.IsEnum h e it i old)/\h.IsListIter it a i) where
 mem:=by simp
 obj:=λi h st b f=>by
  obtain⟨⟨old,he⟩,hit⟩:=st;obtain z|z:=d3.1 f
  .subst z;exact#[_,he,λv z=>by
    have L:Data.fields _=Data.cell v:=z;cases L]
  .have z:b=it:=by simpa using z
   subst z;obtain⟨o,e,c,d⟩:=hit;exact#[o,e,λv z=>by rw[d]at z;cases z]
 keep:=λi h h' st k=>by
  obtain⟨⟨old,he⟩,hit⟩:=st;exact#[#[old,k e WE _ he],hit.at λo q=>k it WE o q]
 item:=by
  intro X C hw D G i pins s U H E I hf st t;subst C hw D;obtain⟨xs,x,l,r⟩:=t;obtain⟨its,n,p,N⟩:=I.list l;obtain⟨u,R,M⟩:=n.get r;obtain⟨⟨old,he⟩,hit⟩:=st;have fe:=hf e WE;have fi:=hf it WE;have j:H s.heap.objs.size=none:=I.bO.fresh (ea _);have Z:=I.xK (ea s.heap.objs.size) j;refine PySem.wpAny_pyNext_enum_item he hit p.isList (x:=u) (by simpa using R) J λh' T F W hsz V=>#[_,rfl,?_];refine PySem.wpAny_letOwnedTupleGo_enum T λm y g=>?_;replace g:Heap.SameBut e h' m:=g;have eT:e<s.heap.objs.size:=e4 he;have keep:∀b o,b≠e->b≠it->s.heap.get? b=some o->m.get? b=some o:=λb o h1 Y q=>(g.2 b h1).trans (V b o h1 Y q);have B:m.get? s.heap.objs.size=some {cls:=.type "tuple",data:=.seq (List.toArray [.int i s.toks,u])}:=(g.2 _ (Nat.ne_of_gt eT)).trans W;have I1:L2.Inv X pins U H {s with heap:=m,toks:=s.toks+1}:=KZ (S:=[e,it]) I hf λb o f=>keep b o (λz=>f (by simp[z])) λz=>f (by simp[z]);have I':=KY (a:=s.heap.objs.size) (o:=.tup [.int i,x]) I1 Z #[hH (cL (eE rfl)),[.int i s.toks,u],.cons #[s.toks,rfl] (.cons M .nil),#[_,B,rfl,_,rfl]];have ei:((i+1:Nat):Int)=(i:Int)+1:=by lia
  refine#[.ref s.heap.objs.size,_,I',rfl,#[_,x,j,rfl,λys O=>by rw[I.BX O l];exact r,rfl],#[#[u,by rw[ei];exact y],F.at λo q=>(g.2 it (Ne.symm J)).trans q],λb f=>?_];have A:=hf b f;obtain⟨o,BI,_⟩:∃o,s.heap.get? b=some o/\True:=by
   obtain z|z:=d3.1 f
   .subst z;exact#[_,he,trivial]
   .have z:b=it:=by simpa using z
    subst z;obtain⟨o,q,_⟩:=hit;exact#[o,q,trivial]
  rw[az (gh (e4 BI))];exact A.1
 done:=by
  intro X C hw D G i pins s U H E I hf st t;subst C hw D;obtain⟨xs,l,r⟩:=t;obtain⟨its,n,p,N⟩:=I.list l;obtain⟨⟨old,he⟩,hit⟩:=st;obtain⟨f0,f1,f2,f3,f4,f5⟩:=hf it WE;have hl:=n.length;exact PySem.wpAny_pyNext_enum_end (I.ok.hd G) he hit p.isList WJ λh' eb=>#[rfl,I.turned (t':=s.toks) (λb o f e=>eb b o f e) f0 f1 f3 f4 f5]
 self:=λ_ _ _ _ _ st h=>by
  obtain⟨⟨old,he⟩,_⟩:=st;exact PySem.wpAny_pyIter_enum he h
def NA(K:Frag)(ta:TA):TI:=λU H R=>ta U H λvs H1=>∃a xs,vs=[.ref a]/\lM K H1 a xs/\R (GS K a) H1
theorem Vu{a:Expr}{ta:TA}{p:Pos}(m:Gl X "enumerate")(hm:X.mg "enumerate" = none)(o:PA X [a] ta)(i:AC X a []):PI X (.Tuple elts kk pt) (.Call (.Name "enumerate" p) [a] [] pos) (NA X.K ta):=by
 intro pins s U H R I h;refine Call_ (oM I m hm boot_enumerate (o8 (cJ (o pos pins s U H _ I h) λus s1 zz=>?_) i rfl));obtain⟨vs,H1,c,f,g⟩:=zz;obtain⟨l,xs,e,j,q⟩:=g;subst e;cases f with
 | cons r d=>
  cases d;cases r;obtain⟨its,u,p,v⟩:=c.list j;refine PySem.call_enumerate_list p.isList λh' he hit hsz k=>?_;have t:=c.kept (t':=s1.toks) k;refine PySem.wpAny_pyIter_enum he ?_;refine#[ _,_,_,_,H1,rfl,t,K0 l _ _ (Nat.succ_ne_self _),#[#[_,he],hit],λb n=>?_,q];obtain z|z:=d3.1 n
  .subst z;exact c.xK (h7 _) (c.bO.fresh (h7 _))
  .have z:=by simpa using z
   subst z;exact c.xK (ea _) (c.bO.fresh (ea _))
noncomputable def vg(ds:BB):BB:=(List.range ds.length).map λ(i:Nat)=>.tup [.int i,ds.getD i .non]
def yH(ds:BB):(vg ds).length=ds.length:=by simp[vg]
def K1{ds:BB}{d:D}(h:ds[i]? = some d):(vg ds)[i]? = some (.tup [.int i,d]):=by
 have hi:=(gz.1 h).1;unfold vg;rw[fT,hU hi];show some (D.tup _)=_;rw[eM,h];rfl
variable{pr:Pos}{ds:BB}
theorem Vv(hm:X.mg "enumerate" = none)(h:bw X CL b e δ (.sh (.lst ds)) δ1)(u:Gl X "enumerate")(l:AC X e []:=by exact aT rfl):NS X CL b (.Tuple elts kk pt) (.Call (.Name "enumerate" pr) [e] [] pc) δ (vg ds) δ1:=by
 refine#[_,Vu u hm (bB bX cV l) l,λH Z U ts vs R S k=>h H Z U ts vs _ S λv H1 Z1 n k1 g=>?_];obtain⟨fp,gp,_,r,_,_⟩:=g.rep;cases r with
 | cons r _=>
  replace r:=r.KG;obtain⟨rfl,r⟩:=r;obtain⟨a,us,rfl,c,j⟩:=r.lS;have t:=j.length;refine#[a,us,rfl,g.zh.seq c,k _ _ #[Z1,n,k1,g.pop,λi H2 s hi=>?_,λi Z2 H2 x H' s1 s2 tp hi p=>?_,λH2 s=>?_]]
  .rw[yH]at hi;have f:i<us.length:=t▸hi;exact#[us,_,s.seq c,gc f]
  .obtain⟨T,y,w,rfl,q,rfl⟩:=p;obtain⟨d,hd,o⟩:=j.xf (q us ((s1.trans s2).seq c));have m:=Cu.tup (xs:=[.int i,y]) s2 tp w;exact#[_,_,K1 hd,m,.tup (lN.of aJ) (.cons (.int _) (.cons ((o.mono s1).mono m.z) .nil))]
  .rw[yH];exact#[us,s.seq c,by simp_all ]
theorem vh{β:Type}{f:α->β}{l:List α}{d:β}(h:(l.map f)[j]? = some d):∃x,d=f x/\l[j]? = some x/\x∈l/\j<l.length/\l.drop j=x::l.drop (j+1)/\l.take (j+1)=l.take j++[x]:=by
 rw[fT]at h;cases a:l[j]? with
 | none=>rw[a]at h;cases h
 | some x=>
  rw[a]at h;cases h;have b:=(gz.1 a).1;have e:=(gz.1 a).2;exact#[x,rfl,rfl,fw a,b,by rw[ue b,e],by rw[hZ,a];rfl]
def D.IH:L3.D->L3.D
 | .tup (a::_)=>a
 | d=>d
noncomputable def D.cnt:L3.D->Nat
 | .lst ds=>ds.length
 | .tup ds=>ds.length
 | _=>0
def K2(f:α->L3.D)(z:α)(l:List α):vg (l.map f)=(List.range l.length).map λ(i:Nat)=>L3.D.tup [.int i,f (l.getD i z)]:=by
 unfold vg;rw[d4];apply hB;intro i hi;have hi:=gC.1 hi;have:(l.map f).getD i .non=f (l.getD i z):=by
  rw[eM,eM,fT,gc hi];rfl
 rw[this]
def mH{f:α->L3.D}{l:List α}(z:α)(hm:X.mg "enumerate" = none)(h:bw X CL b e δ (.sh (.lst (l.map f))) δ1)(c:Gl X "enumerate")(a:AC X e []:=by exact aT rfl) :
  NS X CL b (.Tuple elts kk pt) (.Call (.Name "enumerate" pr) [e] [] pc) δ ((List.range l.length).map λ(i:Nat)=>L3.D.tup [.int i,f (l.getD i z)]) δ1:=by
 have:=Vv (elts:=elts) (kk:=kk) (pt:=pt) (pr:=pr) (pc:=pc) hm h c a
 rwa [K2 f z l]at this
def vj{k:Str}(hm:∃u,X.mg x=some (.str k u))(a:Gl X x)(hd:AD x:=by decide):bw X CL b (.Name x pos) δ (.sh (.str k)) δ:=λH Z U ts vs Q S kk=>by
 obtain⟨u,hm⟩:=hm;exact bH (ud (v:=.str k) a hm #[u,rfl] hd) (kk _ H Z (.refl _) (.refl _) (S.push (.str k)))
theorem aD.yI{K:Frag}{Z:Hp}:∀l:AT,aD K CL Z (l.map .str) (l.map V.str)
 | []=>.nil
 | x::l=>.cons (.str x) (aD.yI l)
def GT(X:Cx)(x:Str)(l:AT):Prop:=∃a,X.mg x=some (.ref a)/\∀H:Hp,lN X.K H a (l.map V.str)
def cT(hm:GT X x l)(d:Gl X x)(hd:AD x:=by decide):bw X CL b (.Name x pos) δ (.sh (.tup (l.map .str))) δ:=λH Z U ts vs Q S kk=>by
 obtain⟨a,hm,c⟩:=hm;exact bH (ud (v:=.ref a) d hm rfl hd) (kk _ H Z (.refl _) (.refl _) (S.push (.tup (c Z) (aD.yI l))))
noncomputable def kC(x y:Str):Bool:=!(Builtin.Str.occurrences y x 0 y.length 1).isEmpty
def PK{i j:Str}(h1:bN X CL b e1 δ (.str i) δ1)(a:bN X CL b e2 δ1 (.str j) δ2)(hm:behindInMarks .In e2=false):kQ X CL b (.Compare e1 [.In] [e2] pos) δ (kC i j) δ2/\bw X CL b (.Compare e1 [.In] [e2] pos) δ (.sh (.bl (kC i j))) δ2:=
 mF Kp h1 a rfl rfl (λ_ _ q=>#[i,j,rfl,rfl,q]) hm
def mJ{i j:Str}(h1:bN X CL b e1 δ (.str i) δ1)(a:bN X CL b e2 δ1 (.str j) δ2)(hm:behindInMarks .NotIn e2=false):kQ X CL b (.Compare e1 [.NotIn] [e2] pos) δ (!kC i j) δ2/\bw X CL b (.Compare e1 [.NotIn] [e2] pos) δ (.sh (.bl (!kC i j))) δ2:=
 mF zB h1 a rfl rfl (λ_ _ q=>#[i,j,rfl,rfl,q]) hm
noncomputable def x2(x:Str):It:=#[λi _=>i<x.cps.size,λi H v H'=>H'=H/\∃c,x.cps[i]? = some c/\v=.str #[(List.toArray [c])],λi _=>x.cps.size<=i]
def K3(x:Str)(t:Tok)(it:Addr):Turn P w K tg (x2 x) [it] it (λi h=>h.IsStrIter it "str_ascii_iterator" x t i) where
 mem:=by simp
 obj:=λi h st b f=>by
  have e:b=it:=by simpa using f
  subst e;obtain⟨o,e,c,d⟩:=st;exact#[o,e,λv z=>by rw[d]at z;cases z]
 keep:=λi h h' st k=>by
  obtain⟨o,e,r⟩:=st;exact#[o,k it WE o e,r]
 item:=by
  intro X g hw j n i pins s U H E I hf st a;subst g hw j;have a:i<x.cps.size:=a;obtain⟨f0,f1,f2,m,f4,l⟩:=hf it WE;refine wpAny_pyNext_ascii_item st (c:=x.cps[i]) (by simp[a]) λh' p q=>?_;have y:Inv X pins U H {s with heap:=h',toks:=s.toks+1}:=I.turned (λb o f e=>(q.2 b f).trans e) f0 f1 m f4 l;obtain⟨o,e,c,d⟩:=id p;exact#[_,rfl,yp (s:={s with heap:=h',toks:=s.toks+1}) e c d WA #[.str #[(List.toArray [x.cps[i]])],H,y,#[_,rfl],#[rfl,_,by simp[a],rfl],p,λb f=>(hf b f).1]]
 done:=by
  intro X g hw j n i pins s U H E I hf st a;subst g hw j;have a:x.cps.size<=i:=a;obtain⟨f0,f1,f2,m,f4,l⟩:=hf it WE;exact wpAny_pyNext_ascii_end (I.ok.hd n) st (by simp[a]) λh' u=>#[rfl,I.turned (t':=s.toks) (λb o f e=>u b o f e) f0 f1 m f4 l]
 self:=λ_ _ _ _ _ st h=>wpAny_pyIter_striter_ascii st h
def K4(x:Str)(t:Tok)(it:Addr):Turn P w K tg (x2 x) [it] it (λi h=>h.IsStrIter it "str_iterator" x t i) where
 mem:=by simp
 obj:=λi h st b f=>by
  have e:b=it:=by simpa using f
  subst e;obtain⟨o,e,c,d⟩:=st;exact#[o,e,λv z=>by rw[d]at z;cases z]
 keep:=λi h h' st k=>by
  obtain⟨o,e,r⟩:=st;exact#[o,k it WE o e,r]
 item:=by
  intro X g hw j n i pins s U H E I hf st a;subst g hw j;have a:i<x.cps.size:=a;obtain⟨f0,f1,f2,m,f4,l⟩:=hf it WE;refine wpAny_pyNext_wide_item st (c:=x.cps[i]) (by simp[a]) λh' p q=>?_;have y:Inv X pins U H {s with heap:=h',toks:=s.toks+1}:=I.turned (λb o f e=>(q.2 b f).trans e) f0 f1 m f4 l;obtain⟨o,e,c,d⟩:=id p;exact#[_,rfl,yp (s:={s with heap:=h',toks:=s.toks+1}) e c d WA #[.str #[(List.toArray [x.cps[i]])],H,y,#[_,rfl],#[rfl,_,by simp[a],rfl],p,λb f=>(hf b f).1]]
 done:=by
  intro X g hw j n i pins s U H E I hf st a;subst g hw j;have a:x.cps.size<=i:=a;obtain⟨f0,f1,f2,m,f4,l⟩:=hf it WE;exact wpAny_pyNext_wide_end (I.ok.hd n) st (by simp[a]) λh' u=>#[rfl,I.turned (t':=s.toks) (λb o f e=>u b o f e) f0 f1 m f4 l]
 self:=λ_ _ _ _ _ st h=>wpAny_pyIter_striter_wide st h
def KI(tl:TE):TI:=λU H R=>tl U H λv H1=>∃x,v=.str x/\R (x2 x) H1
theorem YU{l:Expr}{tl:TE}(i:PE X l tl):PI X tg l (KI tl):=by
 intro pins s U H R I h;refine cJ (i pins s U H _ I h) λv s1 zz=>?_;obtain⟨y,H1,a,f,g⟩:=zz;obtain⟨x,e,q⟩:=g;subst e;obtain⟨t,rfl⟩:=f;cases d:x.cps.all (· < 128) with
 | true=>
  refine wpAny_pyIter_ascii d ?_;refine#[s1.heap.objs.size,[s1.heap.objs.size],_,_,H1,rfl,a.kept (t':=s1.toks) λb o e=>ff _ e,K3 x t _,#[_,hE _ rfl,rfl,rfl],λb c=>?_,q];have e:b=s1.heap.objs.size:=by simpa using c
  subst e;exact a.xK (ea _) (a.bO.fresh (ea _))
 | false=>
  refine wpAny_pyIter_wide d ?_;refine#[s1.heap.objs.size,[s1.heap.objs.size],_,_,H1,rfl,a.kept (t':=s1.toks) λb o e=>ff _ e,K4 x t _,#[_,hE _ rfl,rfl,rfl],λb c=>?_,q];have e:b=s1.heap.objs.size:=by simpa using c
  subst e;exact a.xK (ea _) (a.bO.fresh (ea _))
noncomputable def fU(x:Str):BB:=x.cps.toList.map λc=>.str #[(List.toArray [c])]
theorem CB(l:Cc):aD K CL Z (l.map λc=>L3.D.str #[(List.toArray [c])]) (l.map λc=>V.str #[(List.toArray [c])]):=by
 induction l with
 | nil=>exact .nil
 | cons c l a=>exact .cons (.str _) a
theorem PL(h:bw X CL b iter δ (.sh (.str x)) δ1):NR X CL b tg iter δ (fU x) δ1:=by
 refine#[_,YU bX,λH Z U ts vs R S k=>h H Z U ts vs _ S λv H1 Z1 e k1 d=>?_];obtain⟨fp,gp,_,r,_,_⟩:=d.rep;cases r with
 | cons r _=>
  replace r:=r.KG;obtain⟨rfl,r⟩:=r;cases r with
  | str=>
   refine#[x,rfl,k _ _ #[Z1,_,e,k1,d.pop,CB _,λi H2 s hi=>?_,λi H2 y H' s hi a=>#[a.1,?_],λH2 s=>?_]]
   .show i<x.cps.size;simpa [fU] using hi
   .obtain⟨c,f,rfl⟩:=a.2;simp[f]
   .show x.cps.size<=(fU x).length;simp[fU]
def KA:V->CS->CS->Hp->VK->Prop:=λx lo hi H Q=>∃z,x=.str z/\z.length<=sizeLine/\Q (.str (Txt.slice z lo hi)) H
theorem YT:xt X KA:=by
 intro pins s U H x v p n lo hi sl Q I f m g pu h;obtain⟨z,rfl,a,q⟩:=h;obtain⟨t,rfl⟩:=f;obtain⟨o,b,c,hd⟩:=m;have fin:∀t' k,EP X pins U Q (.str (Txt.slice z lo hi) t') {s with toks:=k}:=λt' k=>#[.str _,H,I.tok k,#[t',rfl],q];refine#["str",_,F.slot_str_getitem.lookup,ja _ _ _,?_];cases g with
 | none=>
  cases pu with
  | none=>exact uK (l:=none) (u:=none) (st:=none) #[o,b,c,hd] rfl (post_val_or_str #[er (Txt.slice_le z _ _) a,fin])
  | int j d=>exact uK (l:=none) (u:=some (j,d)) (st:=none) #[o,b,c,hd] rfl (post_val_or_str #[er (Txt.slice_le z _ _) a,fin])
 | int i e=>
  cases pu with
  | none=>exact uK (l:=some (i,e)) (u:=none) (st:=none) #[o,b,c,hd] rfl (post_val_or_str #[er (Txt.slice_le z _ _) a,fin])
  | int j d=>exact uK (l:=some (i,e)) (u:=some (j,d)) (st:=none) #[o,b,c,hd] rfl (post_val_or_str #[er (Txt.slice_le z _ _) a,fin])
def K5{lo hi:Option Expr}{l h:CS}{z:Str}(h1:bN X CL b e δ (.str z) δ1)(m:z.length<=sizeLine)(o:n3 X CL b lo δ1 l δ2)(n:n3 X CL b hi δ2 h δ3):bw X CL b (.Subscript e (.Slice lo hi none p2) pos) δ (.sh (.str (Txt.slice z l h))) δ3:=λH Z U ts vs Q S k=>by
 obtain⟨t2,c,j⟩:=o;obtain⟨t3,a,i⟩:=n;refine bH (B7 YT bX c a) (h1 H Z U ts vs _ S λv H1 Z1 g k1 s r=>j H1 Z1 U ts vs _ s λH2 Z2 f k2 q=>i H2 Z2 U ts vs _ q λt Z3 d k3 p=>?_);exact#[z,r.sc rfl,m,k _ t Z3 (g.trans (f.trans d)) (k1.trans (k2.trans k3)) (p.push (.str _))]
end L3
namespace L3
open PySem PySem.Spec PyProof.Rows L2 PySem.Builtin PySem.Builtin.Str
variable{X:Cx}{CL:BC}{b:Bx}{e o:Expr}{δ δ1 δ2:Ap}{pos apos:Pos}
theorem Vals.strsFrom:∀(k:Nat) (l:AT),Vals (l.map V.str) (strsFrom k l)
 | _,[]=>.nil
 | k,x::l=>.cons #[_,rfl] (Vals.strsFrom (k+1) l)
noncomputable def Aa(x y:Str):Bool:=!(y.length==0) && !(decide (x.length<y.length) || decide (strKind x<strKind y)) && !(occurrences x y 0 x.length (x.length+1)).isEmpty
noncomputable def splitM(x y:Str):AT:=partsBetween x (occurrences x y 0 x.length (x.length+1)) y.length
def YP:V->BS->Hp->VK->Prop:=λx vs H Q=>∃z y,x=.str z/\vs=[.str y]/\Aa z y=true/\z.length<=sizeLine/\(splitM z y).length<=sizeLine/\∀p,H p=none->Q (.ref p) (upd H p (.lst ((splitM z y).map V.str)))
def PN:Z7 X "str.split" YP:=by
 intro pins s U H x vs v us Q I a b h;obtain⟨z,y,rfl,rfl,bO,d,hp,q⟩:=h;obtain⟨t,rfl⟩:=a;obtain⟨u,rfl,c⟩:=b.one;obtain⟨t',rfl⟩:=c;unfold Aa at bO;simp only[et,jb]at bO;obtain⟨⟨h1,f⟩,e⟩:=bO;refine call_meets F.slot_str_split (ja _ _ _) tJ (so _ _) (meets_str_split_sep z y t t' f h1 e d hp) ?_;exact#[.ref _,_,I.OI (its:=strsFrom s.toks (splitM z y)) (Vals.strsFrom _ _) (by rw[d4];exact hp),rfl,q _ I.fresh]
def PR{z y:Str}{l:AT}(h1:bN X CL b o δ (.str z) δ1)(r:bN X CL b e δ1 (.str y) δ2)(bO:Aa z y=true)(n:z.length<=sizeLine)(q:splitM z y=l)(hp:l.length<=sizeLine)
  (s:attributeBase o "split" X.env (eval o X.env)=eval o X.env:=by rfl)
  (m:AB X pos e:=by rfl)
  (a:(apos.endLine==pos.line)=true:=by rfl) (f:AC X e []:=by exact aT rfl) :
  bw X CL b (.Call (.Attribute o "split" apos) [e] [] pos) δ (.lst ((l.map L3.D.str).map T.sh)) δ2:=λH Z U ts vs Q S k=>
 bH (sO nu PySem.F.slot_str_split PySem.F.type_str_split PN bX (bB bX cV f) s m a f rfl)
  (h1 H Z U ts vs _ S λv1 H1 Z1 h k1 v j=>by
   have e1:=j.sc rfl;subst e1;refine#[rfl,r H1 Z1 U ts vs _ v λv2 H2 Z2 g k2 u i=>?_];have e2:=i.sc rfl;subst e2;subst q;refine#[z,y,rfl,rfl,bO,n,hp,λp d=>?_];have rc:aD X.K CL Z2 ((splitM z y).map L3.D.str) ((splitM z y).map V.str):=aD.yI _;obtain⟨c,t⟩:=(bz.pT rc u).rG (g0:=[]) WE d;exact k _ _ _ (h.trans g) (k1.trans (k2.trans c)) t)
end L3
namespace L3
open PySem PySem.Spec PyProof.Rows L2
variable{X:Cx}{CL:BC}{b:Bx}{δ:Ap}{pos pp:Pos}{x:Str}
def c0{k n:Nat}{A:Type}{arg:A->BB}{Pre:A->Prop}{res:A->T}(a:A)(F:Fc X CL x k n arg Pre res)(i:Gl X x)(l:arg a=[])(hp:Pre a)(j:(res a).clean=true)(h:(arg a).length=n:=by rfl)
  (g:AD x:=by decide):bw X CL b (.Call (.Name x pp) [] [] pos) δ (res a) δ:=by
 obtain⟨f,fd,ps,p,m,kk,bb⟩:=F.ex;intro H Z U ts vs Q S k;refine bH (Oq p F.room i m kk bb .nil HS g) ?_;refine#[H,a,.refl _,λ_ _ q _=>q,by rw[l];exact .nil,h,hp,S.KL,λv H' W' fp c ww e nw tp rt nd own=>?_];obtain⟨Z',d,o⟩:=S.back c S.zh ww e nw tp rt nd own (.inr j);exact k v H' Z' d c o
noncomputable def K6:Key->D
 | .inl i=>.int i
 | .inr x=>.str x
noncomputable def jE(aN:CA)(k:Key):Option D:=(aN.find? λa=>decide (a.1=k)).map (·.2)
def sU(aN:CA)(k:Key)(d:D):CA:=
 if (aN.any λa=>decide (a.1=k))=true then aN.map (λa=>if a.1=k then(a.1,d) else a) else aN++[(k,d)]
variable{K:Frag}{H Z:Hp}{U:L2.St}{ts:Bn}{vs:BS}{v:V}{gs:Ch}{d:D}{aN:CA}
theorem bR.length{aN:CA}(h:bR K CL Z aN gs):aN.length=gs.length:=
 bR.ind (P:=λaN gs=>aN.length=gs.length) rfl (λ_ _ i=>congrArg _ i) h
variable{k:Key}
theorem bR.val{aN:CA}:bR K CL Z aN gs->(jE aN k=none/\iE gs k=none)\/∃d v,jE aN k=some d/\iE gs k=some v/\aY K CL Z d v:=
 bR.ind (P:=λaN gs=>(jE aN k=none/\iE gs k=none)\/∃d v,jE aN k=some d/\iE gs k=some v/\aY K CL Z d v) (.inl #[rfl,rfl]) λ{x d v _ _} h r i=>by
  by_cases e:x=k
  .exact .inr #[d,v,by simp[jE,e],mC e,h]
  .obtain⟨h1,a⟩|⟨c,v',h1,a,b⟩:=i
   .exact .inl #[by simpa [jE,e] using h1,by rw[j9 e];exact a]
   .exact .inr #[c,v',by simpa [jE,e] using h1,by rw[j9 e];exact a,b]
theorem bR.any{aN:CA}:bR K CL Z aN gs->(aN.any λa=>decide (a.1=k))=(gs.any λa=>decide (a.1=k)):=
 bR.ind (P:=λaN gs=>(aN.any λa=>decide (a.1=k))=(gs.any λa=>decide (a.1=k))) rfl λ_ _ i=>by rw[i3,i3,i]
theorem bR.ik(q:aY K CL Z d v){aN:CA}:bR K CL Z aN gs->bR K CL Z (aN.map (λa=>if a.1=k then(a.1,d) else a)) (gs.map (λa=>if a.1=k then(a.1,v) else a)):=
 bR.ind (P:=λaN gs=>bR K CL Z (aN.map (λa=>if a.1=k then(a.1,d) else a)) (gs.map (λa=>if a.1=k then(a.1,v) else a))) .nil λ{x _ _ _ _} h r i=>by
  rw[eJ,eJ];by_cases e:x=k
  .rw[di e,di e];exact .cons q i
  .rw[cq e,cq e];exact .cons h i
theorem bR.snoc(q:aY K CL Z d v){aN:CA}:bR K CL Z aN gs->bR K CL Z (aN++[(k,d)]) (gs++[(k,v)]):=
 bR.ind (P:=λaN gs=>bR K CL Z (aN++[(k,d)]) (gs++[(k,v)])) (.cons q .nil) λh _ i=>.cons h i
theorem bR.put(q:aY K CL Z d v)(r:bR K CL Z aN gs):bR K CL Z (sU aN k d) (putK gs k v):=by
 unfold sU putK;rw[r.any];split
 .exact r.ik q
 .exact r.snoc q
theorem aY.key(r:aY K CL Z (K6 k) v):v=kV k:=by
 cases k with
 | inl i=>exact r.sc rfl
 | inr x=>exact r.sc rfl
theorem bz.YO{p:Addr}(S:bz K CL b H Z δ U ts vs)(hp:H p=none):aB H (upd H p (.dK []))/\bz K CL b (upd H p (.dK [])) Z δ U (.iO []::ts) (.ref p::vs):=by
 obtain⟨fp,gp,e,r,nd,k⟩:=S.rep;have d:=S.zh.free hp;have sh:aB H (upd H p (.dK [])):=aB.upd hp;have keep:∀a∈fp++gp,a≠p:=λa c=>by
  have:∃o,H a=some o:=by
   obtain h|h:=eg.1 c
   .exact e.there a h
   .exact r.there a h
  obtain⟨o,q⟩:=this;exact aS q hp
 refine#[sh,#[#[fp,_,e.mono (.refl _) (λa c=>az (keep a (ft _ c))),.cons (.iO aJ .nil) (r.mono (.refl _) λa c=>az (keep a (by simp[c]))),?_,λa c=>?_],S.bh.trans sh,S.zz,S.zh.trans sh,S.new,λa o q i=>?_,S.tab]]
 .refine(List.perm_middle).nodup_iff.2 (hX.2 #[λh=>keep p h rfl,nd])
 .obtain h|h:=d3.1 ((List.perm_middle).mem_iff.1 c)
  .subst h;exact#[d,S.bh.free hp]
  .exact k a h
 .by_cases c:a=p
  .subst c;rw[aJ]at q;cases q;cases i
  .rw[az c]at q;exact S.tp a o q i
variable{i:Nat}
theorem bz.PV(k:Key)(S:bz K CL b H Z δ U (.sh d::ts) (v::vs))(hi:δ[i]? = some (some (.iO aN))) :
  ∃a gs,U[i]? = some (some (.ref a))/\H a=some (.dK gs)/\gs.length=aN.length/\bz K CL b (upd H a (.dK (putK gs k v))) Z (δ.set i (some (.iO (sU aN k d)))) U ts vs:=by
 obtain⟨fp,gp,e,r,nd,kk⟩:=S.rep;obtain⟨v0,f1,f2,l,hv,o,rt,put,_⟩:=e.get hi;subst o;cases rt with
 | @iO a gs _ p rs=>
  cases r with
  | @cons _ _ _ _ q j g n=>
   replace g:=g.KG;obtain⟨rfl,g⟩:=g;have ne:∀c∈(f1++l)++j,c≠a:=λc f e=>by
    subst e;have hp:((f1++([c]++l))++([]++j)).Perm (c::((f1++l)++j)):=by simp
    exact(hX.1 (hp.nodup_iff.1 nd)).1 f
   refine#[a,gs,hv,p,rs.length.symm,?_];have m:aZ K CL (upd H a (.dK (putK gs k v))) Z _ _ [a]:=.iO aJ (rs.put g);have e2:=put (.refl _) (λc f=>az (ne c (by
    obtain h|h:=eg.1 f
    .simp[h]
    .simp[h]))) m
   rw[ki hv]at e2;exact S.Pp rfl kk WE e2 (n.mono (.refl _) λc f=>az (ne c (by simp[f]))) nd λc f=>f
section
abbrev _root_.EO:=List (Key×L3.D)
variable{δ1 δ2:Ap}{e e1 e2:Expr}{d:L3.D}{D:cy}{ps:Pos}{cZ:CO}{aN:EO}
def Il:bw X CL b (.Dict [] [] pos) δ (.iO []) δ:=λH Z U ts vs Q S kk=>bH OV λp hp=>by
 obtain⟨c,a⟩:=S.YO hp;exact kk _ _ Z (.refl _) c a
theorem YI(k:Key)(u:X.A.units+64<cLine)(n:Vn X i x)(h:bw X CL b e δ (.sh d) δ1)(r:bN X CL b e2 δ1 (K6 k) δ1)(h1:δ1[i]? = some (some (.iO aN)))(o:aN.length<=1000000)(kk:cg X CL b cZ (δ1.set i (some (.iO (sU aN k d)))) D)
  (m:swapsWith e (some (.Subscript (.Name x pp) e2 ps)) pos.line X.env=pure false:=by rfl) :
  cg X CL b (.Assign [.Subscript (.Name x pp) e2 ps] e pos::cZ) δ D:=bG λH Z U ts vs E S M=>
 nQ (U5 Wl (jS n.hi n.hv n.hd n.gX) bX bX m) (h H Z U ts vs _ S λv H1 Z1 j k1 f=>by
  obtain⟨v0,e0,_⟩:=f.look h1;refine#[v0,e0,r H1 Z1 U _ _ _ f λv2 H2 Z2 g k2 t l=>?_];obtain⟨a,gs,c,q,p,s⟩:=t.PV k h1;rw[e0]at c;cases c;exact#[a,_,rfl,l.key▸OQ.k q (by rw[p];exact pl o WA),λ_=>M.nx _ U _ Z2 (j.trans g) s kk])
theorem Vw(k:Key)(r:X.A.units+64<cLine)(h1:bN X CL b e1 δ (.iO aN) δ1)(o:bN X CL b e2 δ1 (K6 k) δ2)(e:jE aN k=some d)(m:EW e2:=by exactλ_ _=>rfl):bN X CL b (.Subscript e1 e2 pos) δ d δ2:=λH Z U ts vs Q S kk=>
 bH (U4 Wl bX bX m) (h1 H Z U ts vs _ S λv H1 Z1 g k1 q l=>o H1 Z1 U ts vs _ q λv2 H2 Z2 f k2 p j=>by
  cases l with
  | @iO a gs _ n h=>
   have c:=h.mono k2;rcases c.val (k:=k) with⟨h0,_⟩|⟨s,v',h0,hv,i⟩
   .rw[e]at h0;cases h0
   .rw[e]at h0;cases h0;refine#[a,v',rfl,?_,kk v' H2 Z2 (g.trans f) (k1.trans k2) p i];rw[j.key,<- hv];exact tH.k (k2 _ _ n))
def vm(a:bR K CL Z aN gs):(iE gs k).isSome=(jE aN k).isSome:=by
 rcases a.val (k:=k) with⟨h0,h1⟩|⟨b,v',h0,h1,_⟩
 .rw[h0,h1];rfl
 .rw[h0,h1];rfl
theorem Vx(k:Key)(m:X.A.units+64<cLine)(h1:bN X CL b e1 δ (K6 k) δ1)(i:bN X CL b e2 δ1 (.iO aN) δ2)(hm:behindInMarks .NotIn e2=false) :
  kQ X CL b (.Compare e1 [.NotIn] [e2] pos) δ (!(jE aN k).isSome) δ2:=λH Z U ts vs Q S kk=>
 pR (zA (KD Wl bX bX) hm) (h1 H Z U ts vs _ S λv H1 Z1 d k1 l g=>i H1 Z1 U ts vs _ l λv2 H2 Z2 c k2 j f=>by
  cases f with
  | @iO a gs _ h e=>
   refine#[a,iE gs k,rfl,by rw[g.key];exact tH.k h,_,rfl,?_];rw[vm e];exact kk H2 Z2 (d.trans c) (k1.trans k2) j)
end
variable{t:T}{w:V}{f c:Str}{NT:B1}
theorem cG.Vy{b:BY}(rt:aZ K CL H Z t v b):∀{E7:B1} {gs:Bz} {fp:BY},cG K CL H Z (E7++(f,.sh (.val v))::NT) gs fp->∃a,cG K CL H Z (E7++(f,t)::NT) gs a/\a.Perm (fp++b)
 | [],_,_,r=>by
  cases r with
  | @cons _ _ v' _ _ f1 gp h r=>
   replace h:=h.KG;obtain⟨rfl,h⟩:=h;cases h;exact#[ _,.cons rt r,i8]
 | (y,u)::E7,_,_,r=>by
  cases r with
  | @cons _ _ v' _ _ f1 gp h r=>
   obtain⟨a,c,p⟩:=cG.Vy rt r;refine#[ _,.cons h c,?_];rw[eB];exact p.append_left f1
theorem bz.Vy{E7:B1}(S:bz K CL b H Z δ U (.ins c (E7++(f,.sh (.val v))::NT)::t::ts) (w::v::vs)):bz K CL b H Z δ U (.ins c (E7++(f,t)::NT)::ts) (w::vs):=by
 obtain⟨fp,gp,e,r,nd,k⟩:=S.rep;cases r with
 | @cons _ _ _ _ g1 g2 n m=>
  cases m with
  | @cons _ _ _ _ g3 g l j=>
   obtain⟨a,dx,gs,h,rfl,rfl,q,i⟩:=n.OX;obtain⟨s,d,p⟩:=cG.Vy l i;have pm:(fp++((a::s)++g)).Perm (fp++((a::h)++(g3++g))):=by
    refine lb fp ?_;rw[<- eB];refine List.Perm.append_right g ?_;simp_all
   exact#[#[fp,_,e,.cons (.ins q d) j,pm.nodup_iff.2 nd,λc o=>k c (pm.mem_iff.1 o)],S.bh,S.zz,S.zh,S.new,S.tp,S.tab]
def u6(X:Cx)(CL:BC)(b:Bx)(es:CC)(δ:Ap)(dv:V->BB)(t:T)(δ':Ap):Prop:=
 ∀(H Z:Hp) (U:L2.St) (ts:Bn) (vs:BS) (Q:EN),bz X.K CL b H Z δ U ts vs →
  (∀us H' Z' v,aB Z Z'->aB H H'->bz X.K CL b H' Z' δ' U (t::ts) (v::vs)->aD X.K CL H' (dv v) us->Q us H')->xP X es U H Q
theorem T.vn{f:Str}{v:V}{NT:B1}(a:T.bY NT=true):∀{E7:B1},T.bY E7=true->T.bY (E7++(f,.sh (.val v))::NT)=true
 | [],_=>‹_›
 | (x,t)::E7,h=>by
  rw[T.bY,et]at h;rw[g4,T.bY,h.1,T.vn a h.2];rfl
variable{δ1 δ2:Ap}{e:Expr}{es:CC}{ds:BB}{d:D}{dv:V->BB}
def PX(h:bw X CL b e δ t δ1)(r:BL X CL b es δ1 ds δ2)(f:notStar e=true:=by rfl):u6 X CL b (e::es) δ (λv=>.val v::ds) t δ2:=λH Z U ts vs Q S k=>
 xQ (bB bX zN (aT f)) (h H Z U ts vs _ S λv H1 Z1 c k1 i=>r H1 Z1 U _ _ _ i λus H2 Z2 a k2 g d=>k _ H2 Z2 v (c.trans a) (k1.trans k2) g (.cons (.val v) d))
def CD(h:bN X CL b e δ d δ1)(r:u6 X CL b es δ1 dv t δ2)(i:notStar e=true:=by rfl):u6 X CL b (e::es) δ (λv=>d::dv v) t δ2:=λH Z U ts vs Q S k=>
 xQ (bB bX zN (aT i)) (h H Z U ts vs _ S λv H1 Z1 c k1 l g=>r H1 Z1 U ts vs _ l λus H2 Z2 v2 a k2 j f=>k _ H2 Z2 v2 (c.trans a) (k1.trans k2) j (.cons (g.mono k2) f))
variable{A:Type}{k n:Nat}{arg:A->BB}{Pre:A->Prop}
theorem HI{res:A->B1}(a:V->A){E7:B1}(F:Fm X CL x k n arg Pre res)(w:Gl X x)(h:u6 X CL b (e::es) δ dv t δ1)(E:∀v,arg (a v)=dv v)(hp:∀v,Pre (a v))(g:∀v,res (a v)=E7++(f,.sh (.val v))::NT)(z:T.bY E7=true)(C:T.bY NT=true)(u:∀v,(arg (a v)).length+1=n:=by exactλ_=>rfl)
  (p:AD x:=by decide) (he:AC X e es:=by exact aT rfl) (hpl:AL X pos es:=by rfl) :
  bw X CL b (.Call (.Name x pp) (e::es) [] pos) δ (.ins x (E7++(f,t)::NT)) δ1:=λH Z U ts vs Q S kk=>by
 obtain⟨G,fd,ps,M,D,hm,B⟩:=F.ex;exact bH (HL M D F.room w hm B .nil HS zN p he hpl) (h H Z U ts vs _ S λus H1 Z1 v l k1 d r y dx s c ne=>by
  rw[e6];refine#[H1,H1,a v,y,dx,us,rfl,s,c,ne,rfl,.refl _,λ_ _ q _=>q,WF,u v,hp v,d.KL,λH' W' fp i ww o nw tp rt nd own=>#[rfl,?_]];obtain⟨Z',m,j⟩:=d.back i d.zh ww o nw tp rt nd own (.inr (by rw[g];exact T.vn C z));rw[g]at j;exact kk _ H' Z' (l.trans m) (k1.trans i) j.Vy)
namespace Rv
def K7:PySem.Slot "reversed" "__init__" "object.__init__":=
 .of (owner:="object") (n:="__init__") (by rw[typeLookup_type,builtinLookup_eq_fast];kernel_rfl) Wp Wp Wp
  (by first|exact .inl Wp|exact .inr Wp) (by rw[isSubtype_type];kernel_rfl)
noncomputable def called:TypeCalled "reversed" "reversed.__new__" "object.__init__":=
 #[Wp,Wp,#[_,_,PySem.F.mro_reversed],PySem.F.made_reversed,Wp,PySem.F.sub_reversed_self,K7]
def obj(t:Addr)(i:Int):Obj:={cls:=.type "reversed",data:=.fields (List.toArray [.ref t,rawInt i])}
def Is(h:Heap)(a t:Addr)(i:Int):Prop:=∃o,h.get? a=some o/\o.cls=.type "reversed" /\ o.data=.fields (List.toArray [.ref t,rawInt i])
end Rv
section
inductive xk:Expr->Int->Prop
 | c {i:Int} {k:Nat} {p:Pos}:xk (.Constant (.int i) k p) i
 | n {i:Int} {k:Nat} {p q:Pos}:xk (.UnaryOp .USub (.Constant (.int i) k p) q) (-i)
inductive Im:CC->BN->Prop
 | nil:Im [] []
 | cons {e:Expr} {x:Int} {es:CC} {l:BN}:xk e x->Im es l->Im (e::es) (x::l)
theorem Vz{l:BN}(h:Im es l:=by repeat constructor):Ek X CL b es δ ((l.map D.int).map T.sh) δ:=by
 induction h with
 | nil=>exact dX
 | cons r _ i=>
  cases r with
  | c=>exact bF gZ i (aT rfl)
  | n=>exact bF (cI (ak gZ)) i (aT rfl)
end
variable{e1 e2:Expr}{ds xU:BB}
theorem bz.VA{d:L3.D}(S:bz K CL b H Z δ U (.sh d::ts) (v::vs)):aY K CL Z d v:=by
 obtain⟨fp,gp,e0,a,nd,f⟩:=S.rep;cases a with
 | cons c e=>
  obtain⟨rfl,r⟩:=c.KG;exact r
theorem PY(h1:bw X CL b e1 δ (.sh (.tup ds)) δ1)(q:bw X CL b e2 δ1 (.sh (.tup xU)) δ2)(n1:ds≠[])(n2:xU≠[])(u:ds.length+xU.length<=sizeLine) :
  bw X CL b (.BinOp e1 .Add e2 pos) δ (.sh (.tup (ds++xU))) δ2:=λH Z U ts vs Q S k=>
 bH (Hz UT bX bX) (h1 H Z U ts vs _ S λv1 H1 Z1 l k1 t=>q H1 Z1 U _ _ _ t λv2 H2 Z2 j k2 e=>by
  have m:=e.VA;have n:=e.pop.VA;obtain⟨_,_,rfl,f,h⟩:=n.pQ;obtain⟨_,_,rfl,o,d⟩:=m.pQ;have e1:=h.length;have e2:=d.length;refine#[_,_,_,_,rfl,rfl,aB.OW e.zh f,aB.OW e.zh o,λz=>n1 (wq (by rw[e1,z];rfl)),Wl,λz=>absurd (wq (by rw[e2,z];rfl)) n2,λ_ p hp=>?_];have rc:=aD.app h d;obtain⟨a,c,s⟩:=(bz.pT rc e.pop.pop).uP (by simp[rc.length,e1,e2]) hp;obtain⟨r,i,g⟩:=s.zO;rw[T.d7,iC]at g;exact k _ _ r (l.trans (j.trans (a.trans i))) (k1.trans (k2.trans c)) g)
variable{ι:Nat->Nat}
noncomputable def turned(ι:Nat->Nat)(i j:Nat):Nat->Nat:=λk=>if i<=k/\k<j then ι (i+j-1-k) else ι k
def HN(hi:X.N[i]? = some x)(h:X.env.scope.names.lookup x=some .local)(hf:X.fn x=true)(hd:AD x:=by decide)(a:AE x:=by decide):Ln X i x:=#[#[hi,.inl h,hd,a],.inl h,.inl hf]
def HR(hi:X.N[i]? = some x)(h:X.env.scope.names.lookup x=some .cell)(hf:X.fn x=true)(hd:AD x:=by decide)(a:AE x:=by decide):Ln X i x:=#[#[hi,.inr (.inl h),hd,a],.inr h,.inl hf]
variable{δc:Ap}{scope:Scope}{y:Str}{Nc:AT}{ix:Cc}{elt iter:Expr}{ifs:CC}{px pc:Pos}{p:L3.D->Bool}{g:L3.D->T}
def VB(sc:gu X scope y Nc ix):iP X scope [y] Nc ix:=#[sc.kind,sc.zX,sc.nd,sc.names,(λx a=>by rw[eC]at a;subst a;exact sc.own),sc.frees,sc.hd,sc.oC]
def zu(sc:gu X scope y Nc ix)(h:Block X CL scope Nc ifs elt δc ds p g)(h1:AD y)(c:AE y):vf X CL scope Nc [y].length (.Name y px) part1 ifs elt δc ds p g:=λC s0 b f0 a=>
 #[vd sc.nd (PF (by rw[sc.hd];rfl) sc.own h1 c),λd hd=>#[[d],rfl,rfl,(h C s0 b f0 a d hd).1,(h C s0 b f0 a d hd).2]]
def iZ(sc:gu X scope y Nc ix)(c:X.calm=true)(h:NR X CL b (.Name y px) iter δ ds δ1)(e:(δc=pU δ1 ix/\∀d∈ds,(g d).clean=true)\/δc=pV δ1 ix)(inner:Block X CL scope Nc ifs elt δc ds p g)(hlen:ds.length<=sizeLine)
  (a:AN X iter:=by intro _;rfl) (h1:AD y:=by decide) (f:AE y:=by decide):bw X CL b (.ListComp elt [#[.Name y px,iter,ifs,0]] scope pos) δ (.lst ((ds.filter p).map g)) δ1:=
 Pz (VB sc) c (Cv h) e (zu sc inner h1 f) hlen a
variable{cZ:CO}
def E8{D:cy}{pos':Pos}{gg:L3.D->T}(g:Gx X)(n:Ln X i x)(sc:gu X scope y Nc ix)(h:NR X CL b (.Name y px) iter δ ds δ1)(f:(δc=pU δ1 ix/\∀d∈ds,(gg d).clean=true)\/δc=pV δ1 ix)(inner:Block X CL scope Nc ifs elt δc ds p gg)
  (hlen:ds.length<=sizeLine) (k:cg X CL b cZ (δ1.set i (some (.lst ((ds.filter p).map gg)))) D) (e:i<δ1.length)
  (a:swapsWith (.ListComp elt [#[.Name y px,iter,ifs,0]] scope pc) (some (.Name x pos')) pos.line X.env=pure true\/swapsWith (.ListComp elt [#[.Name y px,iter,ifs,0]] scope pc) (some (.Name x pos')) pos.line X.env=pure false) (c:AN X iter:=by intro _;rfl)
  (h1:AD y:=by decide) (j:AE y:=by decide):cg X CL b (.Assign [.Name x pos'] (.ListComp elt [#[.Name y px,iter,ifs,0]] scope pc) pos::cZ) δ D:=
 Y1 g n (VB sc) (Cv h) f (zu sc inner h1 j) hlen k e a c
variable{d:L3.D}
def aq(n:Ln X i x)(h:δ[i]? = some (some (.sh d)):=by rfl):bN X CL b (.Name x pos) δ d δ:=ak (v_ n.1 h)
structure CF(X:Cx):Prop where
 g:Gx X
 u:X.A.units+64<cLine
def qb{N P:AT}{sc:Scope}(h1:sc.kind=.function:=by rfl)(f:sc.isCoroutine=false:=by rfl)(e:sc.isGenerator=false:=by rfl)(d:N.Nodup:=by decide +kernel)(c:N.take P.length=P:=by rfl)(b:∀x∈P,sc.names.lookup x=some .local\/sc.names.lookup x=some .cell:=by decide +kernel)(a:∀y∈sc.names,y.2 ≠ .free:=by decide +kernel):dm N P sc:=#[h1,f,e,d,c,b,a]
variable{y:Addr}
noncomputable def Ab(H:Hp)(gp:BY):Hp:=λc=>if c∈gp then none else H c
variable{gp:BY}
def PZ{c:Addr}(h:c∉gp):Ab H gp c=H c:=cq h
def Io{c:Addr}(h:c∈gp):Ab H gp c=none:=di h
def rK{c:Addr}{o:HO}(h:Ab H gp c=some o):c∉gp/\H c=some o:=by
 by_cases a:c∈gp
 .rw[Io a]at h;cases h
 .rw[PZ a]at h;exact#[a,h]
def Keeps(δ:Ap)(ol:Bn):Prop:=∀(j:Nat) (y:Addr) (t:T),ol[j]? = some (T.pin y t)->δ[j]? = some (some (T.pin y t))
noncomputable def vo(N:AT)(al:Bn):Ap:=al.map some++List.replicate (N.length-al.length) none
def CG{al:Bn}(n:Nat):aP K CL H Z al vs gp->dU K CL H Z (al.map some++List.replicate n none) (vs.map some++List.replicate n none) gp:=
 aP.ind (P:=λal vs gp=>dU K CL H Z (al.map some++List.replicate n none) (vs.map some++List.replicate n none) gp) (jg (ds:=[]) (vs:=[]) n .nil) λr _ i=>.cons r i
section
variable{D:cy}
def pE(X:Cx)(CL:BC)(b:Bx)(e:Expr)(δ:Ap)(t:T)(δ':Ap):Prop:=
 ∀(H Z:Hp) (U:L2.St) (ts:Bn) (vs:BS) (Q:VK),bz X.K CL b H Z δ U ts vs->(∀v H' Z',aB Z Z'->bz X.K CL b H' Z' δ' U (t::ts) (v::vs)->Q v H')->xO X e U H Q
theorem bw.m(h:bw X CL b e δ t δ1):pE X CL b e δ t δ1:=λH Z U ts vs Q S k=>h H Z U ts vs Q S λv H' Z' z _ a=>k v H' Z' z a
def P0(h:pE X CL b e δ t δ1)(k:D.nx δ1)(c:swapsWith e none pos.line X.env=pure false:=by rfl):O2 X CL b (.Expr e pos) δ D:=λH Z U ts vs E S M=>nQ (pM bX c) (h H Z U ts vs _ S λv H1 Z1 a d=>M.nx δ1 U H1 Z1 a d.pop k)
def Ac(h:pE X CL b e δ t δ1)(k:cg X CL b cZ δ1 D)(a:swapsWith e none pos.line X.env=pure false:=by rfl):cg X CL b (.Expr e pos::cZ) δ D:=bG (P0 h k a)
end
variable{o:Expr}{apos:Pos}
theorem VC{l:AT}{its:B0}(r:Vals (l.map V.str) its):∃ps:List (Str×Tok),its=strValues ps/\ps.map (·.1)=l:=by
 induction l generalizing its with
 | nil=>cases r;exact#[[],rfl,rfl]
 | cons x l a=>
  rw[eJ]at r;cases r with
  | cons r rs=>
   obtain⟨t,rfl⟩:=r;obtain⟨ps,e1,e2⟩:=a rs;exact#[(x,t)::ps,by rw[e1];rfl,by rw[eJ,e2]]
def VD:Z7 X "str.join" (λx vs H Q=>∃(z:Str) (p:Addr) (l:AT),x=.str z/\vs=[.ref p]/\lM X.K H p (l.map V.str)/\JoinOk z l=true/\Q (.str (Txt.join z l)) H):=by
 intro pins s U H x vs v us Q I a b h;obtain⟨z,p,l,rfl,rfl,f,bO,q⟩:=h;obtain⟨t,rfl⟩:=a;obtain⟨u,rfl,c⟩:=b.one;cases c;obtain⟨its,r,d,_⟩:=I.list f;obtain⟨ps,rfl,e⟩:=VC r;exact SC.join d.isList e bO λt' k=>#[.str _,H,I.tok k,#[_,rfl],q]
def VF{z:Str}{l:AT}(h1:bN X CL b o δ (.str z) δ1)(n:bN X CL b e δ1 (.lst (l.map L3.D.str)) δ2)(bO:JoinOk z l=true)
  (q:attributeBase o "join" X.env (eval o X.env)=eval o X.env:=by rfl)
  (j:AB X pos e:=by rfl)
  (a:(apos.endLine==pos.line)=true:=by rfl) (c:AC X e []:=by exact aT rfl) :
  bw X CL b (.Call (.Attribute o "join" apos) [e] [] pos) δ (.sh (.str (Txt.join z l))) δ2:=λH Z U ts vs Q S k=>
 bH (sO nu PySem.F.slot_str_join PySem.F.type_str_join VD bX (bB bX cV c) q j a c rfl)
  (h1 H Z U ts vs _ S λv1 H1 Z1 f k1 s i=>by
   have e1:=i.sc rfl;subst e1;refine#[rfl,n H1 Z1 U ts vs _ s λv2 H2 Z2 d k2 r h=>?_];obtain⟨p,us,rfl,m,g⟩:=h.lS;have e2:=g.strs;subst e2;exact#[z,p,l,rfl,rfl,m,bO,k _ _ _ (f.trans d) (k1.trans k2) (r.push (.str _))])
def zt(lo c:Int)(n:Nat):It:=#[λi _=>i<n,λi H x H'=>H'=H/\x=.int (lo+i*c),λi _=>n<=i]
theorem K8{P:Program}{w:World}{tg:Expr}(it:Addr)(lo c:Int)(n:Nat):Turn P w K tg (zt lo c n) [it] it (λi h=>IsRangeIter h it (lo+(i:Nat)*c) ((n:Int)-(i:Nat)) c) where
 mem:=eC.2 rfl
 obj:=λi h st b a=>by
  cases eC.1 a;exact#[_,st,λv z=>by
   have q:Data.fields _=Data.cell v:=z;cases q]
 keep:=λi h h' st k=>k it (eC.2 rfl) _ st
 item:=by
  intro X g hw j f i pins s U H E I hf st d;subst g hw j;obtain⟨f0,f1,f2,m,f4,l⟩:=hf it (eC.2 rfl);have W:=Walks.range (prog:=X.prog) (w:=X.w) (I.ok.hd f) it lo c n;refine W.item i s _ _ d st λv h' tk hv p kk=>?_;obtain⟨t,rfl⟩:=hv;have u:Inv X pins U H {s with heap:=h',toks:=tk}:=I.turned (λb o a e=>kk b o (by simpa using a) e) f0 f1 m f4 l;exact#[_,rfl,yp (s:={s with heap:=h',toks:=tk}) (n:="range_iterator") p rfl rfl WA #[.int (lo+i*c),H,u,#[t,rfl],#[rfl,rfl],p,λb a=>(hf b a).1]]
 done:=by
  intro X g hw j f i pins s U H E I hf st d;subst g hw j;obtain⟨f0,f1,f2,m,f4,l⟩:=hf it (eC.2 rfl);exact wpAny_pyNext_range_end (I.ok.hd f) st (by have:n<=i:=d;lia) λh' r=>#[rfl,I.turned (t':=s.toks) (λb o a e=>r b o a e) f0 f1 m f4 l]
 self:=λ_ _ _ _ _ st h=>wpAny_pyIter_rangeiter st h
noncomputable def kY(lo hi:Int):Nat:=((hi-lo+1) / 2).toNat
theorem step_size{lo hi:Int}(h0:0<=lo)(h1:lo<=1000)(b:0<=hi)(a:hi<=1000):Builtin.Range.rangeSize lo hi 2=(kY lo hi:Int)/\Builtin.Range.small lo hi 2=true:=by
 have e:Builtin.Range.rangeSize lo hi 2=(kY lo hi:Int):=by
  unfold Builtin.Range.rangeSize kY;simp only[show(2:Int) > 0 by decide,if_true];split<;>lia
 refine#[e,?_];unfold Builtin.Range.small;rw[e];unfold kY;simp only[Builtin.Range.rangeFitsLong,et,lr,fo,hI,show(2:Int) > 0 by decide,if_true];lia
variable{tg:Expr}
def Nw(ta:TA):TI:=λU H R=>ta U H λvs H1=>∃i j:Int,vs=[.int i,.int j,.int 2]/\(0<=i/\i<=1000/\0<=j/\j<=1000)/\R (zt i 2 (kY i j)) H1
theorem K9{a b c:Expr}{ta:TA}{p:Pos}(B:Gl X "range")(hm:X.mg "range" = none)(D:PA X [a,b,c] ta)(z:starEach [a,b,c] X.env=[(false,eval a X.env),(false,eval b X.env),(false,eval c X.env)]:=by rfl)(n:AR X b c:=by rfl) :
  PI X tg (.Call (.Name "range" p) [a,b,c] [] pos) (Nw ta):=by
 intro pins s U H R I h;refine Call_ (oM I B hm boot_range (o8 (cJ (D pos pins s U H _ I h) λus s1 ⟨vs,H1,E,u,k⟩=>?_) (by rw[z,n]) (by rw[n];rfl)));obtain⟨i,j,e,⟨k,y,x,w⟩,q⟩:=k;subst e;cases u with
 | cons r d=>
  cases d with
  | cons v d=>
   cases d with
   | cons g d=>
    cases d;obtain⟨t,rfl⟩:=r;obtain⟨t',rfl⟩:=v;obtain⟨f,rfl⟩:=g;obtain⟨A,l⟩:=step_size k y x w;refine call_range_3 WA ?_ (.inl (PyProof.noPylong_small WA));refine wpAny_pyIter_range (IsRange.new ..) l ?_;have m:=E.kept (t':=s1.toks) (h':=s1.heap.push {cls:=.type "range",data:=.fields (List.toArray [.int i t,.int j t',.int 2 f])}) λb o e=>ff _ e;refine#[_,[_],_,_,H1,rfl,m.kept (t':=s1.toks) λb o e=>ff _ e,K8 _ i 2 (kY i j),?_,λb C=>?_,q]
    .have e1:i+((0:Nat):Int)*2=i:=by lia
     have e2:((kY i j:Nat):Int)-((0:Nat):Int)=Builtin.Range.rangeSize i j 2:=by rw[A];lia
     show IsRangeIter _ _ (i+((0:Nat):Int)*2) (((kY i j:Nat):Int)-((0:Nat):Int)) 2;rw[e1,e2];exact hE _ rfl
    .cases eC.1 C;exact m.xK (ea _) (m.bO.fresh (ea _))
def nW(lo:Int)(n:Nat):BB:=(List.range n).map λ(i:Nat)=>D.int (lo+i*2)
variable{e3:Expr}{pr:Pos}
def P4(lo:Int)(n:Nat):aD K CL Z (nW lo n) ((List.range n).map λ(i:Nat)=>V.int (lo+i*2)):=by
 unfold nW;generalize List.range n=l
 induction l with
 | nil=>exact .nil
 | cons i r a=>exact .cons (.int _) a
theorem step_get{lo:Int}{j:Nat}{d:D}(h:(nW lo n)[j]? = some d):d=.int (lo+j*2)/\j<n:=by
 unfold nW at h;rw[fT]at h;cases e:(List.range n)[j]? with
 | none=>rw[e]at h;cases h
 | some i=>
  rw[e]at h;obtain⟨h1,a⟩:=gz.1 e;rw[gx]at h1;rw[List.getElem_range]at a;subst a;exact#[(e5 h).symm,h1]
def La{m n:Int}(hm:X.mg "range" = none)(h:BL X CL b [e1,e2,e3] δ [.int m,.int n,.int 2] δ1)(l:0<=m/\m<=1000/\0<=n/\n<=1000)(o:Gl X "range")
  (j:starEach [e1,e2,e3] X.env=[(false,eval e1 X.env),(false,eval e2 X.env),(false,eval e3 X.env)]:=by rfl) (q:AR X e2 e3:=by rfl) :
  NR X CL b tg (.Call (.Name "range" pr) [e1,e2,e3] [] pc) δ (nW m (kY m n)) δ1:=by
 refine#[_,K9 o hm zN j q,λH Z U ts vs R S k=>h H Z U ts vs _ S λd H1 Z1 c k1 p r=>?_];cases r with
 | cons g r=>
  cases r with
  | cons f r=>
   cases r with
   | cons e r=>
    cases r;rw[g.sc rfl,f.sc rfl,e.sc rfl];refine#[m,n,rfl,l,k _ _ #[Z1,_,c,k1,p,P4 m (kY m n),λi H2 s hi=>?_,λi H2 y H' s hi a=>?_,λH2 s=>?_]]
    .show i<kY m n;rw[nW,d4,gx]at hi;exact hi
    .rw[nW,d4,gx]at hi;refine#[a.1,?_];rw[fT,hU hi,a.2];rfl
    .show kY m n<=(nW m (kY m n)).length;rw[nW,d4,gx];exact ea _
def VG:lR X (binaryOp .Mult) (λx y H Q=>∃i n,x=.str i/\y=.int n/\MulOk i n/\Q (.str (Txt.mul i n)) H):=by
 intro pins s U H x y v u Q I b a h;obtain⟨i,n,rfl,rfl,c,q⟩:=h;obtain⟨t,rfl⟩:=b;obtain⟨t',rfl⟩:=a;exact SB.mul c λt' k=>#[.str (Txt.mul i n),H,I.tok _,#[_,rfl],q]
def Ip{n:Int}(h1:bN X CL b e1 δ (.str x) δ1)(a:bN X CL b e2 δ1 (.int n) δ2)(c:MulOk x n):bw X CL b (.BinOp e1 .Mult e2 pos) δ (.sh (.str (Txt.mul x n))) δ2:=mE VG h1 a rfl rfl rfl λ_ _ q=>#[x,n,rfl,rfl,c,q]
def YE(h:bN X CL b e δ (.lst ds) δ1)(he:∀whole,isTrue e X.env whole=(do let v ← whole;standAt e.pos;holding [v] (truthy v)):=by intro _;rfl):kQ X CL b e δ (!ds.isEmpty) δ1:=λH Z U ts vs Q S k=>
 pR (Oi bX he) (h H Z U ts vs _ S λv H1 Z1 c k1 g r=>by
  obtain⟨a,us,rfl,f,d⟩:=r.lS;refine#[_,.inl #[us,f,rfl],?_];have e:us.isEmpty=ds.isEmpty:=by
   have:=d.length;cases us<;>cases ds<;>simp at this ⊢
  rw[e];exact k H1 Z1 c k1 g)
noncomputable def CJ{α:Type}(aN:List (EM×α))(k:EM):Option α:=(aN.find? λa=>decide (a.1=k)).map (·.2)
def P5{α:Type}{p:EM×α}{r:List (EM×α)}{k:EM}(e:p.1=k):CJ (p::r) k=some p.2:=by simp[CJ,e]
def P6{α:Type}{p:EM×α}{r:List (EM×α)}{k:EM}(e:¬ p.1=k):CJ (p::r) k=CJ r k:=by simp[CJ,e]
theorem lO.length{aN:D1}{gs:Bi}(h:lO K CL Z aN gs):aN.length=gs.length:=
 lO.ind (P:=λaN gs=>aN.length=gs.length) rfl (λ_ _ i=>congrArg (· + 1) i) h
theorem fh.length{aN:Cf}{gs:Bi}{fp:BY}(h:fh K CL H Z aN gs fp):aN.length=gs.length:=
 fh.ind (P:=λaN gs _=>aN.length=gs.length) rfl (λ_ _ i=>congrArg (· + 1) i) h
def Lb:bootBuiltins "set" = some (.type "set"):=by decide +kernel
def P7{op a:CmpOp}{f g:Int->Int->Bool}{i j k:Int}(s:lR X (compareOp op) (Um λi j=>.bl (f i j)))(v:lR X (compareOp a) (Um λi j=>.bl (g i j)))(h1:bN X CL b e1 δ (.int i) δ1)(u:bN X CL b e2 δ1 (.int j) δ2)(t:bN X CL b e3 δ2 (.int k) δ2)(hm:lastMarks [op,a] [e2,e3]=false) :
  kQ X CL b (.Compare e1 [op,a] [e2,e3] pos) δ (f i j&&g j k) δ2/\bw X CL b (.Compare e1 [op,a] [e2,e3] pos) δ (.sh (.bl (f i j&&g j k))) δ2:=by
 constructor
 .intro H Z U ts vs Q S q;refine pR (Oh s v bX bX bX hm) (h1 H Z U ts vs _ S λv1 H1 Z1 d k1 p n=>u H1 Z1 U ts vs _ p λv2 H2 Z2 c k2 e m=>?_);rw[n.sc rfl,m.sc rfl];refine#[i,j,rfl,rfl,f i j,rfl,?_];cases hf:f i j with
  | false=>exact ite_ff #[false,rfl,by rw[hf]at q;exact q H2 Z2 (d.trans c) (k1.trans k2) e]
  | true=>
   refine ite_tt (t H2 Z2 U ts vs _ e λw r Z3 h k3 o l=>?_);rw[l.sc rfl];exact#[j,k,rfl,rfl,g j k,rfl,by rw[hf]at q;exact q r Z3 ((d.trans c).trans h) ((k1.trans k2).trans k3) o]
 .intro H Z U ts vs Q S q;refine bH (Og s v bX bX bX hm) (h1 H Z U ts vs _ S λv1 H1 Z1 d k1 p n=>u H1 Z1 U ts vs _ p λv2 H2 Z2 c k2 e m=>?_);rw[n.sc rfl,m.sc rfl];refine#[i,j,rfl,rfl,f i j,rfl,?_];cases hf:f i j with
  | false=>exact ite_ff (by rw[hf]at q;exact q _ H2 Z2 (d.trans c) (k1.trans k2) (e.push (.bl _)))
  | true=>
   refine ite_tt (t H2 Z2 U ts vs _ e λw r Z3 h k3 o l=>?_);rw[l.sc rfl];exact#[j,k,rfl,rfl,by rw[hf]at q;exact q _ r Z3 ((d.trans c).trans h) ((k1.trans k2).trans k3) (o.push (.bl _))]
def P8{d:Nat}{p2:Pos}(h:bN X CL b e1 δ .non δ1):kQ X CL b (.Compare e1 [.Is] [.Constant .none d p2] pos) δ true δ1/\bw X CL b (.Compare e1 [.Is] [.Constant .none d p2] pos) δ (.sh (.bl true)) δ1:=by
 constructor
 .exactλH Z U ts vs Q S k=>pR (zA (zy bX)) (h H Z U ts vs _ S λv H1 Z1 a k1 c r=>by
   cases r;exact#[_,rfl,by simpa using k H1 Z1 a k1 c])
 .exactλH Z U ts vs Q S k=>bH (Ew (zy bX)) (h H Z U ts vs _ S λv H1 Z1 a k1 c r=>by
   cases r;exact by simpa using k _ H1 Z1 a k1 (c.push (.bl true)))
noncomputable def jJ(ns:AT)(i:Nat)(q:Str):Bool:=decide (q∈ns.take i)
def P9(prog:Program)(w:World)(a:Addr)(n:Nat)(h:Heap):Prop:=∃S,h.SetOf (strKind prog w) a S n
theorem Ad:jG X (.builtin "len") (λxs H Q=>∃(p:Addr) (n:Nat),xs=[.ref p]/\H p=some (.ext (P9 X.prog X.w p n))/\n<=1000/\Q (.int n) H):=by
 intro pins s U H xs us Q I r h;obtain⟨p,n,rfl,hp,c,q⟩:=h;obtain⟨u,rfl,a⟩:=vals1 r;cases a;obtain⟨⟨S,o,es,ep,t,e,ex,b,_,_,_,hf,en⟩,_,_⟩:=I.bO p _ hp;exact call_len_set e ex b hf (by rw[en];lia) #[.int n,H,I.tok _,#[s.toks+1,by rw[en]],q]
def Lc{l:AT}{us:BS}(h:aD K CL Z (l.map D.str) us):us=l.map V.str:=by
 refine aD.ind (P:=λds us=>∀l:AT,ds=l.map D.str->us=l.map V.str) ?_ ?_ h l rfl
 .intro l e;cases l with
  | nil=>rfl
  | cons _ _=>cases e
 .intro d ds v vs r _ a l e;cases l with
  | nil=>cases e
  | cons x l=>
   obtain⟨e1,e2⟩:=hR e;subst e1;cases r;rw[a l e2];rfl
variable{aN:CA}
theorem YA(k:Key)(m:X.A.units+64<cLine)(h1:bN X CL b e1 δ (K6 k) δ1)(i:bN X CL b e2 δ1 (.iO aN) δ2)(hm:behindInMarks .In e2=false) :
  bw X CL b (.Compare e1 [.In] [e2] pos) δ (.sh (.bl (jE aN k).isSome)) δ2:=λH Z U ts vs Q S kk=>
 bH (Ew (Yf Wl bX bX) hm) (h1 H Z U ts vs _ S λv H1 Z1 d k1 l g=>i H1 Z1 U ts vs _ l λv2 H2 Z2 c k2 j f=>by
  cases f with
  | @iO a gs _ h e=>
   refine#[a,iE gs k,rfl,by rw[g.key];exact tH.k h,?_];rw[vm e];exact kk _ H2 Z2 (d.trans c) (k1.trans k2) (j.push (.bl _)))
section
variable{D:cy}
def Qa(h:δ[i]? = some (some t))(q:t.d7=d)(k:cg X CL b cZ (δ.set i (some (.sh d))) D):cg X CL b cZ δ D:=λH Z U ts vs E S M=>by
 subst q;obtain⟨v,Z',_,z,a⟩:=S.U7 h;exact k H Z' U ts vs E a.pop (M.mono z)
def Qc:lR X (binaryOp .Add) (λx y H Q=>∃a b ys,x=.ref a/\y=.ref b/\lN X.K H a []/\lN X.K H b ys/\Q (.ref b) H):=by
 intro pins s U H x y v u Q I j i h;obtain⟨a,b,ys,rfl,rfl,o,m,q⟩:=h;cases j;cases i;obtain⟨its,k,l,_⟩:=I.tuple o;obtain⟨t,w,p2,_⟩:=I.tuple m;have e1:=k.ug.2 rfl;subst e1;obtain⟨⟨cls,dd,data,sl⟩,d,e,n,hd⟩:=id l;obtain⟨⟨p,c,data2,r⟩,g,f,n2,hd2⟩:=id p2;simp only at e hd f hd2;subst e hd f hd2;exact concat_meets #[_,d,rfl] #[_,g,rfl] noFill_tuple_add seq_tuple_add PySem.F.slot_tuple_add IP (IM _ _)
   (tuple_addW0 a b #[] t.toArray n n2 dd c sl r rfl) #[d,g,.ref b,H,I,rfl,q]
def Qd(h1:bw X CL b e1 δ (.sh (.tup ds)) δ1)(g:bw X CL b e2 δ1 (.sh (.tup xU)) δ2)(n2:xU≠[])(n:ds.length+xU.length<=sizeLine) :
  bw X CL b (.BinOp e1 .Add e2 pos) δ (.sh (.tup (ds++xU))) δ2:=by
 cases ds with
 | cons d ds=>exact PY h1 g (hq _ _) n2 n
 | nil=>
   intro H Z U ts vs Q S k;exact bH (Hz Qc bX bX) (h1 H Z U ts vs _ S λv1 H1 Z1 i k1 o=>g H1 Z1 U _ _ _ o λv2 H2 Z2 h k2 a=>by
    have f:=a.VA;have l:=a.pop.VA;obtain⟨_,_,rfl,e,p⟩:=l.pQ;cases p;have c:=f;obtain⟨_,_,rfl,m,j⟩:=f.pQ;exact#[_,_,_,rfl,rfl,aB.OW a.zh e,aB.OW a.zh m,k _ _ Z2 (i.trans h) (k1.trans k2) (a.pop.pop.push c)])
end
end L3
namespace L2
open PySem PySem.Spec PyProof.Rows
noncomputable abbrev kZ:B0:=[.type "ValueError",.type "Exception",.type "BaseException",.type "object"]
def nF(fr:Cn)(h h':Heap):Prop:=∀b∈lK fr,∀o,h.get? b=some o->∃sl,h'.get? b=some {o with slots:=sl}
def gI(B:Heap)(l:Cn)(e C:Addr)(d:B2)(fl:D2)(h:Heap):Prop:=
 B.StaysIn h/\B.get? e=none/\h.FunFrames B l/\∃a vs,h.get? e=some a/\(a.cls=.ref C/\a.dict=d)/\a.data=.fields vs/\match fl with
  | none=>vs[1]? = some .none
  | some f=>∃T b ts,vs[1]? = some (.ref T)/\B.get? T=none/\T≠e/\h.get? T=some b/\b.data=.fields ts/\ts[3]? = some f
structure Lay(P:Program)(w:World)(l:Cn)(H:Hp)(h0:Heap)(H':Hp)(B h:Heap):Prop where
 bO:lY P w H' B
 keep:∀b o,h0.get? b=some o->H b=none->b∉lK l->B.get? b=some o
 free:∀b o,h0.get? b=some o->H b=none->H' b=none
 there:∀b o,h0.get? b=some o->b∉lK l->∃o',B.get? b=some o'
 mh:∀b xs,H b=some (.tup xs)->H' b=some (.tup xs)
 dO:∀b o u,H b=some (.d7 o u)->H' b=some (.d7 o u)
 mj:∀b ps,H b=some (.Ui ps)->∃more,H' b=some (.Ui (ps++more))
 fr:nF l h0 h
variable{H:Hp}{B h:Heap}
theorem Lay.un{P:Program}{w:World}{l:Cn}{h0:Heap}{H':Hp}{a:Heap}(y:Lay P w l H h0 H' B h)(st:B.StaysIn a)(fr:nF l h0 a):Un (lK l) [] H H' h0 a:=
 #[λb o z n m _=>st b o (y.keep b o z n m),λb o z _ m _=>fr b m o z,λb o z n _=>y.free b o z n,λb o z _=>by
  by_cases m:b∈lK l
  .obtain⟨sl,w⟩:=fr b m o z;exact#[_,w]
  .obtain⟨o',w⟩:=y.there b o z m;exact#[o',st b o' w],y.mh,y.dO,y.mj]
def CK(P:Program)(w:World):Ku:=λouter H s E ev s'=>∃(e C:Addr) (d:B2) (B:Heap) (H':Hp),ev=.ref e/\s'.os=s.os/\AllBare s'.gens/\gI B outer e C d (some .none) s'.heap/\Lay P w outer H s.heap H' B s'.heap/\E (.ref C) d H'
def XE(X:Cx)(W:XK):Value->Shared->Prop:=λev s'=>∃(e C:Addr) (d:B2) (pins:At) (U:St) (H H':Hp) (s:Shared) (B:Heap) (fl:D2),ev=.ref e/\Inv X pins U H s/\W (.ref C) d H'/\s'.os=s.os/\AllBare s'.gens ∧
 Lay X.prog X.w X.stack H s.heap H' B s'.heap/\gI B X.stack e C d fl s'.heap
theorem nF.up{fr:Cn}{h1 d base:Heap}(a:nF fr h h1)(f:h1.FunFrames base fr)(u:h1.UpToSlots d):nF fr h d:=λb c o i=>by
 obtain⟨sl,e⟩:=a b c o i;obtain⟨_,o',g,hd⟩:=f.mem c;rw[e]at g;cases g;obtain⟨j,e2⟩:=u b _ e hd;exact#[j,e2]
variable{M:Model}{A:Around}{E:BA}{s:Shared}{l outer:Cn}{env:Env}{e C L:Addr}{d:B2}{fl:D2}{f:Value}{Q:Dx}
theorem gI.there(x:gI B l e C d fl h):∃a,h.get? e=some a/\a.cls=.ref C/\a.dict=d:=by
 obtain⟨_,_,_,b,_,he,c,_⟩:=x;exact#[b,he,c]
theorem E9{a:Addr}{o:Obj}{vs:Db}{g:Db->Db}(he:h.get? a=some o)(hd:o.data=.fields vs) :
  (∀b,b≠a->(h.update a (Obj.mapFields g)).get? b=h.get? b)/\h.UpToSlots (h.update a (Obj.mapFields g)):=by
 have k:∀b,b≠a->(h.update a (Obj.mapFields g)).get? b=h.get? b:=λb ne=>Heap.get?_update_other _ _ ne.symm;refine#[k,λb c q nf=>#[ _,(k b λz=>?_).trans q]];simp_all
theorem gI.vp(x:gI B l e C d (some f) s.heap)(o:B2)(q:∀h',gI B l e C d (some (o.elim .none λb=>rawInt b)) h'->s.heap.UpToSlots h'->Q () {s with heap:=h'}):wpAny M A (setFlight (.ref e) o) Q E s:=by
 obtain⟨k1,k2,k3,h,vs,he,j,hd,T,n,ts,h1,i,ne,g,a,m⟩:=x;obtain⟨lt,_⟩:=uj.1 m;refine d5 (nc he hd h1 ?_);obtain⟨k,u⟩:=E9 g a;refine wpAny_setField g a lt (q _ #[λb c z=>(k b λy=>?_).trans (k1 b c z),k2,k3.of_keeps λb c z nf=>?_,h,vs,(k e ne.symm).trans he,j,hd,T,_,_,h1,i,ne,Heap.get?_update_self _ g (Obj.isFreed_of_fields (Obj.data_mapFields a _)),Obj.data_mapFields a _,by simp[lt]] u)
 .lia
 .obtain⟨sl,z⟩:=u b c z nf;exact#[_,z,rfl]
theorem gI.vy{m:String}(x:gI B l e C d (some f) s.heap)(o:B2)(q:∀h',gI B l e C d (some (o.elim .none λb=>rawInt b)) h'->s.heap.UpToSlots h'->Q () {s with heap:=h'}):wpAny M A (do
   if (← field (.ref e) 1) == .none then unsupported m
   setFlight (.ref e) o) Q E s:=by
 obtain⟨_,_,_,a,vs,he,g,hd,T,c,ts,h1,r⟩:=id x;refine d5 (nc he hd h1 ?_);exact x.vp o q
theorem zr{g:Obj}{vs:Db}{head:Value}{l:Bool}(m:A.frames=some (env::outer))(hf:env.frame=some L)(k1:B.StaysIn s.heap)(k2:B.get? e=none)(k3:s.heap.FunFrames B (env::outer))(he:s.heap.get? e=some g)(i:g.cls=.ref C/\g.dict=d)(hd:g.data=.fields vs)(lt:1<vs.size)
  (q:∀h',gI B (env::outer) e C d (some (rawInt L)) h'->s.heap.UpToSlots h'->Q () {s with heap:=h'}) :
  wpAny M A (do let a ← frameOf env;let I ← entryPlaceOf L l;let b ← EntryCells.newEntry head a .none (rawInt L) .none I;setField (.ref e) 1 b) Q E s:=by
 have nf:∀{b:Addr} {o:Obj},b∈lK (env::outer)->s.heap.get? b=some o->b≠e:=λ{b o} j z y=>by
  obtain⟨_,r,p,n⟩:=k3.mem j;simp_all
 refine d5 (wpAny_frameOf_fun m k3 hf λh1 h=>d5 (wpAny_entryPlaceOf λI hpl=>?_));refine d5 (wpAny_newObj_type ?_ (hpl.sizeOk5 _ _ _ _ _));have f:=(h.2.1 e λz=>nf z he rfl).trans he;have st:B.StaysIn h1:=λb o z=>(h.2.1 b λy=>by rw[(k3.mem y).1]at z;cases z).trans (k1 b o z);have c:=ff {cls:=.type "traceback",dict:=none,data:=.fields ([head,.ref L,.none,rawInt L,.none]++(if I.isEmpty then List.replicate 6 Value.none else I)).toArray} f;obtain⟨k,u⟩:=E9 c hd;have neT:=Nat.ne_of_gt (e4 f);have dd:=Obj.data_mapFields hd (·.setIfInBounds 1 (Value.ref h1.objs.size));have u0:s.heap.UpToSlots h1:=λb o z _=>h.2.2 b o z;have u1:=u0.trans ((Heap.UpToSlots.of_keeps λb o z=>ff _ z).trans u);refine wpAny_setField c hd lt (q _ #[λb o z=>(k b λy=>?_).trans (ff _ (st b o z)),k2,k3.of_keeps λb o z n=>?_,_,_,Heap.get?_update_self _ c (Obj.isFreed_of_fields dd),#[(Obj.cls_mapFields _ _).trans i.1,?_],dd,_,_,_,by simp[lt],st.fresh,neT,(k _ neT).trans (hE h1 rfl),rfl,?_] u1)
 .lia
 .obtain⟨sl,z⟩:=u1 b o z n;exact#[_,z,rfl]
 .rw[<- i.2];unfold Obj.mapFields;split<;>rfl
 rfl
theorem gI.note{a:Env}(x:gI B (env::outer) e C d fl s.heap)(l:A.frames=some (env::outer))(hf:env.frame=some L)(c:a.frame=env.frame)(q:∀h',gI B (env::outer) e C d (some (rawInt L)) h'->s.heap.UpToSlots h'->Q () {s with heap:=h'}) :
  wpAny M A (noteFrame (.ref e) a) Q E s:=by
 have p:noteFrame (.ref e) a=noteFrame (.ref e) env:=by unfold noteFrame PySem.frameOf;rw[c]
 rw[p];obtain⟨k1,k2,k3,t,vs,he,i,hd,r⟩:=id x;unfold noteFrame;simp only[hf];cases fl with
 | none=>
  refine d5 (nc he hd r ?_);exact zr l hf k1 k2 k3 he i hd (uj.1 r).1 q
 | some f=>
  obtain⟨T,v,ts,h1,D,ne,g,h,j⟩:=r;refine d5 (nc he hd h1 ?_);refine d5 (nc g h j ?_);by_cases w:(f==rawInt L)=true
  .rw[di w];refine eR (q _ ?_ (.refl _));simp_all
  .rw[cq w];obtain⟨k,u⟩:=E9 g h;refine d5 (wpAny_setField g h (uj.1 j).1 ?_);refine zr l hf (λb o z=>(k b λy=>?_).trans (k1 b o z)) k2 (k3.of_keeps λb o z n=>?_) ((k e ne.symm).trans he) i hd (uj.1 h1).1 λm f2 u2=>q m f2 (u.trans u2)
   .lia
   .obtain⟨sl,z⟩:=u b o z n;simp_all
section
variable{X:Cx}{pins:At}{U:St}
theorem Inv.Yy(I:Inv X pins U H s):lY X.prog X.w H (hideAll s.heap (lK X.stack)):=λa o e=>by
 refine(I.bO a o e).oK (λb u d q=>k4 _ q λhm=>?_) (λb q=>q) (λb xs q=>q);have c:=I.pJ b hm;simp_all
theorem Inv.Ys(I:Inv X pins U H s):s.heap.FunFrames (hideAll s.heap (lK X.stack)) X.stack:=funFrames_hide I.stack λenv he a b=>nH.2 #[env,he,b]
theorem Lay.up{P:Program}{w:World}{H':Hp}{h0 h':Heap}(y:Lay P w l H h0 H' B h)(f:gI B l e C d fl h)(u:h.UpToSlots h'):Lay P w l H h0 H' B h':=#[y.bO,y.keep,y.free,y.there,y.mh,y.dO,y.mj,y.fr.up f.2.2.1 u]
theorem Yp{W:XK}{ev:Value}{s':Shared}{E:BA}(c:X.stack=X.env::X.outer)(F:X.env.frame=some X.env.locals)(hex:X.ex=[])(f:X.fs=lK X.outer)(h:XE X W ev s') :
  wpAny (model X.prog X.w) X.A (leaving X.env ev) (λ_ y=>CK X.prog X.w X.outer X.h5 X.eh W ev y) E s':=by
 obtain⟨e,C,d,pins,U,H,H',s,B,fl,rfl,I,hw,r,t,hm,i⟩:=h;have D:X.A.frames=some (X.env::X.outer):=by rw[I.ok.frames,c]
 have f0:=i;rw[c]at i;refine d5 (i.note D F rfl λh1 f1 u1=>f1.vp _ λg f2 u2=>?_);have a:=hm.up f0 (u1.trans u2);have nx:∀{b:Addr},b∉X.ex:=λ{b} z=>by grind
 have low:∀{b:Addr} {o:Obj},X.eh.heap.get? b=some o->b∉lK X.outer->b∉lK _:=λ{b o} z n m=>by
  obtain w|w:=d3.1 (I.uG b m)
  .have h1:=e4 z;have g:=I.ok.above;rw[<- w]at g;exact absurd h1 (Nat.not_lt.2 g)
  simp_all
 refine#[e,C,d,B,H',rfl,r.trans I.os,t,#[f2.1,f2.2.1,f2.2.2.1.2.2,f2.2.2.2],#[a.bO,λb o z n m=>a.keep b o (I.base.keep b o z n (f▸m) nx) (I.base.free b o z n nx) (low z m),λb o z n=>?_,λb o z m=>?_,λb xs z=>a.mh b xs (I.base.mh b xs z),λb o u z=>a.dO b o u (I.base.dO b o u z),λb ps z=>?_,λb v o p=>?_],hw]
 .obtain⟨o',w⟩:=I.base.there b o z nx;exact a.free b o' w (I.base.free b o z n nx)
 .obtain⟨o',w⟩:=I.base.there b o z nx;exact a.there b o' w (low z m)
 .obtain⟨l,e1⟩:=I.base.mj b ps z;obtain⟨k,e2⟩:=a.mj b _ e1;exact#[l++k,by simp_all ]
 .obtain⟨sl,q⟩:=I.base.slot b o p (I.ok.Uk b ‹_›) ‹_› nx;obtain⟨x,j⟩:=a.fr b (by simp_all [c,lK,v]) _ q;exact#[x,j]
def Iq{W:XK}(a:X.stack=X.env::X.outer)(i:X.env.frame=some X.env.locals):PassesOwn (model X.prog X.w) X.A X.env (XE X W):=λev s' h=>by
 obtain⟨e,C,d,pins,U,H,H',s,B,fl,rfl,I,hw,c,f,hm,b⟩:=h;have g:X.A.frames=some (X.env::X.outer):=by rw[I.ok.frames,a]
 have f0:=b;rw[a]at b;refine b.note g i rfl λh1 f1 u1=>?_;refine gI.vy f1 _ λj f2 u2=>?_;rw[<- a]at f2;exact#[e,C,d,pins,U,H,H',s,B,_,rfl,I,hw,c,f,hm.up f0 (u1.trans u2),f2]
structure k6(K:Frag)(C:Addr):Prop where
 ex:∃nm q N bs bm hdct sn sub ab col dd k0 k1 k2 k3 k5,K.lookup C=some (excClassObj nm q C N bs bm hdct sn sub ab col dd k0 k1 k2 k3 k5 "ValueError.__new__")/\nsOkIn K N=true/\nsIn K N "__init__" = some none/\tailIn K kZ bm=true
theorem Nt{h':Heap}(I:Inv X pins U H s)(hm:Heap.MadeExcOf s.heap h' e (.ref C) []):Lay X.prog X.w X.stack H s.heap H (hideAll s.heap (lK X.stack)) h'/\gI (hideAll s.heap (lK X.stack)) X.stack e C none none h':=by
 obtain⟨t,he,a,d⟩:=hm.there;refine#[#[I.Yy,λb o z _ m=>k4 _ z m,λb o _ n=>n,λb o z m=>#[o,k4 _ z m],λb xs z=>z,λb o u z=>z,λb ps z=>#[#[],‹_› ],λb _ o q=>#[ _,hm.keeps _ _ q]],λb o q=>hm.keeps b o (kz _ q),?_,I.Ys.of_keeps λb o q _=>#[o,hm.keeps b o q,rfl],_,_,he,WE,rfl,rfl];cases c:(hideAll _ _).get? e with
 | none=>rfl
 | some o'=>have:=kz _ c;rw[hm.new]at this;cases this
def Ld{W:XK}{x:Str}{np gU pos:Pos}{D:Ends}(j:X.calm=true)(i:Gl X x)(hm:X.mg x=some (.ref C))(O:k6 X.K C)(hw:W (.ref C) none H)(hd:AD x:=by decide) :
  L3.OY (X.d0 (XE X W)) (.Raise (some (.Call (.Name x np) [] [] gU)) none pos) D U H:=λpins s I=>by
 have J:=I.c6;obtain⟨nm,q,N,bs,bm,hdct,sn,sub,ab,col,dd,k0,k1,k2,k3,k5,g,c,f,d⟩:=O.ex;have tl:=tail_of_in J.j7 d;refine wpAny_Raise_call_subT (nm:=nm) (q:=q) (N:=N) (bs:=bs) (k0:=k0) (k1:=k1) (k2:=k2) (k3:=k3) (k5:=k5) (dd:=dd) (col:=col) (ab:=ab) (sub:=sub) (sn:=sn) (hdct:=hdct) wd (tl.hasType rfl) (J.ok.hd j) rfl (PySem.W.nsMap_none_of_in J.j7 c f) (gE I i hm #[rfl,?_] hd);refine evalArgs_empty #[rfl,WE,J.j7 _ _ g,.of_isNs (isNs_of_in J.j7 c),tl,λh' e h=>?_];obtain⟨a,b⟩:=Nt J h;exact#[e,C,_,pins,U,H,H,s,_,_,rfl,J,hw,rfl,J.bare,a,b]
structure Lies(X:Cx)(pins:At)(U:St)(H:Hp)(s:Shared)(H':Hp)(e C:Addr)(d:B2)(B:Heap)(s':Shared):Prop where
 inv:Inv X pins U H s
 os:s'.os=s.os
 bare:AllBare s'.gens
 Qg:gI B X.stack e C d (some .none) s'.heap
 lay:Lay X.prog X.w X.stack H s.heap H' B s'.heap
variable{H':Hp}{s':Shared}
theorem Lies.now(L:Lies X pins U H s H' e C d B s'):Inv X pins U H' s':=L.inv.X7 L.os (L.lay.un L.Qg.1 L.lay.fr) (L.lay.bO.kept L.Qg.1) L.bare λb z=>absurd z eA
theorem Lies.move(L:Lies X pins U H s H' e C d B s'){h':Heap}{t':Nat}(hf:gI B X.stack e C d (some .none) h')(u:s'.heap.UpToSlots h'):Lies X pins U H s H' e C d B {s' with heap:=h',toks:=t'}:=
 #[L.inv,L.os,L.bare,hf,L.lay.up L.Qg u]
abbrev Cx.hand(X:Cx)(e:Addr):Cx:={X with A:=X.A.mark (some (.ref e)),calm:=false}
theorem Inv.hand(I:Inv X pins U H s)(e:Addr):Inv (X.hand e) pins U H s:=
 #[#[I.ok.mod,I.ok.kind,I.ok.glob,I.ok.blt,I.ok.above,I.ok.inj,I.ok.has,I.ok.Zu,WE,I.ok.frames,I.ok.ma,I.ok.r8,I.ok.bs,I.ok.N6,I.ok.Eu,I.ok.Kf,I.ok.pI,I.ok.Uk],I.os,I.bare,I.base,I.loc,I.cell,I.free,I.iU,I.pin,I.bO,I.len]
theorem Inv.Yk(ok:X.Ok)(I:Inv (X.hand e) pins U H s):Inv X pins U H s:=#[ok,I.os,I.bare,I.base,I.loc,I.cell,I.free,I.iU,I.pin,I.bO,I.len]
def Kw{Q:Flow->Shared->Prop}{h:List ExceptHandler}(f:X.stack=X.env::X.outer)(n:X.env.frame=some X.env.locals)(L:Lies X pins U H s H' e C d B s')
  (k:∀s3,Lies X pins U H s H' e C d B s3->wpAny (model X.prog X.w) X.A (handleBy (.ref e) X.env h) Q E s3) :
  wpAny (model X.prog X.w) X.A (noteFrame (.ref e) X.env) (λ_ b=>wpAny (model X.prog X.w) X.A (setFlight (.ref e) none) (λ_ a=>wpAny (model X.prog X.w) X.A (handleBy (.ref e) X.env h) Q E a) E b) E s':=by
 have m:X.A.frames=some (X.env::X.outer):=by rw[L.inv.ok.frames,f]
 have i:=L.Qg;rw[f]at i;refine i.note m n rfl λp g l=>gI.vp g _ λo c j=>k _ ?_;rw[<- f]at c;exact L.move c (l.trans j)
end
variable{X:Cx}
abbrev Cx.pinned(X:Cx)(p:At):Cx:={X with pn:=X.pn++p}
theorem Cx.Ok.pinned(ok:X.Ok)(p:At):(X.pinned p).Ok:=#[ok.mod,ok.kind,ok.glob,ok.blt,ok.above,ok.inj,ok.has,ok.Zu,ok.hd,ok.frames,ok.ma,ok.r8,ok.bs,ok.N6,ok.Eu,ok.Kf,ok.pI,ok.Uk]
theorem Inv.Yq{pins:At}{U:St}(I:Inv X pins U H s):Inv (X.pinned pins) [] U H s:=
 #[I.ok.pinned pins,I.os,I.bare,I.base,I.loc,I.cell,I.free,I.iU,(λp hp=>I.pin p (by rw[e6]at hp;exact hp)),I.bO,I.len]
theorem Inv.Qh{pins p2:At}{U:St}(ok:X.Ok)(I:Inv (X.pinned pins) p2 U H s):Inv X pins U H s:=
 #[ok,I.os,I.bare,I.base,I.loc,I.cell,I.free,I.iU,(λp hp=>I.pin p (ft _ hp)),I.bO,I.len]
end L2
namespace L3
open PySem PySem.Spec PyProof.Rows L2
abbrev Ex:=Str×Option Bz
noncomputable abbrev Ir(c:Str):Ex:=(c,none)
def NW(Z:Hp)(d:B2):Option Bz->Prop
 | none=>d=none
 | some fs=>∃dx,d=some dx/\Z dx=some (.xd fs)
variable{H:Hp}
theorem NW.j6{Z Z':Hp}{d:B2}{p:Option Bz}(h:NW Z d p)(zh:aB Z H)(tp:∀a o,H a=some o->gF o=true->Z' a=some o):NW Z' d p:=by
 cases p with
 | none=>exact h
 | some fs=>
  obtain⟨dx,e,q⟩:=h;exact#[dx,e,tp _ _ (zh _ _ q) rfl]
def dS(b:Bx)(E:XK)(C:Addr)(p:Option Bz:=none):Prop:=∀(H' Z':Hp) (d:B2),aB b.B H'->aB b.Z Z'->aB Z' H'->(∀a o,Z' a=some o->b.Z a=none->b.B a=none)->(∀a o,H' a=some o->gF o=true->Z' a=some o)->NW Z' d p->E (.ref C) d H'
variable{A:Type}
def ka(K:Frag)(CL:BC)(n:Nat)(arg:A->BB)(Pre:A->Prop)(exc:A->Ex):Sp:=λvs H _ E=>
 ∃(W:Hp) (a:A),aB W H/\(∀c o,H c=some o->gF o=true->W c=some o)/\aD K CL W (arg a) vs/\(arg a).length=n/\Pre a/\gY CL W/\dS #[H,W] E (CL (exc a).1) (exc a).2
section
variable{X:Cx}{CL:BC}{b:Bx}{δ δ1 δ2:Ap}{e:Expr}{es:CC}{cZ:CO}{D:cy}{x c:Str}{cx:Ex}{i:Nat}{pos pp:Pos}{W:XK}
def Ae{np gU:Pos}(d:X.calm=true)(a:Gl X c)(hm:X.mg c=some (.ref (CL c)))(O:k6 X.K (CL c))(e:dS b W (CL c))(hd:AD c:=by decide) :
  cg (X.d0 (XE X W)) CL b (.Raise (some (.Call (.Name c np) [] [] gU)) none pos::cZ) δ D:=bG λH Z U ts vs E S M=>
 Ld d a hm O (e H Z none S.bh S.zz S.zh S.new S.tp rfl) hd
structure qr(X:Cx)(CL:BC)(x:Str)(k n:Nat){A:Type}(arg:A->BB)(Pre:A->Prop)(exc:A->Ex):Prop where
 ex:∃f fd ps,eU X.prog X.w X.K X.mg X.base (CK X.prog X.w) k f fd ps (ka X.K CL n arg Pre exc)/\X.mg x=some (.ref f)/\keepIn X.K (.ref f)=true/\Binds X.K fd ps []
 room:dI k X.A
def Af(X:Cx)(CL:BC)(b:Bx)(Z:Hp)(δ1:Ap)(ts:Bn)(vs:BS)(C:Addr)(p:Option Bz)(ev:Value)(s':Shared):Prop:=
 ∃(e:Addr) (d:B2) (B:Heap) (pins:At) (U:L2.St) (H:Hp) (s:Shared) (H' Z':Hp),ev=.ref e/\Lies X pins U H s H' e C d B s'/\aB Z Z'/\bz X.K CL b H' Z' δ1 U ts vs/\NW Z' d p
def pv(X:Cx)(CL:BC)(b:Bx)(e:Expr)(δ:Ap)(c:Ex)(δ1:Ap):Prop:=
 ∀(H Z:Hp) (U:L2.St) (ts:Bn) (vs:BS),bz X.K CL b H Z δ U ts vs->xO (X.d0 (Af X CL b Z δ1 ts vs (CL c.1) c.2)) e U H λ_ _=>False
def FF(X:Cx)(CL:BC)(b:Bx)(st:CO)(δ:Ap)(c:Ex)(δ1:Ap):Prop:=
 ∀(H Z:Hp) (U:L2.St) (ts:Bn) (vs:BS) (D:Ends),bz X.K CL b H Z δ U ts vs->KH (X.d0 (Af X CL b Z δ1 ts vs (CL c.1) c.2)) st D U H
def Le{U:L2.St}{Q:EN}{E:BA}(a:X.xe=λ_ _=>False)(h:xP X es U H Q):xP (X.d0 E) es U H Q:=λpos pins s I=>
 gr (h pos pins s I.c6) (λus s' ⟨vs,H',b,r,q⟩=>#[vs,H',b.d0 E,r,q]) λev s' z=>by rw[a]at z;exact z.elim
theorem bz.grown{K:Frag}{H' Z W W':Hp}{U:L2.St}{ts:Bn}{vs:BS}(S:bz K CL b H Z δ U ts vs)(e:aB H H')(c:aB Z W)(ww:aB W W')(d:aB W' H')(new:∀a o,W' a=some o->W a=none->H a=none)
  (tp:∀a o,H' a=some o->gF o=true->W' a=some o):∃Z',aB Z Z'/\bz K CL b H' Z' δ U ts vs:=by
 obtain⟨Z',z,g⟩:=S.back e c ww d new tp (.sh .non) jP (λa f=>by cases f) (.inr rfl);exact#[Z',z,g.pop]
theorem VJ{k n:Nat}{arg:A->BB}{Pre:A->Prop}{exc:A->Ex}{f:Addr}{fd:FuncData}{ps:AT}{ds:BB}{dv:B0}{i:BS}(a:A)(T:X.xe=λ_ _=>False)(z:eU X.prog X.w X.K X.mg X.base (CK X.prog X.w) k f fd ps (ka X.K CL n arg Pre exc))(G:dI k X.A)(hm:X.mg x=some (.ref f))(W:keepIn X.K (.ref f)=true)(hb:Binds X.K fd ps dv)(L:Vals i dv)(hd:∀H ws,aD X.K CL H ds ws->aD X.K CL H (arg a) (ws++i))(hg:Gl X x)(h:BL X CL b (e::es) δ ds δ1)(hp:Pre a)(V:(arg a).length=n)(R:AD x)(he:AC X e es)(hpl:AL X pos es) :
  pv X CL b (.Call (.Name x pp) (e::es) [] pos) δ (exc a) δ1:=λH Z U ts vs S pins s I=>by
 have hA:xP X (e::es) U H λus H1=>∃Z1,aB Z Z1/\bz X.K CL b H1 Z1 δ1 U ts vs/\aD X.K CL H1 ds us:=h H Z U ts vs _ S λus H1 Z1 l k1 g r=>#[Z1,l,g,r];refine ky (gE I hg hm ?_ R);refine sv (h₀:=X.base) I.ok.mod.Uj W (cJ (Le T hA pos pins s I) λus s1 zz=>?_) he hpl;obtain⟨ws,H1,j,r,Z1,l,g,J⟩:=zz;refine#[j.j7,?_];have y:ka X.K CL n arg Pre exc (ws++i) H1 (λ_ _=>False) (λcv d H'=>cv=.ref (CL (exc a).1)/\∃Z',aB Z Z'/\bz X.K CL b H' Z' δ1 U ts vs/\NW Z' d (exc a).2):=#[H1,a,.refl _,λ_ _ q _=>q,hd _ _ J,V,hp,g.KL,λH' Z' d Y ww m nw tp pp=>#[rfl,by
  obtain⟨Z2,D,t⟩:=g.grown Y g.zh ww m nw tp;exact#[Z2,l.trans D,t,pp.j6 m t.tp]]]
 have o:Vals (ws++i) (us++dv):=r.append L;have p:=z.len _ _ _ _ y;rw[o.length]at p;refine i4 (lp (z.run X.A X.stack s1 H1 #[us,[]] _ _ _ _ G j.c6.UL (hb s1 us j.j7 p) o y) λF s' c=>?_);cases F with
 | error ev=>
  obtain⟨e1,C,d,B,H',rfl,P,O,N,M,hC,Z',E,S'⟩:=c;cases hC;exact#[e1,d,B,pins,U,H1,s1,H',Z',rfl,#[j.c6,P,O,N,M],E,S']
 | ok fl=>
  cases fl with
  | ret u=>
   obtain⟨v,H',_,_,_,_,_,q⟩:=c;exact q.elim
  | next=>exact False.elim c
  | brk=>exact False.elim c
  | cont=>exact False.elim c
def Yj{k n:Nat}{arg:A->BB}{Pre:A->Prop}{exc:A->Ex}(a:A)(d:X.xe=λ_ _=>False)(F:qr X CL x k n arg Pre exc)(j:Gl X x)(h:BL X CL b (e::es) δ (arg a) δ1)(hp:Pre a)(g:(arg a).length=n:=by rfl)
  (c:AD x:=by decide) (he:AC X e es:=by exact aT rfl) (hpl:AL X pos es:=by rfl) :
  pv X CL b (.Call (.Name x pp) (e::es) [] pos) δ (exc a) δ1:=by
 obtain⟨f,fd,ps,m,hm,i,l⟩:=F.ex;exact VJ a d m F.room hm i l .nil (λ_ ws r=>by rw[e6];exact r) j h hp g c he hpl
theorem pv.any{Z:Hp}{U:L2.St}{ts:Bn}{vs:BS}{Q:VK}(h:pv X CL b e δ cx δ1)(S:bz X.K CL b H Z δ U ts vs):xO (X.d0 (Af X CL b Z δ1 ts vs (CL cx.1) cx.2)) e U H Q:=λpins s I=>
 gr (h H Z U ts vs S pins s I) (λ_ _ ⟨_,_,_,_,q⟩=>q.elim) λ_ _ z=>z
def aa0(h:pv X CL b e δ cx δ1)(a:swapsWith e none pos.line X.env=pure false:=by rfl):FF X CL b (.Expr e pos::cZ) δ cx δ1:=λH Z U ts vs D S=>KJ (pL q1 NQ) (nQ (pM (X:=X.d0 (Af X CL b Z δ1 ts vs _ _)) bX a) (h.any S))
theorem Vn.pin{p:At}(h:Vn X i x):Vn (X.pinned p) i x:=#[h.hi,h.hv,h.hd,h.gX]
theorem qr.pin{p:At}{k n:Nat}{arg:A->BB}{Pre:A->Prop}{exc:A->Ex}(F:qr X CL x k n arg Pre exc):qr (X.pinned p) CL x k n arg Pre exc:=#[F.ex,F.room]
theorem Z0{body:CO}{h0:ExceptHandler}{c:List ExceptHandler}(a:X.xe=λ_ _=>False)(h:cg X CL b body δ {D with nx:=λδ2=>cg X CL b cZ δ2 D}):cg X CL b (.Try body (h0::c) [] [] pos::cZ) δ D:=bG λH Z U ts vs E S M pins s I=>by
 refine wpAny_Try_except (gr (h H Z U ts vs E S M pins s I) (λf s1 z=>?_) λev s1 z=>by rw[a]at z;exact z.elim);cases f with
 | next=>exact wpAny_execs_nil z
 | brk=>exact z
 | cont=>exact z
 | ret u=>exact z
end
end L3
namespace L2
open PySem PySem.Spec PyProof.Rows
structure jj(K:Frag)(D:Addr):Prop where
 ga:findIn K (.ref D) "__getattribute__" = some (some (.builtin "BaseException.__getattribute__"))
 gn:findIn K (.ref D) "__getattr__" = some none
 hd:hasDictIn K D=true
 fi:findIn K (.ref D) "__class__" = some (some (.builtin "object.__class__"))
 sp:PySem.W.specialIn K (.builtin "object.__class__") "__get__" = some (some (.builtin "getset_descriptor.__get__"))
 tk:PySem.W.takesIn K (.builtin "object.__class__")=some true
 mr:PySem.W.mroIn K D (.type "object")=some true
 mb:PySem.W.mroIn K D (.type "BaseException")=some true
def excAt(e D:Addr)(d:B2)(h:Heap):Prop:=∃o,h.get? e=some o/\(o.cls=.ref D/\o.dict=d)/\∃vs,o.data=.fields vs
section
variable{prog:Program}{w:World}{A:Around}{E:BA}{s:Shared}{K:Frag}{x D:Addr}{dE:B2}
open PySem.W in
def CM{M:Model}{a:Value}{Q:Dx}(ty:Looks M s.heap (typeOf (.ref x)) (.ref D))(d:Looks M s.heap (isSubtype (.ref D) (.type "BaseException")) true)(b:Q () s):wpAny M A (checkBuiltinCall "BaseException.__getattribute__" #[[.ref x,a],[]]) Q E s:=by
 obtain⟨hp,gn,g,tk,os⟩:=s;have c:builtinKind "BaseException.__getattribute__" = some .slot:=by decide +kernel
 have e:splitId "BaseException.__getattribute__" = some ("BaseException","__getattribute__"):=by decide +kernel
 have f:=F.args_bexc_ga (.ref x) a;simp only[checkBuiltinCall,c,e];refine d5 ?_;unfold isInstance;refine d5 (ty.at (d.at ?_))
 repeat (first|wp_step)
 exact b
open PySem PySem.Calls PyProof.Rows Builtin Builtin.ObjectAttr Builtin.Getset_descriptor PySem.W PySem.Builtin.ObjectAttr in
def Lf{Q:D2->Shared->Prop}(O:jj K D)(X:K.In s.heap)(d:excAt x D dE s.heap)(h:Q (some (.ref D)) {s with toks:=s.toks+1}):wpAny (model prog w) A (getAttr? (.ref x) "__class__") Q E s:=by
 obtain⟨hp,gn,l,tk,os⟩:=s;obtain⟨ox,c,⟨b,_⟩,_⟩:=d;have ty:Looks (model prog w) hp (typeOf (.ref x)) (.ref D):=b▸(Looks.ld c).andThen .now;have f1:=looks_findIn (M:=model prog w) X O.ga;have f2:=looks_findIn (M:=model prog w) X O.gn;have i:=looks_findIn (M:=model prog w) X O.fi;have f4:=looks_specialIn (M:=model prog w) X O.sp;have g:=looks_takesIn (M:=model prog w) X O.tk;have k:=looks_mroIn (M:=model prog w) X O.mr;have f:=looks_mroIn (M:=model prog w) X O.mb;have fd:Looks (model prog w) hp (find (.ref x) (.ref D) "__class__") (.bind (.builtin "getset_descriptor.__get__") (.builtin "object.__class__")):=
  i.andThen (f4.andThen ((show Looks (model prog w) hp (dataDescriptor? (some (.builtin "object.__class__")) (some (.builtin "getset_descriptor.__get__"))) (some (.builtin "getset_descriptor.__get__",.builtin "object.__class__")) from g.andThen .now).andThen (Looks.tag .now)))
 have e:=tf.ga.bind (.ref x);have j:builtinKind "BaseException.__getattribute__" = some .slot:=by decide +kernel
 have m:splitId "BaseException.__getattribute__" = some ("BaseException","__getattribute__"):=by decide +kernel
 unfold getAttr? getAttrBy? getAttrBy;refine d5 (wpAny_mkText (d5 (wpAny_attempt (jN (d5 (ty.at (d5 (f1.at ?_))))))));dsimp only;rw[cq (λq=>by rw[et]at q;exact absurd q.2 Wp)];unfold getAttrByItsOwn hookBefore;rw[di (show onTheHeap (.ref D)=true from rfl)];refine d5 (f2.at ?_);refine d5 (wpAny_attempt (jN ?_));unfold callGetattribute;rw[cq WA];unfold boundAndCalled;rw[e];refine d5 (eR ?_);refine i4 (o9 tf.ga.plain F.entry_bexc_ga (CM ty f ?_));unfold Builtin.«object.__getattribute__»
 iterate 10 lk
 refine d5 (eR (a:=("__class__":Str)) (d5 (ty.at (d5 (fd.at ?_)))));show wpAny _ _ (holding [_] (call _ [_,.ref x,.ref D]) >>= ret) _ _ _;refine d5 (jN (i4 ?_));refine o9 KF.slot_gs.plain KF.entry_gs (KF.slot_gs.check _ _ _ _ _ _ _ _ KF.type_class (KF.args_gs _ _ _) ?_);unfold Builtin.«getset_descriptor.__get__» descrGet;rw[dga_obj];refine d5 (eR ?_);unfold descrGetter descrCheckInstance descrNameAndClass isInstance;simp only[KF.owner_class]
 repeat lk
 refine#[sk _ Wp,codeAny_builtin KF.entry_class ?_];unfold Builtin.«object.__class__» shownTypeOf
 repeat lk
 first|exact h|exact handed_on rfl h|exact eR (handed_on rfl (eR h))
theorem jj.there(O:jj K D):∃c d cd sl,K.lookup D=some #[c,d,.cls cd,sl]:=by
 obtain⟨cd,q,_⟩:=PySem.W.any_some O.hd;unfold clsIn at q;split at q
 .rename_i c d a sl e;exact#[c,d,a,sl,e]
 .cases q
def CN(O:jj K D):PySem.W.KitX K (.ref x) (.ref D) (excAt x D dE):=by
 obtain⟨c,d,cd,sl,e⟩:=O.there;refine#[λ_ _ _ ⟨o,h1,g,_⟩=>g.1▸(PySem.W.Looks.ld h1).andThen .now,λ_ _ Uj _ l i j s' k q=>?_,λh tp dd its n b Uj a=>?_,Lf O]
 .exact d5 (wpAny_loadPart (k _ _ (Uj _ _ e)) (eR q))
 .cases f:(Value.ref D==Value.ref tp) with
  | false=>rfl
  | true=>
   cases Value.ref.inj (hI.1 f);have z:=(Uj _ _ e).symm.trans a;cases z
noncomputable def yJ:V->Bool
 | .ref _=>true
 | .ty _=>true
 | _=>false
def gL:V->Value
 | .ref a=>.ref a
 | .ty n=>.type n
 | _=>.none
def yK{v:V}{u:Value}(a:yJ v=true)(r:RelV v u):u=gL v:=by
 cases v<;>first|exact r|cases a
theorem yL:∀{vs:BS} {us:B0},vs.all yJ=true->Vals vs us->us=vs.map gL
 | _,_,_,.nil=>rfl
 | _,_,a,.cons r t=>by
  rw[jO,et]at a;rw[eJ,yK a.1 r,yL a.2 t]
theorem Lg{cs:B0}{t:Value}(h:∀c∈cs,kitOne K t c=some false):kitAny K t cs=some false:=by
 induction cs with
 | nil=>rfl
 | cons c r a=>
  unfold kitAny;rw[h c (d6 ..)];exact a λz b=>h z (ee _ b)
def Yr(K:Frag)(H:Hp)(D:Addr)(y:V)(bb:Bool):Prop:=
 (yJ y=true/\kitOne K (.ref D) (gL y)=some bb)\/∃tp vs,y=.ref tp/\lN K H tp vs/\vs.all yJ=true/\kitAny K (.ref D) (vs.map gL)=some bb
variable{X:Cx}
def Qi:jG X (.builtin "isinstance") (λxs H Q=>∃(e D:Addr) (d:B2) (y:V) (bb:Bool),xs=[.ref e,y]/\H e=some (.ext (excAt e D d))/\jj X.K D/\Yr X.K H D y bb/\Q (.bl bb) H):=by
 intro pins s U H xs us Q I r h;obtain⟨e,D,dE,y,bb,rfl,he,O,a,q⟩:=h;obtain⟨u,u2,rfl,i,b⟩:=r.two;cases (i);have fin:∀tk,EP X pins U Q _ _:=λtk=>#[.bl _,H,I.tok tk,rfl,q];have ex:=(I.bO e _ he).1;obtain⟨c,a⟩|⟨tp,vs,rfl,j,c,a⟩:=a
 .exact yK c b▸lx (CN O) I.j7 ex a WE fin
 .cases (b);obtain⟨its,f,⟨o,g,cl,n,k⟩,_⟩:=I.tuple j;obtain⟨c0,l,t0,s0⟩:=o;subst cl k;rw[<- yL c f]at a;exact PySem.W.kia_tup (CN O) I.j7 ex g a (λz=>nomatch z) fin
theorem eS.got{P:Program}{H:Hp}{h:Heap}{a:Addr}{o:HO}(x:eS P w H h a o):∃u,h.get? a=some u:=by
 cases o with
 | lst xs=>obtain⟨_,_,_,_,z⟩:=x;exact#[_,z]
 | tup xs=>obtain⟨_,_,_,_,z,_⟩:=x;grind
 | dK aN=>obtain⟨_,_,_,_,_,_,_,z,_⟩:=x;grind
 | dT aN=>obtain⟨_,_,_,_,_,_,_,z,_⟩:=x;grind
 | set S n=>obtain⟨_,_,_,_,z,_⟩:=x;grind
 | ins C dx fs=>obtain⟨_,_,_,z,_⟩:=x;exact#[_,z]
 | own y=>exact x
 | xd fs=>obtain⟨_,⟨_,_,_,z,_⟩,_⟩:=x;grind
 | oA lo hi=>obtain⟨_,_,_,z⟩:=x;exact#[_,z]
 | d7 b u=>exact#[_,x.1]
 | Ui ps=>exact#[_,x]
 | tabs q=>obtain⟨_,z,_⟩:=x;simp_all
 | X3 q=>obtain⟨_,_,_,z,_⟩:=x;exact#[_,z]
 | met f y=>exact#[_,x]
 | ext φ=>exact x.2.1
variable{pins:At}{U:St}{H H':Hp}{s':Shared}{e C:Addr}{B:Heap}
theorem Lies.fresh(L:Lies X pins U H s H' e C dE B s'):s.heap.get? e=none:=by
 cases a:s.heap.get? e with
 | none=>rfl
 | some o=>
  obtain⟨o',z⟩:=L.lay.there e o a λb=>by
   obtain⟨_,d,h1,d1⟩:=L.Qg.2.2.1.mem b;obtain⟨c,vs,f,_,d2,_⟩:=L.Qg.2.2.2;grind
  rw[L.Qg.2.1]at z;cases z
theorem Lies.no(L:Lies X pins U H s H' e C dE B s'):H' e=none:=by
 cases a:H' e with
 | none=>rfl
 | some o=>
  obtain⟨u,z⟩:=(L.lay.bO e o a).got;rw[L.Qg.2.1]at z;cases z
theorem Lies.taken(L:Lies X pins U H s H' e C dE B s')(hex:X.ex=[]):Inv X pins U (upd H' e (.ext (excAt e C dE))) s':=by
 have I:=L.now;have J:=L.inv;have fr:=L.fresh;have no:∀{b:Addr} {o:Obj},s.heap.get? b=some o->b≠e:=λ{b o} q z=>by simp_all
 have up:∀{b:Addr},b≠e->upd H' e (.ext (excAt e C dE)) b=H' b:=λ{b} q=>cq q;have keep:∀{b:Addr} {v:HO},H' b=some v->upd H' e _ b=some v:=λ{b v} q=>by
  rw[up λz=>by simp_all [L.no]];exact q
 obtain⟨_,_,_,n,h,d,A,j,_⟩:=L.Qg;have first:∀{b:Addr} {o:Obj},X.eh.heap.get? b=some o->b≠e:=λ{b o} q=>by
  obtain⟨o',z⟩:=J.base.there b o q WI;exact no z
 refine#[I.ok,I.os,I.bare,#[I.base.keep,I.base.slot,λb o h1 t y=>up (first h1)▸I.base.free b o h1 t y,I.base.there,λb xs q=>keep (I.base.mh b xs q),λb o u q=>keep (I.base.dO b o u q),λb ps q=>?_],I.loc,I.cell,?_,λx c q=>?_,λp hp=>?_,λa o q=>?_,I.len]
 .obtain⟨more,z⟩:=I.base.mj b ps q;exact#[more,keep z]
 .obtain⟨m,⟨D,_,_,i,_⟩,_⟩:=J.loc;exact up (no i)▸I.free
 .obtain⟨v,z⟩:=J.cell x c q;obtain⟨oc,l,_⟩:=z;exact up (no l)▸I.iU x c q
 .obtain⟨g,f,w⟩:=I.pin p hp;refine#[g,?_,w];exact up (no (J.pin p hp).1)▸f
 .by_cases r:a=e
  .subst r;rw[show upd H' a _ a=some _ from di rfl]at q;cases q;exact#[#[n,d,A,h,j],#[n,d],λh1 t ⟨o,g,f⟩ k=>#[o,k _ g,f]]
  .rw[up r]at q;exact(I.bO a o q).oK WE (λb z=>keep z) (λb xs z=>keep z) λb u z=>keep z
theorem VL{M:Model}{i:Nat}{x:Str}{ps:Pos}{Q:Dx}(I:Inv X pins U H s)(O:X.N.Nodup)(hi:X.N[i]? = some x)(L:X.env.kindOf x=some .local)
  (h:∀s2,Inv X pins (U.set i none) H s2->Q () s2):wpAny M A (do bindName X.env x .none;unbindBehindTheSuite X.env x ps) Q E s:=by
 obtain⟨m,J,K⟩:=id I.loc;have P:(X.env.scope.kind == .class || (X.env.scope.kind == .module&&X.env.locals != X.env.globals))=false:=by rw[I.ok.kind];rfl
 have cn:=I.X4;have below:∀{b:Addr} {o:Obj},X.eh.heap.get? b=some o->b≠X.env.locals:=λ{b o} q=>gh (hz (e4 q) I.ok.above);refine wpAny_nameGoes_keeps L J P λh' v C f=>h _ #[I.ok,I.os,I.bare,#[λb o d e g B=>(f.2 b (below d)).trans (I.base.keep b o d e g B),λb o d e g B=>?_,I.base.free,λb o d e=>?_,I.base.mh,I.base.dO,I.base.mj],#[_,C,λj y w d e g=>?_],λy c q=>?_,I.free,I.iU,λp hp=>?_,λa o q=>?_,by simpa using I.len]
 .obtain⟨sl,z⟩:=I.base.slot b o d e g B;exact#[sl,(f.2 b (below d)).trans z]
 .obtain⟨o',z⟩:=I.base.there b o d e;exact#[o',(f.2 b (below d)).trans z]
 .by_cases D:j=i
  .subst D;have R:=I.len▸(gz.1 hi).1;simp_all
  .rw[ti (Ne.symm D)]at e;obtain⟨u,r,z⟩:=K j y w d e g;refine#[u,r,?_];obtain⟨k,z⟩|⟨k,c,l,t⟩:=z
   .refine .inl #[k,?_];have:y≠x:=λq=>D (uH O d (q▸hi));simp_all
   .exact .inr #[k,c,l,t.sameBut f (cn y c l)]
 .obtain⟨w,z⟩:=I.cell y c q;exact#[w,z.sameBut f (cn y c q)]
 .obtain⟨l,t,F,G⟩:=I.pin p hp;exact#[(f.2 p.1 F).trans l,t,F,G]
 .refine(I.bO a o q).oK (λc w n z=>(f.2 c ?_).trans z) WE WE;rintro rfl;obtain rfl|n:=n
  .rw[I.free]at q;cases q
  .rw[I.free]at n;cases n
def ZA{Q:Flow->Shared->Prop}{x n:Str}{i:Nat}{o:Addr}{np ps:Pos}{b:Stmt}{a:CO}{rest:List ExceptHandler}(L:Lies X pins U H s H' e C dE B s')(hex:X.ex=[])(l:X.N.Nodup)(hi:X.N[i]? = some n)
  (y:X.env.kindOf n=some .local) (u:Loc X.env.scope n) (hf:AM X n) (D:Gl X x) (hm:X.mg x=some (.ref o)) (t:exmOne X.K (.ref C) (.ref o)=some true)
  (k:∀s4,Inv X pins (U.set i (some (.ref e))) (upd H' e (.ext (excAt e C dE))) s4->wpAny (model X.prog X.w) (X.hand e).A (execs (b::a) X.env) (λf s5=>∃j c m,Inv X j c m s5/\∀h,Inv X j (c.set i none) m h->Q f h) (λ_ _=>False) s4)
  (hd:AD x:=by decide) :
  wpAny (model X.prog X.w) X.A (handleBy (.ref e) X.env (.ExceptHandler (some (.Name x np)) (some n) (b::a) ps::rest)) Q E s':=by
 have I:=L.now;obtain⟨O,d,F,_⟩:=L.Qg.there;have LT:PySem.W.Looks (model X.prog X.w) s'.heap (typeOf (.ref e)) (.ref C):=F▸(PySem.W.Looks.ld d).andThen .now;refine wpAny_handleBy_cons (codeAny_handlers_test (gE (I.hand e) D hm ?_ hd)) (λq=>by cases q);apply(PySem.W.exm_one I.j7 LT t).here;refine codeAny_handlers_suite_as (L.Qg.vp _ λP g p=>?_);refine pK ((L.move g p).taken hex) l hi u (v:=.ref e) rfl (λr G=>?_) hf;refine gr (k r G) (λf M z=>?_) WE;obtain⟨_,_,_,J,q⟩:=z;exact VL J l hi y q
end
theorem aB.off{H H':Hp}{a:Addr}(h:aB H H')(n:H' a=none):H a=none:=by
 cases q:H a with
 | none=>rfl
 | some o=>rw[h a o q]at n;cases n
end L2
namespace L3
open PySem PySem.Spec PyProof.Rows L2
section
variable{X:Cx}{CL:BC}{b:Bx}{δ δ1 δ2:Ap}{e e1 e2:Expr}{cZ:CO}{D:cy}{x c:Str}{i:Nat}{pos pp:Pos}{W:XK}
def k7{v:V}{u:Value}(a:Gl X x)(hm:X.mg x=some u)(r:RelV v u)(hd:AD x:=by decide):bw X CL b (.Name x pos) δ (.sh (.val v)) δ:=λH Z U ts vs Q S k=>bH (ud a hm r hd) (k _ _ Z (.refl _) (.refl _) (S.push (.val v)))
def Iu{v:V}{u:Value}(c:Gl X x)(hm:X.mg x=none)(hv:bootBuiltins x=some u)(r:RelV v u)(a:x≠"__name__":=by decide)(hd:AD x:=by decide):bw X CL b (.Name x pos) δ (.sh (.val v)) δ:=λH Z U ts vs Q S k=>bH (Hw c hm hv r a hd) (k _ _ Z (.refl _) (.refl _) (S.push (.val v)))
inductive Qj(K:Frag)(C:Addr):L3.D->Bool->Prop
 | one {v:V} {bb:Bool}:yJ v=true->kitOne K (.ref C) (gL v)=some bb->Qj K C (.val v) bb
 | non {vs:BS}:vs.all yJ=true->(∀v∈vs,kitOne K (.ref C) (gL v)=some false)->Qj K C (.tup (vs.map .val)) false
theorem CP{K:Frag}{H:Hp}:∀{vs us:BS},aD K CL H (vs.map .val) us->us=vs
 | [],_,h=>by cases h;rfl
 | v::vs,_,h=>by
  cases h with
  | cons r t=>cases r;rw[CP t]
theorem Qj.IS{K:Frag}{C:Addr}{d:L3.D}{bb:Bool}{H:Hp}{y:V}(h:Qj K C d bb)(r:aY K CL H d y):Yr K H C y bb:=by
 cases h with
 | one c b=>cases r;exact .inl #[c,b]
 | @non vs c b=>
  obtain⟨a,us,rfl,f,g⟩:=r.pQ;cases CP g;refine .inr #[a,vs,rfl,f,c,Lg λz e=>?_];obtain⟨v,hv,rfl⟩:=ew.1 e;exact b v hv
def jk{a C:Addr}{dE:B2}{d2:L3.D}{bb:Bool}(g:b.Z a=some (.ext (excAt a C dE)))(O:jj X.K C)(hm:X.mg "isinstance" = none)(j:Gl X "isinstance")(h:BL X CL b [e1,e2] δ [.val (.ref a),d2] δ1)(l:Qj X.K C d2 bb)
  (i:starEach [e1,e2] X.env=(false,eval e1 X.env)::starEach [e2] X.env:=by exact aT rfl) (hpl:(backTo pos (starEach [e2] X.env)).any (·.1)=false:=by rfl) :
  bw X CL b (.Call (.Name "isinstance" pp) [e1,e2] [] pos) δ (.sh (.bl bb)) δ1:=λH Z U ts vs Q S k=>
 bH (je Qi j hm boot_isinstance zN (he:=i) (hpl:=hpl)) (h H Z U ts vs _ S λus H1 Z1 d k1 c r=>by
  cases r with
  | cons f r=>
   cases r with
   | cons e r=>
    cases r;cases f;exact#[a,C,dE,_,bb,rfl,c.zh _ _ (c.zz _ _ g),O,l.IS e,k _ H1 Z1 d k1 (c.push (.bl _))])
abbrev Bx.with(b:Bx)(a:Addr)(o:HO):Bx:=#[upd b.B a o,upd b.Z a o]
theorem c9{H:Hp}{a:Addr}{o:HO}(h:H a=none):aB H (upd H a o):=λc u q=>by
 rw[show upd H a o c=H c from cq Wl];exact q
def qc{H H':Hp}{a:Addr}{o:HO}(h:aB H H'):aB (upd H a o) (upd H' a o):=λc u q=>by
 by_cases z:c=a
 .rw[show upd H' a o c=some o from di z];rw[show upd H a o c=some o from di z]at q;exact q
 .rw[show upd H' a o c=H' c from cq z];rw[show upd H a o c=H c from cq z]at q;exact h c u q
theorem bz.with{K:Frag}{H Z:Hp}{U:L2.St}{ts:Bn}{vs:BS}{a:Addr}{o:HO}(S:bz K CL b H Z δ U ts vs)(n:H a=none)(hi:gF o=false):bz K CL (b.with a o) (upd H a o) (upd Z a o) δ U ts vs:=by
 obtain⟨fp,gp,e,r,nd,k⟩:=S.rep;have h:=S.zh.off n;have ne:∀c u,H c=some u->c≠a:=λc u q z=>by grind
 have up:∀{J:Hp} {c:Addr},c≠a->upd J a o c=J c:=λ{J c} z=>cq z;have nf:∀c∈fp++gp,c≠a:=λc d=>by
  obtain z|z:=eg.1 d
  .obtain⟨u,q⟩:=e.there c z;simp_all
  .obtain⟨u,q⟩:=r.there c z;simp_all
 refine#[#[fp,gp,e.mono (c9 h) λc d=>up (nf c (ft _ d)),r.mono (c9 h) λc d=>up (nf c (eL _ d)),nd,λc d=>?_],qc S.bh,qc S.zz,qc S.zh,λc u g f=>?_,λc u g f=>?_,S.tab.mono (c9 (S.zz.off h))]
 .exact#[(up (nf c d)).trans (k c d).1,(up (nf c d)).trans (k c d).2]
 .have z:c≠a:=λz=>by rw[show(b.with a o).Z c=some o from di z]at f;cases f
  rw[up z]at g;rw[show(b.with a o).Z c=b.Z c from up z]at f;exact(up z).trans (S.new c u g f)
 .by_cases z:c=a
  .rw[show upd H a o c=some o from di z]at g;grind
  .rw[up z]at g ⊢;exact S.tp c u g f
theorem bz.without{K:Frag}{H Z:Hp}{U:L2.St}{ts:Bn}{vs:BS}{a:Addr}{o:HO}(S:bz K CL (b.with a o) H Z δ U ts vs)(nb:b.B a=none)(h:b.Z a=none)(tb:gY CL b.Z):bz K CL b H Z δ U ts vs:=by
 obtain⟨fp,gp,e,r,nd,k⟩:=S.rep;refine#[#[fp,gp,e,r,nd,λc d=>#[(k c d).1,(c9 nb).off (k c d).2]],(c9 nb).trans S.bh,(c9 h).trans S.zz,S.zh,λc u g f=>?_,S.tp,tb];by_cases z:c=a
 .exact z▸nb
 .exact(c9 nb).off (S.new c u g (by rw[show(b.with a o).Z c=b.Z c from cq z];exact f))
theorem Meets.with{K:Frag}{Z:Hp}{ts:Bn}{vs:BS}{a:Addr}{o:HO}{E:Ends}(M:Meets K CL b Z ts vs D E)(n:Z a=none)(nb:b.B a=none)(c:b.Z a=none)(tb:gY CL b.Z):Meets K CL (b.with a o) (upd Z a o) ts vs D E:=
 #[λ_ _ _ _ q S=>M.nx _ _ _ _ ((c9 n).trans q) (S.without nb c tb),λ_ _ _ _ _ _ q S=>M.rt _ _ _ _ _ _ ((c9 n).trans q) (S.without nb c tb),λ_ _ _ _ q S=>M.bk _ _ _ _ ((c9 n).trans q) (S.without nb c tb),λ_ _ _ _ q S=>M.ct _ _ _ _ ((c9 n).trans q) (S.without nb c tb)]
theorem dU.unset{K:Frag}{H Z:Hp}{U:L2.St}{fp:BY}(e:dU K CL H Z δ U fp):∀{j:Nat},(δ[j]? = some none\/∃d,δ[j]? = some (some (.sh d)))->dU K CL H Z (δ.set j none) (U.set j none) fp:=by
 induction e with
 | nil=>exactλ_=>.nil
 | skip q b=>
  intro j a;cases j with
  | zero=>exact .skip q
  | succ j=>exact .skip (b a)
 | @cons t v δ' U' f1 f2 rt re b=>
  intro j a;cases j with
  | zero=>
   obtain q|⟨d,q⟩:=a
   .cases q
   .cases q;cases rt;exact .skip re
  | succ j=>exact .cons rt (b a)
theorem bz.unset{K:Frag}{H Z:Hp}{U:L2.St}{ts:Bn}{vs:BS}{j:Nat}(S:bz K CL b H Z δ U ts vs)(a:δ[j]? = some none\/∃d,δ[j]? = some (some (.sh d))):bz K CL b H Z (δ.set j none) (U.set j none) ts vs:=by
 obtain⟨fp,gp,e,r,nd,k⟩:=S.rep;exact#[#[fp,gp,e.unset a,r,nd,k],S.bh,S.zz,S.zh,S.new,S.tp,S.tab]
theorem bz.vk{K:Frag}{H Z:Hp}{U:L2.St}{ts:Bn}{vs:BS}{E:Ends}{d:B2}{p:Option Bz}(S:bz K CL b H Z δ U ts vs)(M:Meets K CL b Z ts vs D E)(h:NW Z d p):∃b1:Bx,bz K CL b1 H Z δ U ts vs/\Meets K CL b1 Z ts vs D E/\NW b1.Z d p:=by
 cases p with
 | none=>exact#[b,S,M,h]
 | some fs=>
  obtain⟨dx,rfl,l⟩:=h;cases q:b.Z dx with
  | some o=>
   have:=S.zz _ _ q;rw[l]at this;cases this;exact#[b,S,M,dx,rfl,q]
  | none=>
   have nb:=S.new _ _ l q;have at':∀{J m:Hp},aB J m->m dx=some _->aB (upd J dx (.xd fs)) m:=λ{J m} e g c u w=>by
    by_cases z:c=dx
    .subst z;rw[aJ]at w;exact w▸g
    .rw[az z]at w;exact e c u w
   obtain⟨fp,gp,e,r,nd,k⟩:=S.rep;have j:∀{Z2 H2:Hp} {δ2:List _} {t:L2.St} {i:Bn} {f:BS},bz K CL (b.with dx (.xd fs)) H2 Z2 δ2 t i f->bz K CL b H2 Z2 δ2 t i f:=λ{_ _ _ _ _ _} a=>a.without nb q S.tab;refine#[ _,#[#[fp,gp,e,r,nd,λc s=>#[(k c s).1,?_]],at' S.bh (S.zh _ _ l),at' S.zz l,S.zh,λc u w n=>?_,S.tp,S.tab.mono (c9 q)],#[λ_ _ _ _ q a=>M.nx _ _ _ _ q (j a),λ_ _ _ _ _ _ q a=>M.rt _ _ _ _ _ _ q (j a),λ_ _ _ _ q a=>M.bk _ _ _ _ q (j a),λ_ _ _ _ q a=>M.ct _ _ _ _ q (j a)],dx,rfl,aJ]
   .rw[show(b.with dx _).B c=b.B c from az λz=>by simp_all];exact(k c s).2
   .have z:c≠dx:=λz=>by
     subst z;rw[show(b.with c _).Z c=_ from aJ]at n;cases n
    rw[show(b.with dx _).Z c=b.Z c from az z]at n;rw[show(b.with dx _).B c=b.B c from az z];exact S.new c u w n
theorem Zs{body:CO}{n:Str}{V:Addr}{np hp:Pos}{m:Stmt}{j:CO}{rest:List ExceptHandler}{c:Ex}(kP:X.stack=X.env::X.outer)(BO:X.env.frame=some X.env.locals)(aa:X.xe=λ_ _=>False)(hex:X.ex=[])(nd:X.N.Nodup)(nl:Ln X i n)(hk:X.env.kindOf n=some .local)
  (r:∀p,FF (X.pinned p) CL b body δ c δ1) (hg:Gl X x) (hm:X.mg x=some (.ref V)) (hx:exmOne X.K (.ref (CL c.1)) (.ref V)=some true) (hi:i<δ1.length)
  (k:∀(a:Addr) (d:B2) (C:Bx),C.Z a=some (.ext (excAt a (CL c.1) d))->NW C.Z d c.2->cg (X.hand a) CL C (m::j) (δ1.set i (some (.sh (.val (.ref a))))) {nx:=λδ2=>(δ2[i]? = some none\/∃d,δ2[i]? = some (some (.sh d)))/\cg X CL C cZ (δ2.set i none) D,rt:=λ_ _=>False})
  (hd:AD x:=by decide) :
  cg X CL b (.Try body (.ExceptHandler (some (.Name x np)) (some n) (m::j) hp::rest) [] [] pos::cZ) δ D:=λH Z U ts vs E S M=>KJ (pL q1 NQ) λpins s I=>by
 refine wpAny_Try_except (gr (r pins H Z U ts vs {nx:=λ_ _=>False,rt:=λ_ _=>False} S [] s (I.Yq.d0 _)) (λf s1 z=>?_) λev s1 z=>?_)
 .cases f with
  | next=>obtain⟨_,_,_,q⟩:=z;exact q.elim
  | brk=>obtain⟨_,_,_,q⟩:=z;exact q.elim
  | cont=>obtain⟨_,_,_,q⟩:=z;exact q.elim
  | ret u=>obtain⟨_,_,_,_,_,q⟩:=z;exact q.elim
 .obtain⟨e,d,B,yo,U',H1,s0,H',Z',rfl,L,z',R,P'⟩:=z;obtain⟨b1,y,M',P1⟩:=R.vk (M.mono z') P';refine Kw (X:=X.pinned pins) kP BO L λs3 L3=>?_;have P:=L3.no;have T:=y.zh.off P;have O:=y.bh.off P;have w:=y.zz.off T;have S2:=((y.with (o:=.ext (excAt e (CL c.1) d)) P rfl).push (v:=.ref e) (.val _)).set hi;have M2:=M'.with (o:=.ext (excAt e (CL c.1) d)) T O w y.tab;refine ZA L3 hex nd nl.hi hk nl.loc nl.hf hg hm hx (λs4 I4=>?_) hd;have J:=(I4.Qh I.ok).hand e;have P2:NW (b1.with e (.ext (excAt e (CL c.1) d))).Z d c.2:=by
   revert P1
   unfold NW;cases c.2 with
   | none=>exact id
   | some fs=>exactλ⟨dx,Y,W⟩=>#[dx,Y,(c9 w) _ _ W]
  have done:∀(g:L2.St) (l:Hp),(∃h t,aB _ t/\bz X.K CL _ l t h g ts vs/\(h[i]? = some none\/∃d,h[i]? = some (some (.sh d)))/\cg X CL _ cZ _ D) →
    KH X cZ E (g.set i none) l:=λg l ⟨h,t,G,F,A,q4⟩=>q4 l t _ ts vs E (F.unset A) (M2.mono G)
  have run:=k e d _ (di rfl) P2 _ _ _ ts vs {nx:=λg l=>KH X cZ E (g.set i none) l,rt:=λ_ _=>False} S2 #[λh g l t G F A=>done g l #[h,t,G,F,A.1,A.2],WE,WE,WE ] pins s4 J;refine gr run (λf s5 z=>?_) Wl;cases f with
  | next=>
   obtain⟨g,l,I5,q⟩:=z;exact#[[],g,l,(I5.Yk I.ok).Yq,λs6 I6=>#[_,_,I6.Qh I.ok,q]]
  | brk=>obtain⟨_,_,_,q⟩:=z;exact q.elim
  | cont=>obtain⟨_,_,_,q⟩:=z;exact q.elim
  | ret u=>obtain⟨_,_,_,_,_,q⟩:=z;exact q.elim
theorem Vn.hand{a:Addr}(h:Vn X i x):Vn (X.hand a) i x:=#[h.hi,h.hv,h.hd,h.gX]
theorem Ln.hand{a:Addr}(h:Ln X i x):Ln (X.hand a) i x:=#[#[h.hi,h.hv,h.hd,h.gX],h.loc,h.hf]
def Zp{t:T}{pos':Pos}(nd:X.N.Nodup)(n:Ln X i x)(h:bw X CL b e δ t δ1)(k:cg X CL b cZ (δ1.set i (some t)) D)(c:i<δ1.length:=by exact eE rfl)(a:swapsWith e (some (.Name x pos')) pos.line X.env=pure false:=by rfl) :
  cg X CL b (.Assign [.Name x pos'] e pos::cZ) δ D:=bG (O6 i h k c nd n.hi n.loc a n.hf)
def lP:bootBuiltins "ValueError" = some (.type "ValueError"):=by decide +kernel
end
variable{prog:Program}{w:World}{A:Around}{E:BA}{s:Shared}
def cD(ns:AT):Nat->Nat
 | 0=>0
 | i+1=>cD ns i+(if jJ ns i (ns.getD i Str.empty)=true then 0 else 1)
theorem Iv(ns:AT):∀i,cD ns i<=i
 | 0=>ea _
 | i+1=>by have:=Iv ns i;unfold cD;split<;>lia
variable{a:Addr}{ns:AT}
theorem Lh{R:Result->Shared->Prop}{I:Addr}{items:Db}(Z:A.in1.handled=none)(PJ:a≠I){S:Addr}(l:S≠I)(G:S≠a)(Y:items.size=ns.length)(M:ns.length+1<scanBound)
  (hv:∀(i:Nat) (v:Value),items[i]? = some v->∃x t,ns[i]? = some x/\v=Value.str x t) :
  ∀(k i:Nat) (h:Heap) (tk:Nat),i+k=ns.length->h.IsListIter I a i->h.IsList a items->h.SetOf (strKind prog w) S (jJ ns i) (cD ns i) →
   (∀h' c,(∀b o,b≠S->b≠I->h.get? b=some o->h'.get? b=some o)->h'.SetOf (strKind prog w) S (jJ ns ns.length) (cD ns ns.length)->R (.ok (.ret .none)) {s with heap:=h',toks:=c}) →
   codeAny (model prog w) A (.builtin "set.update.loop" #[[.ref S,.ref I],[]]) R {s with heap:=h,toks:=tk}:=by
 have W:=Walks.list (prog:=prog) (w:=w) (A:=A.in1) Z I a PJ items;have N:∀{h h':Heap} {f:Str->Bool} {n:Nat},(∀b o,b∉[I]->h.get? b=some o->h'.get? b=some o)->h.SetOf (strKind prog w) S f n->h'.SetOf (strKind prog w) S f n:=λg ⟨o,es,ep,t,X,r⟩=>#[o,es,ep,t,g S o (by simp[l]) X,r];intro k
 induction k with
 | zero=>
  intro i h tk hi hit C p H;have K:i=items.size:=by lia
  refine codeAny_builtin F.entry_set_update_loop ?_;rw[Around.under_plainId wg _];refine d5 (m:=pyNext (.ref I)) (W.done {s with heap:=h,toks:=tk} _ _ #[K▸hit,C] λh' c g=>?_);refine eR (H h' c (λb o _ b2 e=>g b o (by simp[b2]) e) (N g ?_));rw[<- Y,<- K];rw[K]at p ⊢;exact p
 | succ k T=>
  intro i h tk hi hit C p H;refine codeAny_builtin F.entry_set_update_loop ?_;rw[Around.under_plainId wg _];refine d5 (m:=pyNext (.ref I)) (W.item i {s with heap:=h,toks:=tk} _ _ Wl #[hit,C] λv h1 t1 y j g=>?_);obtain⟨x,t,u,rfl⟩:=hv i v y;have B:=N g p;have U:i<ns.length:=by lia
  have V:ns[i]=x:=(gz.1 u).2;have hle:=Iv ns i;have E:ns.getD i Str.empty=x:=by rw[eM,u];rfl
  refine d5 (m:=holding [Value.str x t] (setAdd S (.str x t))) (jN ?_);unfold setAdd;refine jN (d5 ((strKind prog w).pyHash (k:=x) (strKind_is _ _ _ _) ?_));refine wpAny_setAddHashed_of (knd:=strKind prog w) (strKind_is _ _ _ _) rfl B Wl λJ P O=>?_;have z:J.SetOf (strKind prog w) S (jJ ns (i+1)) (cD ns (i+1)):=by
   have ec:cD ns (i+1)=(if jJ ns i x=true then cD ns i else cD ns i+1):=by
    show cD ns i+(if jJ ns i (ns.getD i Str.empty)=true then 0 else 1)=_;rw[E];split<;>rfl
   have e:(λL=>jJ ns i L || decide (L=x))=jJ ns (i+1):=by
    funext q;unfold jJ;rw[hZ,u,<- Bool.decide_or];exact nv.2 WE
   rw[<- e,ec];exact O
  have d:∀b o,b≠S->h1.get? b=some o->J.get? b=some o:=λb o M e=>(P.2 b M).trans e;refine eR #[plainId_quiet wg _,T (i+1) J _ Wl (j.1.at λo e=>d I o (Ne.symm l) e) (j.2.at λo e=>d a o (Ne.symm G) e) z λh' c D Px=>?_];exact H h' c (λb o b1 b2 e=>D b o b1 b2 (d b o b1 (g b o (by simp[b2]) e))) Px
theorem Ag{items:Db}{Q:BA}(K:A.handled=none)(B:s.heap.IsList a items)(I:items.size=ns.length)(M:ns.length+1<scanBound)
  (hv:∀(i:Nat) (v:Value),items[i]? = some v->∃x t,ns[i]? = some x/\v=Value.str x t)
  (O:∀h' tk,h'.SetOf (strKind prog w) s.heap.objs.size (jJ ns ns.length) (cD ns ns.length)->(∀b o,s.heap.get? b=some o->h'.get? b=some o)->Q (.ref s.heap.objs.size) {s with heap:=h',toks:=tk}) :
  wpAny (model prog w) A (call (.type "set") [.ref a]) Q E s:=by
 obtain⟨c,tl,Z⟩:=js.mro;have Y:=js.made;have X:=js.sub;have W:=js.notType;have V:=js.canCreate;have U:=F.typeCall_set_1 (.ref a);refine i4 (codeAny_of_tree (show wpAny _ _ (callAny (.type "set") _) _ _ _ from eR #[sk _ Wp,codeAny_builtin F.entry_type_call ?_]));rw[Around.under_plain (weight_type_call_type "set" [.ref a] []) rfl]
 repeat (any_goals (first|assumption|wp_step))
 refine lp (code_set_new_1 (.ref a) (E:=E) (Q₁:=λz g=>∃led:Bool,z=.ref s.heap.objs.size/\g={s with heap:=s.heap.push {cls:=.type "set",dict:=none,data:=.set #[] 0 (.fresh 0 0 led)}}) λled=>#[led,rfl,rfl]) λr s1 l=>?_;cases r with
 | error e=>exact l
 | ok fl=>
  cases fl with
  | ret z=>
   obtain⟨led,rfl,rfl⟩:=l;have D:(s.heap.push {cls:=.type "set",dict:=none,data:=.set #[] 0 (.fresh 0 0 led)}).get? s.heap.objs.size=some {cls:=.type "set",dict:=none,data:=.set #[] 0 (.fresh 0 0 led)}:=hE _ rfl;have N:Shared.TypeIs {s with heap:=s.heap.push {cls:=.type "set",dict:=none,data:=.set #[] 0 (.fresh 0 0 led)}} (.ref s.heap.objs.size) "set":=#[_,D,rfl];have T:=js.init.lookup;have P:=js.init.bind (.ref s.heap.objs.size)
   repeat (any_goals (first|assumption|wp_step))
   refine lp (o9 (R:=wants (λr s2=>r=.none/\∃h' tk,s2={s with heap:=h',toks:=tk}/\h'.SetOf (strKind prog w) s.heap.objs.size (jJ ns ns.length) (cD ns ns.length)/\∀b o,s.heap.get? b=some o->h'.get? b=some o) E) js.init.plain F.entry_set_init (check_set_init_1 N ?body)) λH s2 d=>?back
   case back=>
    cases H with
    | error e=>exact d
    | ok fl=>
     cases fl with
     | ret z=>
      obtain⟨rfl,h',tk,rfl,f,m⟩:=d
      repeat (any_goals (first|assumption|wp_step))
      exact O _ _ f m
     | _=>exact d.elim
   case body=>
    have h0:=B;obtain⟨⟨oc,od,ob,os⟩,h,p,nl,n⟩:=B;cases p;cases n;have y:(s.heap.push {cls:=.type "set",dict:=none,data:=.set #[] 0 (.fresh 0 0 led)}).get? a=some {cls:=.type "list",dict:=od,data:=.seq items nl,slots:=os}:=ff _ h;have G:(s.heap.push {cls:=.type "set",dict:=none,data:=.set #[] 0 (.fresh 0 0 led)}).IsList a items:=#[_,y,rfl,nl,rfl];have p1:=F.sub_list_set;have p2:=F.sub_list_frozenset;have p3:(Value.type "list" == Value.type "dict")=false:=by decide
    have C:a<s.heap.objs.size:=e4 h;have k:(s.heap.push {cls:=.type "set",dict:=none,data:=.set #[] 0 (.fresh 0 0 led)}).objs.size=s.heap.objs.size+1:=Heap.size_push ..;unfold Builtin.«set.__init__» noKeywords Builtin.Frozenset.updateFrom;generalize u:pyIter=PI
    wp_walk
    subst u;refine wpAny_pyIter_list G (d5 (wpAny_runValue ?_));refine Lh (A:=A.in1.in1) (S:=s.heap.objs.size) (by simp[K]) (by rw[k];exact gh (Nat.lt_succ_of_lt C)) (by rw[k];exact gh (o1 _)) (Nat.ne_of_gt C) I M hv ns.length 0 _ _ (Nat.zero_add _) #[_,hE _ rfl,rfl,rfl] (G.push _) ?_ λh' j J f=>?_
    .have L:((s.heap.push {cls:=.type "set",dict:=none,data:=.set #[] 0 (.fresh 0 0 led)}).push {cls:=.type "list_iterator",data:=.fields (List.toArray [.ref a,.int 0 0])}).get? s.heap.objs.size=some {cls:=.type "set",dict:=none,data:=.set #[] 0 (.fresh 0 0 led)}:=ff _ D;exact SetOf_congr ((setObjOf_fresh (knd:=strKind prog w) led).setOf L (by unfold scanBound;lia)) (λq=>by unfold jJ;simp) rfl
    .refine eR (eR #[rfl,h',j,rfl,f,λb o e=>J b o (gh (e4 e)) ?_ (ff _ (ff _ e))]);rw[k];exact gh (Nat.lt_succ_of_lt (e4 e))
  | _=>exact l.elim
variable{X:Cx}
theorem Fb(m:X.calm=true):jG X (.type "set") (λxs H Q=>∃(p:Addr) (ns:AT),xs=[.ref p]/\lM X.K H p (ns.map V.str)/\ns.length<=1000/\∀l,H l=none->Q (.ref l) (upd H l (.ext (P9 X.prog X.w l (cD ns ns.length))))):=by
 intro pins s U H xs us Q I r h;obtain⟨p,ns,rfl,hp,A,q⟩:=h;obtain⟨u,rfl,c⟩:=vals1 r;cases c;obtain⟨its,b,f,z⟩:=I.list hp;have j:its.length=ns.length:=by rw[<- b.length,d4]
 have hv:∀{ns:AT} {us:B0},Vals (ns.map V.str) us->∀(i:Nat) (v:Value),us[i]? = some v->∃x t,ns[i]? = some x/\v=Value.str x t:=by
  intro ns
  induction ns with
  | nil=>intro us h i v e;cases h;cases i<;>cases e
  | cons y ns g=>
   intro us h i v e;cases h with
   | cons r d=>
    obtain⟨t,rfl⟩:=r;cases i with
    | zero=>cases e;exact#[y,t,rfl,rfl]
    | succ i=>exact g d i v e
 refine Ag (ns:=ns) (I.ok.hd m) f.isList (by rw[List.size_toArray,j]) (by unfold scanBound;lia) (λi v e=>hv b i v (by simpa using e)) λh' tk n ek=>?_;have a:P9 X.prog X.w s.heap.objs.size (cD ns ns.length) h':=#[_,n];refine#[.ref s.heap.objs.size,_,I.laid (t':=tk) (o:=.ext (P9 X.prog X.w s.heap.objs.size (cD ns ns.length))) ek (ea _) #[a,?_,?_],rfl,q _ (I.bO.fresh (ea _))]
 .obtain⟨_,o,_,_,_,e,_⟩:=a;exact#[o,e]
 .rintro h1 B ⟨S,o,es,ep,t,e,rest⟩ k;exact#[S,o,es,ep,t,k o e,rest]
variable{CL:BC}{b:Bx}{δ δ1:Ap}{e:Expr}{pos pp pq pr:Pos}
def Fe(g:Gx X)(hm:X.mg "len" = none)(d:X.mg "set" = none)(h:bN X CL b e δ (.lst (ns.map D.str)) δ1)(l:ns.length<=1000)(x:Gl X "len")(f:Gl X "set")(j:AC X e []:=by exact aT rfl) :
  bw X CL b (.Call (.Name "len" pp) [.Call (.Name "set" pq) [e] [] pr] [] pos) δ (.sh (.int (cD ns ns.length:Nat))) δ1:=λH Z U ts vs Q S k=>
 bH (je Ad x hm PySem.boot_len (bB (j8 (Fb g.calm) f d Lb (bB bX cV j) (he:=j)) cV (aT rfl)) (he:=aT rfl)) (h H Z U ts vs _ S λv H1 Z1 m k1 i r=>by
  cases r with
  | lst u p=>
  have y:=Lc p;refine#[_,ns,rfl,by rw[<- y];exact u,l,λr s=>#[r,cD ns ns.length,rfl,aJ,er (Iv ns ns.length) l,?_]];have same:aB H1 (upd H1 r (.ext (P9 X.prog X.w r (cD ns ns.length)))):=aB.upd s;obtain⟨Z',n,A⟩:=i.back (t:=.sh (.int (cD ns ns.length:Nat))) (v:=.int (cD ns ns.length:Nat)) (fp:=[]) (W:=Z1) (W':=Z1) same (.refl _) (.refl _) (i.zh.trans same) (λa o q z=>by rw[q]at z;cases z) (λa o q im=>by
   by_cases c:a=r
   .subst c;rw[aJ]at q;cases q;cases im
   .rw[az c]at q;exact i.tp a o q im) (.sh (.int _)) jP (λa c=>by cases c) (.inl rfl)
  exact k _ _ _ (m.trans n) (k1.trans same) A)
theorem Iw{ns:AT}:∀i,i<=ns.length->(cD ns i=i↔(ns.take i).Nodup)
 | 0,_=>by rw[List.take_zero];exact#[λ_=>jP,λ_=>rfl]
 | i+1,hi=>by
  have b:=Iw (ns:=ns) i Wl;have hle:=Iv ns i;have d:ns[i]? = some (ns.getD i Str.empty):=by rw[eM,gc Wl];rfl
  rw[hZ,d,Option.toList_some,hO,<- b];show cD ns i+(if jJ ns i (ns.getD i Str.empty)=true then 0 else 1)=i+1↔_;unfold jJ;by_cases z:ns.getD i Str.empty∈ns.take i
  .rw[di (eD z)];refine#[λq=>by lia,λq=>absurd rfl (q.2.2 _ z _ (eC.2 rfl))]
  .rw[cq (λq=>z (ed q))];refine#[λq=>#[Wl,hX.2 #[eA,jP],λa g c f e=>z ?_],λq=>by lia];rw[<- eC.1 f,<- e];exact g
def Zl:cD ns ns.length=ns.length↔ns.Nodup:=by
 have:=Iw (ns:=ns) ns.length (ea _)
 rwa [hS]at this
variable{i:Nat}{x:Str}
theorem Ln.pin{p:At}(h:Ln X i x):Ln (X.pinned p) i x:=#[#[h.hi,h.hv,h.hd,h.gX],h.loc,h.hf]
inductive BP where
 | ix (j:Nat)|fld (f:Str)|key (k:EM)
def Li{α:Type}(k:EM)(t:α):List (EM×α)->List (EM×α)
 | []=>[]
 | (x,u)::r=>if x=k then(x,t)::r else(x,u)::Li k t r
def T.core:T->T
 | .pin _ t=>t
 | t=>t
noncomputable def T.Ff:T->T->T
 | .pin y _,u=>.pin y u
 | _,u=>u
def T.Yt:BP->T->Option T
 | .ix j,.lst ts=>ts[j]?
 | .ix j,.tup ts=>ts[j]?
 | .fld f,.ins _ fs=>fs.lookup f
 | .key k,.dct aN=>CJ aN k
 | _,_=>none
def T.Qk:BP->T->T->T
 | .ix j,.lst ts,u=>.lst (ts.set j u)
 | .ix j,.tup ts,u=>.tup (ts.set j u)
 | .fld f,.ins c fs,u=>.ins c (xT f u fs)
 | .key k,.dct aN,u=>.dct (Li k u aN)
 | _,t,_=>t
def T.tM:List BP->T->Option T
 | [],t=>some t.core
 | s::p,t=>(t.core.Yt s).bind (T.tM p)
def T.Ah:List BP->T->T->T
 | [],u,t=>t.Ff u
 | s::p,u,t=>match t.core.Yt s with
  | some k=>t.Ff (t.core.Qk s (T.Ah p u k))
  | none=>t
def VM(H:Hp)(v:V):BP->V->Prop
 | .ix j,w=>∃a us,v=.ref a/\(H a=some (.lst us)\/H a=some (.tup us))/\us[j]? = some w
 | .fld f,w=>∃a C dx gs,v=.ref a/\H a=some (.ins C dx gs)/\gs.lookup f=some w
 | .key k,w=>∃a gs,v=.ref a/\(∃en,H a=some (.dT gs en))/\iE gs k=some w
def Ai(H:Hp):V->List BP->V->Prop
 | v,[],w=>v=w
 | v,s::p,w=>∃u,VM H v s u/\Ai H u p w
variable{H H':Hp}{v:V}
theorem VM.mono(e:aB H H'){w:V}{s:BP}(h:VM H v s w):VM H' v s w:=by
 cases s with
 | ix j=>obtain⟨a,us,h1,c,b⟩:=h;exact#[a,us,h1,c.imp (e _ _) (e _ _),b]
 | fld f=>obtain⟨a,C,dx,gs,h1,c,b⟩:=h;exact#[a,C,dx,gs,h1,e _ _ c,b]
 | key k=>obtain⟨a,gs,h1,c,b⟩:=h;exact#[a,gs,h1,c.imp λ_ q=>e _ _ q,b]
theorem VM.inj{w l:V}{s:BP}(h:VM H v s w)(q:VM H v s l):w=l:=by
 cases s with
 | ix j=>
  obtain⟨a,us,h1,c,n⟩:=h;obtain⟨o,d,g,b,m⟩:=q;subst h1;cases g;have e:us=d:=by
   obtain c|c:=c<;>obtain b|b:=b<;>rw[c]at b<;>cases b<;>rfl
  simp_all
 | fld f=>
  obtain⟨a,C,dx,gs,h1,c,n⟩:=h;obtain⟨o,r,p,i,g,b,m⟩:=q;grind
 | key k=>
  obtain⟨a,gs,h1,⟨_,c⟩,n⟩:=h;obtain⟨o,i,g,⟨_,b⟩,m⟩:=q;simp_all
theorem Ai.mono{H H':Hp}(e:aB H H'):∀{p:List BP} {v w:V},Ai H v p w->Ai H' v p w
 | [],_,_,h=>h
 | _::_,_,_,⟨u,h,q⟩=>#[u,h.mono e,Ai.mono e q]
theorem Ai.inj{H:Hp}:∀{p:List BP} {v w a:V},Ai H v p w->Ai H v p a->w=a
 | [],_,_,_,h,q=>h.symm.trans q
 | _::_,_,_,_,⟨_,h1,d⟩,⟨_,c,b⟩=>by
  have:=h1.inj c;subst this;exact Ai.inj d b
theorem Ai.snoc{H:Hp}{s:BP}:∀{p:List BP} {v w z:V},Ai H v p w->VM H w s z->Ai H v (p++[s]) z
 | [],_,_,z,h,q=>by
  have h':=h;subst h';exact#[z,q,rfl]
 | _::_,_,_,_,⟨u,h1,a⟩,q=>#[u,h1,Ai.snoc a q]
variable{K:Frag}{Z Z':Hp}{U:L2.St}{ts tl:Bn}{vs us:BS}{t u t0:T}{v0 w:V}{fp:BY}{p:List BP}
theorem aZ.Ql(h:aZ K CL H Z t v fp):aZ K CL H Z t.core v fp/\∀{H' Z':Hp} {u:T} {g:BY},aZ K CL H' Z' u v g->aZ K CL H' Z' (t.Ff u) v g:=by
 cases h with
 | pin r=>exact#[r,.pin]
 | sh r=>exact#[.sh r,λq=>q]
 | tup r q=>exact#[.tup r q,λq=>q]
 | lst r q=>exact#[.lst r q,λq=>q]
 | ins r q=>exact#[.ins r q,λq=>q]
 | iO r q=>exact#[.iO r q,λq=>q]
 | dct r q=>exact#[.dct r q,λq=>q]
 | BK r q p=>exact#[.BK r q p,λq=>q]
theorem cG.at{f:Str}:∀(fs:B1) {gs:Bz} {fp:BY},cG K CL H Z fs gs fp->fs.lookup f=some t->∃w f1 f2 c,gs.lookup f=some w/\fp=f1++(f2++c)/\aZ K CL H Z t w f2 ∧
  ∀{H':Hp} {t':T} {g:BY},(∀a∈f1++c,H' a=H a)->aZ K CL H' Z t' w g->cG K CL H' Z (xT f t' fs) gs (f1++(g++c)):=by
 intro fs
 induction fs with
 | nil=>intro gs fp h e;cases e
 | cons p fs k=>
  obtain⟨x,t0⟩:=p;intro gs fp h e;cases h with
  | @cons _ _ v _ vs f0 g0 r rs=>
   rw[hu]at e;cases b:f==x with
   | true=>
    rw[b]at e;cases e;have i:=(hI.1 b).symm;refine#[v,[],f0,g0,by rw[hu,b],rfl,r,λ{H' t' g} kk d=>?_];rw[xT,di i];exact cG.cons (fp:=g) d (rs.mono (.refl _) λa j=>kk a (‹_›))
   | false=>
    rw[b]at e;obtain⟨w,f1,f2,c,h1,n,m,l⟩:=k rs e;subst n;refine#[w,f0++f1,f2,c,by rw[hu,b];exact h1,WE,m,λ{H' t' g} kk d=>?_];rw[xT,cq (λz=>by grind),eB];exact .cons (r.mono (.refl _) λa j=>kk a WI) (l (λa j=>kk a (by rw[eB];exact eL _ j)) d)
theorem fh.Yt{k:EM}{aN:Cf}{gs:Bi}(h:fh K CL H Z aN gs fp)(c:CJ aN k=some t) :
  ∃v f1 f2 b,iE gs k=some v/\fp=f1++(f2++b)/\aZ K CL H Z t v f2 ∧
   ∀{H':Hp} {t':T} {g:BY},(∀a∈f1++b,H' a=H a)->aZ K CL H' Z t' v g->fh K CL H' Z (Li k t' aN) gs (f1++(g++b)):=by
 refine fh.ind (P:=λaN gs fp=>CJ aN k=some t->∃v f1 f2 b,iE gs k=some v/\fp=f1++(f2++b)/\aZ K CL H Z t v f2 ∧
   ∀{H':Hp} {t':T} {g:BY},(∀a∈f1++b,H' a=H a)->aZ K CL H' Z t' v g->fh K CL H' Z (Li k t' aN) gs (f1++(g++b))) (λe=>by cases e) (λ{x t0 v0 ts vs fp gp} r f i c=>?_) h c
 by_cases e:x=k
 .rw[P5 e]at c;cases c;refine#[v0,[],fp,gp,mC e,rfl,r,λ{H' t' g} d q=>?_];rw[Li,di e];exact(show fh K CL H' Z _ _ (g++gp) from .cons q (f.mono (.refl _) d))
 .rw[P6 e]at c;obtain⟨v,f1,f2,b,h1,n,m,l⟩:=i c;refine#[v,_,f2,b,by rw[j9 e];exact h1,by rw[n,eB],m,λ{H' t' g} d q=>?_];rw[Li,cq e,eB];exact .cons (r.mono (.refl _) λa j=>d a WI) (l (λa j=>d a (by rw[eB];grind)) q)
theorem aZ.Yt{s:BP}{k:T}(zh:aB Z H)(h:aZ K CL H Z t v fp)(i:t.Yt s=some k):∃w f1 f2 d,VM H v s w/\fp=f1++(f2++d)/\aZ K CL H Z k w f2 ∧
  ∀{H':Hp} {o:T} {g:BY},(∀c∈f1++d,H' c=H c)->aZ K CL H' Z o w g->aZ K CL H' Z (t.Qk s o) v (f1++(g++d)):=by
 cases s with
 | ix j=>
  cases h with
  | @lst a us ts g b rs=>
   obtain⟨w,f1,f2,d,h1,n,m,l⟩:=rs.at i;subst n;refine#[w,a::f1,f2,d,#[a,us,rfl,.inl b,h1],rfl,m,λ{H' o g} kk e=>?_];have q:=l (λc p=>kk c (ee _ p)) e;rw[ki h1]at q;exact .lst ((kk a d6).trans b) q
  | @tup a us ts g b rs=>
   obtain⟨w,f1,f2,d,h1,n,m,l⟩:=rs.at i;subst n;refine#[w,f1,f2,d,#[a,us,rfl,.inr (zh _ _ b),h1],rfl,m,λ{H' o g} kk e=>?_];have q:=l kk e;rw[ki h1]at q;exact .tup b q
  | _=>cases i
 | fld f=>
  cases h with
  | @ins a dx c gs fs g b rs=>
   obtain⟨w,f1,f2,d,h1,n,m,l⟩:=cG.at fs rs i;subst n;refine#[w,a::f1,f2,d,#[a,_,dx,gs,rfl,b,h1],rfl,m,λ{H' o g} kk e=>?_];exact .ins ((kk a d6).trans b) (l (λc p=>kk c (ee _ p)) e)
  | _=>cases i
 | key x=>
  cases h with
  | @dct a gs aN g en b rs=>
   obtain⟨w,f1,f2,d,h1,n,m,l⟩:=rs.Yt i;subst n;refine#[w,a::f1,f2,d,#[a,gs,rfl,#[_,b],h1],rfl,m,λ{H' o g} kk e=>?_];exact .dct ((kk a d6).trans b) (l (λc p=>kk c (ee _ p)) e)
  | _=>cases i
theorem aZ.focus(zh:aB Z H):∀(p:List BP) {t u:T} {v:V} {fp:BY},aZ K CL H Z t v fp->T.tM p t=some u->∃w f1 f2 a,Ai H v p w/\fp=f1++(f2++a)/\aZ K CL H Z u w f2 ∧
  ∀{H':Hp} {b:T} {g:BY},(∀c∈f1++a,H' c=H c)->aZ K CL H' Z b w g->aZ K CL H' Z (T.Ah p b t) v (f1++(g++a))
 | [],t,u,v,fp,h,e=>by
  obtain⟨h1,f⟩:=h.Ql;cases e;exact#[v,[],fp,[],rfl,WE,h1,λ{H' b g} _ r=>by rw[e6];exact f r]
 | s::p,t,u,v,fp,h,e=>by
  obtain⟨h1,f⟩:=h.Ql;rw[T.tM]at e;cases d:t.core.Yt s with
  | none=>rw[d]at e;cases e
  | some k=>
   rw[d]at e;obtain⟨i,a1,a2,a3,A,z,y,x⟩:=h1.Yt zh d;obtain⟨w,f1,f2,a,n,m,l,j⟩:=aZ.focus zh p y e;subst z m;refine#[w,a1++f1,f2,a++a3,#[i,A,n],WE,l,λ{H' b g} kk o=>?_];rw[T.Ah,d];have q:=f (x (λc B=>kk c WI) (j (λc B=>kk c WI) o));simpa [List.append_assoc] using q
theorem bz.Qm(S:bz K CL b H Z δ U ts vs)(ev:U[i]? = some (some v0))(hi:δ[i]? = some (some t0))(hp:T.tM p t0=some u)(M:Ai H v0 p w):∃f2 gp,aZ K CL H Z u w f2/\aP K CL H Z ts vs gp/\(f2++gp).Nodup ∧
  ∀{a:Addr} {o:HO} {x:T} {m:Bn} {l:BS} {g n:BY},w=.ref a->a∈f2->gF o=false->aZ K CL (upd H a o) Z x w g->aP K CL (upd H a o) Z m l n->(g++n).Nodup->(∀c∈g++n,c∈f2++gp) →
   bz K CL b (upd H a o) Z (δ.set i (some (T.Ah p x t0))) U m l:=by
 obtain⟨fp,gp,e,r,nd,k⟩:=S.rep;obtain⟨v1,e1,e2,e3,hv,G,rt,put,_⟩:=e.get hi;rw[ev]at hv;cases hv;obtain⟨N,f1,f2,t,at',hf,E,put2⟩:=rt.focus S.zh p hp;have hw:=at'.inj M;subst hw;subst hf;subst G;have s:((e1++((f1++(f2++t))++e3))++gp).Perm ((e1++(f1++(t++e3)))++(f2++gp)):=sT.2 λc=>by
  simp only[List.count_append];lia
 have y:=s.nodup_iff.1 nd;have f:=hO.1 y;refine#[f2,gp,E,r,f.2.1,λ{a o x m l g n} I C hm J L A D=>?_];have q:∀c∈e1++(f1++(t++e3)),upd H a o c=H c:=λc j=>az λz=>f.2.2 c j a (ft _ C) z;have F:=put2 (H':=upd H a o) (λc j=>q c (by
  obtain h|h:=eg.1 j
  .simp[h]
  .simp[h])) J
 have B:=put (H':=upd H a o) (.refl _) (λc j=>q c (by
  obtain h|h:=eg.1 j
  .simp[h]
  .simp[h])) F
 rw[ki ev]at B;have v:((e1++((f1++(g++t))++e3))++n).Perm ((e1++(f1++(t++e3)))++(g++n)):=sT.2 λc=>by
  simp only[List.count_append];lia
 refine S.Pp hm k (by simp[C]) B L (v.nodup_iff.2 (hO.2 #[f.1,A,λc j d hd=>f.2.2 c j d (D d hd)])) λc j=>?_;refine s.mem_iff.2 ?_;obtain h|h:=eg.1 (v.mem_iff.1 j)
 .exact ft _ h
 .exact eL _ (D c h)
theorem bz.zp(S:bz K CL b H Z δ U ts vs)(ev:U[i]? = some (some v0))(hi:δ[i]? = some (some t0))(hp:T.tM p t0=some u):∃w f2,Ai H v0 p w/\aZ K CL H Z u w f2:=by
 obtain⟨fp,gp,e,r,nd,k⟩:=S.rep;obtain⟨v1,e1,e2,e3,hv,d,rt,put,_⟩:=e.get hi;rw[ev]at hv;cases hv;obtain⟨a,f1,f2,f,at',hf,c,put2⟩:=rt.focus S.zh p hp;exact#[a,f2,at',c]
theorem bz.VN(S:bz K CL b H Z δ U (t::ts) (v::vs))(ev:U[i]? = some (some v0))(hi:δ[i]? = some (some t0))(hp:T.tM p t0=some (.lst tl))(n:Ai H v0 p w) :
  ∃a us,w=.ref a/\H a=some (.lst us)/\us.length=tl.length/\bz K CL b (upd H a (.lst (us++[v]))) Z (δ.set i (some (T.Ah p (.lst (tl++[t])) t0))) U ts vs:=by
 obtain⟨f2,gp,h,j,nd,go⟩:=S.Qm ev hi hp n;obtain⟨a,us,g,rfl,rfl,m,rs⟩:=h.lS;cases j with
 | @cons _ _ _ _ f e l k=>
  have ne:∀c∈g++(f++e),c≠a:=λc d z=>by subst z;simp_all
  have pm:((a::(g++(f++[])))++e).Perm ((a::g)++(f++e)):=sT.2 λc=>by simp
  exact#[a,us,rfl,m,rs.length.symm,go rfl d6 rfl (.lst aJ (aP.app (rs.mono (.refl _) λc d=>az (ne c (by simp[d]))) (.cons (l.mono (.refl _) λc d=>az (ne c (by simp[d]))) .nil)))
   (k.mono (.refl _) λc d=>az (ne c (by simp[d]))) (pm.nodup_iff.2 nd) λc d=>pm.mem_iff.1 d]
theorem bz.Lj{c f:Str}{fs:B1}(S:bz K CL b H Z δ U (t::ts) (v::vs))(ev:U[i]? = some (some v0))(hi:δ[i]? = some (some t0))(hp:T.tM p t0=some (.ins c fs))(u:Ai H v0 p w) :
  ∃a dx gs,w=.ref a/\H a=some (.ins (CL c) dx gs)/\gs.length=fs.length/\bz K CL b (upd H a (.ins (CL c) dx (jU f v gs))) Z (δ.set i (some (T.Ah p (.ins c (xT f t fs)) t0))) U ts vs:=by
 obtain⟨f2,gp,l,m,nd,go⟩:=S.Qm ev hi hp u;obtain⟨a,dx,gs,g,rfl,rfl,q,rs⟩:=l.OX;cases m with
 | @cons _ _ _ _ h e o n=>
  have ne:∀c∈g++(h++e),c≠a:=λc d z=>by subst z;exact(hX.1 nd).1 d
  obtain⟨g',k,h1,s,r⟩:=cG.put (f:=f) (o.mono (H':=upd H a (.ins (CL c) dx (jU f v gs))) (.refl _) λc d=>az (ne c (by simp[d]))) (rs.mono (H':=upd H a (.ins (CL c) dx (jU f v gs))) (.refl _) λc d=>az (ne c (by simp[d])));have j:((a::k)++(h++e)).Sublist ((a::g)++(h++e)):=jf (List.Sublist.cons₂ _ s) (iq _);have pm:((a::g')++e).Perm ((a::k)++(h++e)):=((r.cons a).append_right e).trans (sT.2 λc=>by simp only[List.count_append,List.count_cons];lia);exact#[a,dx,gs,rfl,q,rs.length.symm,go rfl d6 rfl (.ins aJ h1) (n.mono (.refl _) λc d=>az (ne c (by simp[d]))) (pm.nodup_iff.2 (nd.sublist j)) λc d=>j.subset (pm.mem_iff.1 d)]
section
variable{e0 e2:Expr}{t1:T}{tl0:Bn}{D:cy}{pa pb:Pos}{cZ:CO}
def u3(X:Cx)(CL:BC)(b:Bx)(e:Expr)(δ:Ap)(i:Nat)(p:List BP):Prop:=
 ∀(H Z:Hp) (U:L2.St) (ts:Bn) (vs:BS) (Q:VK),bz X.K CL b H Z δ U ts vs->(∀v0 v H' Z',aB Z Z'->aB H H'->bz X.K CL b H' Z' δ U ts vs->U[i]? = some (some v0)->Ai H' v0 p v->Q v H')->xO X e U H Q
def uo(n:Vn X i x)(h:δ[i]? = some (some t)):u3 X CL b (.Name x pos) δ i []:=λH Z U ts vs Q S k=>by
 obtain⟨v,hv,_⟩:=S.look h;exact bH (jS n.hi n.hv n.hd n.gX) #[v,hv,k v v H Z (.refl _) (.refl _) S hv rfl]
def Qn{z:Int}{j:Nat}(h:u3 X CL b e δ i p)(hi:δ[i]? = some (some t))(q:T.tM p t=some (.lst tl))(s:bN X CL b e2 δ (.int z) δ)(c:NK tl.length z=some j)(hp:nq e2:=by exactλ_ _=>rfl) :
  u3 X CL b (.Subscript e e2 pos) δ i (p++[.ix j]):=λH Z U ts vs Q S k=>
 bH (B9 HQ bX bX hp) (h H Z U ts vs _ S λv0 v H' Z' m s1 x ev u=>s H' Z' U ts vs _ x λv2 H2 Z2 l s2 f n=>by
  have at2:=u.mono s2;obtain⟨w,f2,at',r⟩:=f.zp ev hi q;have:=at'.inj at2;subst this;obtain⟨a,us,g,rfl,rfl,d,rs⟩:=r.lS;have o:=(HP c).2.1;obtain⟨w,_,_,_,hw,_,_,_⟩:=rs.at (gc o);refine#[a,us,z,w,rfl,n.sc rfl,lM.of d,?_,k v0 w H2 Z2 (m.trans l) (s1.trans s2) f ev (at2.snoc #[a,us,rfl,.inl d,hw])];unfold mw;rw[<- rs.length,c];exact hw)
def Aj(x:u3 X CL b e0 δ i p)(h0:δ[i]? = some (some t0))(f:T.tM p t0=some (.lst tl0))(h:bw X CL b e δ t δ1)(h1:δ1[i]? = some (some t1))(d:T.tM p t1=some (.lst tl))(u:tl.length<=1000000)(k:cg X CL b cZ (δ1.set i (some (T.Ah p (.lst (tl++[t])) t1))) D)
  (z:attributeBase e0 "append" X.env (eval e0 X.env)=eval e0 X.env:=by rfl)
  (q:AB X pb e:=by rfl)
  (c:(pa.endLine==pb.line)=true:=by rfl) (j:AC X e []:=by exact aT rfl) (o:swapsWith (.Call (.Attribute e0 "append" pa) [e] [] pb) none pos.line X.env=pure false:=by rfl) :
  cg X CL b (.Expr (.Call (.Attribute e0 "append" pa) [e] [] pb) pos::cZ) δ D:=bG λH Z U ts vs E S M=>
 nQ (pM (sO PySem.F.plainAttrs_list PySem.F.slot_list_append PySem.F.type_list_append rE bX (bB bX cV j) z q c j rfl) o) (x H Z U ts vs _ S λv0 v G A z0 s0 m ev l=>by
  obtain⟨w,f2,at',r⟩:=m.zp ev h0 f;have:=at'.inj l;subst this;refine#[?_,h G A U ts vs _ m λv2 H1 Z1 n k1 C=>?_]
  .obtain⟨_,_,_,rfl,rfl,g,_⟩:=r.lS;exact .inl #[rfl,_,lM.of g]
  .obtain⟨a,us,y,g,s,B⟩:=C.VN ev h1 d (l.mono k1);exact#[a,us,v2,y,rfl,g,by rw[s];exact pl u WA,M.nx _ U _ Z1 (z0.trans n) B k])
end
section
variable{pos':Pos}{D:cy}{cZ:CO}{A:Type}{k:Nat}
theorem Zk{z w:Int}(g:Gx X)(nm:Ln X i x)(d:δ[i]? = some (some (.sh (.int z))))(h:bN X CL b e δ (.int w) δ)(k:cg X CL b cZ (δ.set i (some (.sh (.int (z+w))))) D) :
  cg X CL b (.AugAssign (.Name x pos') .Add e pos::cZ) δ D:=bG λH Z U ts vs E S M=>
 nQ (ZK g.nd nm.hi nm.loc bX ZL nm.hf) (by
  obtain⟨v,hv,r⟩:=S.OZ d;cases r;refine#[_,hv,h H Z U ts vs _ S λv2 H1 Z1 a k1 j c=>?_];cases c;have f:i<δ.length:=by
   obtain h|h:=Nat.lt_or_ge i _
   .exact h
   simp_all
  exact#[z,w,rfl,rfl,M.nx _ _ H1 Z1 a ((j.push (.int _)).set f) k])
end
def w1{α:Type}:Nat->(List α->Prop)->Prop
 | 0,P=>P []
 | n+1,P=>∀a,w1 n λr=>P (a::r)
def vq{α:Type}{n:Nat}{P:List α->Prop}(h:w1 n P):∀us:List α,us.length=n->P us:=by
 intro us b
 induction us generalizing n P with
 | nil=>subst b;exact h
 | cons a r c=>subst b;exact c (h a) rfl
abbrev En(K:Frag)(x:Str)(f:Addr):Prop:=nsIn K mainGlobals x=some (some (.ref f))
section
variable{o:Expr}{D:cy}{m:Nat}{c mm:Str}
structure x3(X:Cx)(CL:BC)(c m:Str)(k n:Nat){A:Type}(arg:A->BB)(Pre:A->Prop)(exc:A->Ex):Prop where
 ex:∃f fd ps,Meth X.K (CL c) m f/\eU X.prog X.w X.K X.mg X.base (CK X.prog X.w) k f fd ps (ka X.K CL n arg Pre exc)/\Binds X.K fd ps []
 room:dI k X.A
 cls:Ej X.K (CL c)
theorem x3.pin{p:At}{k n:Nat}{A:Type}{arg:A->BB}{Pre:A->Prop}{exc:A->Ex}(F:x3 X CL c mm k n arg Pre exc):x3 (X.pinned p) CL c mm k n arg Pre exc:=#[F.ex,F.room,F.cls]
end
instance ak9:DecidableEq D:=λa b=>Classical.propDecidable (a=b)
end L3
namespace L2
open PySem PySem.Spec PyProof.Rows PySem.Builtin PySem.Builtin.Str
variable{X:Cx}{o e i:Expr}{es:CC}{to ty:TE}{ta:TA}{apos gU pos:Pos}
def Yu:V->BS->Hp->VK->Prop:=λx xs H Q=>∃a gs k v,x=.ref a/\xs=[kV k,v]/\H a=some (.dK gs)/\gs.length<sizeLine/\(∀u,iE gs k=some u->Q u H)/\(iE gs k=none->Q v (upd H a (.dK (putK gs k v))))
theorem VP:FX X "dict.setdefault" Yu:=by
 intro pins s U H x vs v us Q I g b h;obtain⟨a,gs,k,v',rfl,rfl,e,t,j,q⟩:=h;cases g;cases b with
 | cons i b=>
  cases b with
  | cons d b=>
   cases b;obtain⟨z,hd,ws,rel,dd⟩:=OO I.bO e;have l:ws.length<=sizeLine:=by rw[<- rel.length];exact z
   refine call_meetsIn PySem.F.slot_dict_setdefault dd.typeIs PySem.F.entry_dict_setdefault (PySem.F.args_dict_setdefault_3 _ _ _) (kt_meets_setdefault (ez X.prog X.w) a (yz i) hd _) #[ws,dd,l,λp hp=>?_,λr h' f o=>?_]
   .have:=rel.val k;rw[hp]at this;cases hv:iE gs k with
    | none=>rw[hv]at this;exact this.elim
    | some u=>rw[hv]at this;exact#[u,H,I.tok _,this,j u hv]
   .have n:iE gs k=none:=by
     have:=rel.val k;rw[r]at this;cases hv:iE gs k with
     | none=>rfl
     | some u=>rw[hv]at this;exact this.elim
    have c:(putK gs k v').length<=sizeLine:=by have:=mD gs k v';lia
    exact#[v',_,zL I (by rw[e];exact True.intro) o (let ⟨q,_,_,m,_⟩:=f;#[q,m]) (OS c hd (rel.put k d) f),d,q n]
def VQ(q:PE X o to)(r:PA X (e::es) ta)
  (y:attributeBase o "setdefault" X.env (eval o X.env)=eval o X.env:=by rfl)
  (n:((backTo gU (starEach (e::es) X.env)).all (λx=>!x.1)&&(backToKw gU (keywordEach [] X.env)).all (λx=>x.1.isSome)&&decide ((e::es).length+([]:ET).length+(if ([]:ET).isEmpty then 0 else 1)<30))=true:=by rfl)
  (b:(apos.endLine==gU.line)=true:=by rfl) (p:AC X e es:=by rfl) (i:AL X gU es:=by rfl) :
  PE X (.Call (.Attribute o "setdefault" apos) (e::es) [] gU) (λU H Q=>to U H λx H1=>∃a gs,x=.ref a/\H1 a=some (.dK gs)/\ta U H1 λxs H2=>Yu x xs H2 Q):=by
 intro pins s U H Q I h;refine wpAny_Call_method_late y n b rfl (cJ (q pins s U H _ I h) λv s1 zz=>?_);obtain⟨x,H1,g,d,a,gs,rfl,t,l⟩:=zz;have c:=d;cases d;obtain⟨z,hd,ws,rel,dd⟩:=OO g.bO t;have B:=dd;obtain⟨m,w,ep,h1,u,G,E,D⟩:=B;refine#["dict","dict.setdefault",PySem.F.plainAttrs_dict,PySem.F.slot_dict_setdefault,PySem.F.type_dict_setdefault,dd.typeIs,λJ A=>#[m,by cases A;exact h1,u.2.1],?_];have f:=r gU pins s1 U H1 _ g l;rw[p]at f ⊢;refine Calls.callWith_builtin (by show(false || (backTo gU (starEach es X.env)).any (·.1))=false;rw[i]<;>rfl) (Calls.evalArgs_plain ?_);refine cJ f λus s2 zz=>?_;obtain⟨vs,H2,C,j,k⟩:=zz;exact VP pins s2 U H2 _ vs _ us Q C c j k
def Lp:Z7 X "str.startswith" (λx xs H Q=>∃z y:Str,x=.str z/\xs=[.str y]/\Q (.bl (Txt.startswith z y)) H):=by
 intro pins s U H x vs v us Q I a b h;obtain⟨z,y,rfl,rfl,q⟩:=h;obtain⟨t,rfl⟩:=a;obtain⟨u,rfl,t',rfl⟩:=vals1 b;exact SC.startswith #[.bl _,H,I,rfl,q]
def Lq:Z7 X "str.lstrip" (λx xs H Q=>∃z y:Str,x=.str z/\xs=[.str y]/\z.length<=sizeLine/\Q (.str (Txt.lstripChars z y)) H):=by
 intro pins s U H x vs v us Q I a b h;obtain⟨z,y,rfl,rfl,c,q⟩:=h;obtain⟨t,rfl⟩:=a;obtain⟨u,rfl,t',rfl⟩:=vals1 b;exact SC.lstripChars (λt' k=>#[.str _,H,I.tok k,#[_,rfl],q]) c
def part3(x y:Str):AT:=match occurrences x y 0 x.length 1 with
 | i::_=>[strSub x 0 i,y,strSub x (i+y.length) x.length]
 | []=>[x,Str.empty,Str.empty]
def VR:Z7 X "str.partition" (λx xs H Q=>∃z y:Str,x=.str z/\xs=[.str y]/\(y.length==0)=false/\z.length<=sizeLine/\∀p,H p=none->Q (.ref p) (upd H p (.tup ((part3 z y).map V.str)))):=by
 intro pins s U H x vs v us Q I a c h;obtain⟨z,y,rfl,rfl,f,d,q⟩:=h;obtain⟨t,rfl⟩:=a;obtain⟨u,rfl,t',rfl⟩:=vals1 c;refine call_meets F.slot_str_partition (ja _ _ _) F.entry_str_partition (F.args_str_partition_2 _ _) (meets_str_partition z y t t' f d) ?_;have hf:H s.heap.objs.size=none:=I.bO.fresh (ea _);unfold part3 at q
 revert q
 cases occurrences z y 0 z.length 1 with
 | nil=>intro q;exact#[.ref _,_,I.laid (o:=.tup ([z,Str.empty,Str.empty].map V.str)) (λb u e=>ff _ e) (ea _) #[er (show 3<=10 by decide) (by rw[fA];decide),_,.cons #[_,rfl] (.cons #[_,rfl] (.cons #[_,rfl] .nil)),#[_,hE _ rfl,rfl,_,rfl]],rfl,q _ hf]
 | cons i r=>intro q;exact#[.ref _,_,I.laid (o:=.tup ([strSub z 0 i,y,strSub z (i+y.length) z.length].map V.str)) (λb u e=>ff _ e) (ea _) #[er (show 3<=10 by decide) (by rw[fA];decide),_,.cons #[_,rfl] (.cons #[_,rfl] (.cons #[_,rfl] .nil)),#[_,hE _ rfl,rfl,_,rfl]],rfl,q _ hf]
def Lr:jG X (.type "int") (λxs H Q=>∃(z:Str) (n:Int),xs=[.str z]/\intText? z=some n/\z.length<=640/\Q (.int n) H):=by
 intro pins s U H xs us Q I r h;obtain⟨z,n,rfl,a,b,q⟩:=h;obtain⟨u,rfl,t,rfl⟩:=vals1 r;exact PySem.W.KIN.call_text a b #[.int n,H,I.tok _,#[_,rfl],q]
def GD(X:Cx)(x:Str)(f:Str->CS):Prop:=∃(a:Addr) (es:Array DictEntry) (n:Nat),X.mg x=some (.ref a)/\X.K.lookup a=some #[.type "dict",none,.dict es n,#[]]/\KeysLit X.w.params es.toList/\∀k z,f k=some z->∃t,nsIn X.K a k=some (some (.int z t))
def NY{x:Str}{f:Str->CS}{px:Pos}(hm:GD X x f)(m:Gl X x)(hi:PE X i ty)(j:EW i)(hd:AD x:=by decide) :
  PE X (.Subscript (.Name x px) i pos) (λU H Q=>ty U H λy H1=>∃(k:Str) (z:Int),y=.str k/\f k=some z/\Q (.int z) H1):=by
 intro pins s U H Q I h;obtain⟨a,es,n,hm,b,l,hf⟩:=hm;refine zM wb.lookup j (gE I m hm (cJ (hi pins s U H _ I h) λo s2 zz=>?_) hd);obtain⟨y,H2,c,d,k,z,rfl,g,q⟩:=zz;obtain⟨t,rfl⟩:=d;obtain⟨t2,e⟩:=hf k z g;have mp:=mapOf_K (prog:=X.prog) (w:=X.w) c.j7 b l;exact#[mp.typeIs,wpAny_getItem_of (strKind_is X.prog X.w k t) mp (PySem.W.find_K b e) #[.int z,H2,c.tok _,#[_,rfl],q]]
end L2
namespace L3
open PySem PySem.Spec PyProof.Rows L2 PySem.Builtin PySem.Builtin.Str
variable{X:Cx}{CL:BC}{b:Bx}{e o e2 e3:Expr}{δ δ1 δ2:Ap}{pos apos pp px pa:Pos}{i:Nat}{x:Str}{aN:EO}{d:L3.D}{z:Str}
def Ls{y:Str}(h1:bN X CL b o δ (.str z) δ1)(j:bN X CL b e δ1 (.str y) δ2)
  (l:attributeBase o "startswith" X.env (eval o X.env)=eval o X.env:=by rfl)
  (i:AB X pos e:=by rfl)
  (a:(apos.endLine==pos.line)=true:=by rfl) (c:AC X e []:=by exact aT rfl) :
  bw X CL b (.Call (.Attribute o "startswith" apos) [e] [] pos) δ (.sh (.bl (Txt.startswith z y))) δ2:=λH Z U ts vs Q S k=>
 bH (sO nu PySem.F.slot_str_startswith PySem.F.type_str_startswith Lp bX (bB bX cV c) l i a c rfl)
  (h1 H Z U ts vs _ S λv1 H1 Z1 f k1 n h=>by
   have e1:=h.sc rfl;subst e1;refine#[rfl,j H1 Z1 U ts vs _ n λv2 H2 Z2 d k2 m g=>?_];have e2:=g.sc rfl;subst e2;exact#[z,y,rfl,rfl,k _ _ _ (f.trans d) (k1.trans k2) (m.push (.bl _))])
def Lv{y w:Str}(h1:bN X CL b o δ (.str z) δ1)(l:bN X CL b e δ1 (.str y) δ2)(j:z.length<=sizeLine)(hw:Txt.lstripChars z y=w)
  (m:attributeBase o "lstrip" X.env (eval o X.env)=eval o X.env:=by rfl)
  (i:AB X pos e:=by rfl)
  (a:(apos.endLine==pos.line)=true:=by rfl) (c:AC X e []:=by exact aT rfl) :
  bw X CL b (.Call (.Attribute o "lstrip" apos) [e] [] pos) δ (.sh (.str w)) δ2:=λH Z U ts vs Q S k=>
 bH (sO nu PySem.F.slot_str_lstrip PySem.F.type_str_lstrip Lq bX (bB bX cV c) m i a c rfl)
  (h1 H Z U ts vs _ S λv1 H1 Z1 f k1 p h=>by
   have e1:=h.sc rfl;subst e1;refine#[rfl,l H1 Z1 U ts vs _ p λv2 H2 Z2 d k2 n g=>?_];have e2:=g.sc rfl;subst e2;subst hw;exact#[z,y,rfl,rfl,j,k _ _ _ (f.trans d) (k1.trans k2) (n.push (.str _))])
def CQ{y:Str}{l:AT}(h1:bN X CL b o δ (.str z) δ1)(r:bN X CL b e δ1 (.str y) δ2)(n:(y.length==0)=false)(m:z.length<=sizeLine)(q:part3 z y=l)
  (s:attributeBase o "partition" X.env (eval o X.env)=eval o X.env:=by rfl)
  (j:AB X pos e:=by rfl)
  (a:(apos.endLine==pos.line)=true:=by rfl) (d:AC X e []:=by exact aT rfl) :
  bw X CL b (.Call (.Attribute o "partition" apos) [e] [] pos) δ (.sh (.tup (l.map .str))) δ2:=by
 have:bw X CL b (.Call (.Attribute o "partition" apos) [e] [] pos) δ (.tup ((l.map L3.D.str).map T.sh)) δ2:=λH Z U ts vs Q S k=>
  bH (sO nu PySem.F.slot_str_partition PySem.F.type_str_partition VR bX (bB bX cV d) s j a d rfl)
   (h1 H Z U ts vs _ S λv1 H1 Z1 g k1 v i=>by
    have e1:=i.sc rfl;subst e1;refine#[rfl,r H1 Z1 U ts vs _ v λv2 H2 Z2 f k2 u h=>?_];have e2:=h.sc rfl;subst e2;subst q;refine#[z,y,rfl,rfl,n,m,λp c=>?_];have rc:aD X.K CL Z2 ((part3 z y).map L3.D.str) ((part3 z y).map V.str):=aD.yI _;obtain⟨c1,c2,t⟩:=(bz.pT rc u).uP WE c;exact k _ _ _ (g.trans (f.trans c1)) (k1.trans (k2.trans c2)) t)
 have:=zQ this
 rwa [T.d7,iC]at this
def Ak{n:Int}(hm:X.mg "int" = none)(h:bN X CL b e δ (.str z) δ1)(d:intText? z=some n)(f:z.length<=640)(g:Gl X "int")(a:AC X e []:=by exact aT rfl):bw X CL b (.Call (.Name "int" pp) [e] [] pos) δ (.sh (.int n)) δ1:=λH Z U ts vs Q S k=>
 bH (j8 Lr g hm yF (bB bX cV a) (he:=a)) (h H Z U ts vs _ S λv H1 Z1 c k1 i r=>#[z,n,by rw[r.sc rfl],d,f,k _ H1 Z1 c k1 (i.push (.int _))])
def Yv{f:Str->CS}{k:Str}{z:Int}(hm:GD X x f)(g:Gl X x)(h:bN X CL b e δ (.str k) δ1)(hf:f k=some z)(d:EW e:=by exactλ_ _=>rfl)(hd:AD x:=by decide):bw X CL b (.Subscript (.Name x px) e pos) δ (.sh (.int z)) δ1:=λH Z U ts vs Q S kk=>
 bH (NY hm g bX d hd) (h H Z U ts vs _ S λv H1 Z1 a k1 i c=>#[k,z,c.sc rfl,hf,kk _ H1 Z1 a k1 (i.push (.int z))])
def VW(k:Key)(n:Vn X i x)(h1:δ[i]? = some (some (.iO aN)))(J:bN X CL b e2 δ (K6 k) δ)(I:bw X CL b e3 δ (.sh d) δ){e:EO}(g:if (jE aN k).isSome=true then e=aN else e=sU aN k d)(G:aN.length<=1000000)
  (L:attributeBase (.Name x px) "setdefault" X.env (eval (.Name x px) X.env)=eval (.Name x px) X.env:=by rfl)
  (D:((backTo pos (starEach [e2,e3] X.env)).all (λx=>!x.1)&&(backToKw pos (keywordEach [] X.env)).all (λx=>x.1.isSome)&&decide ([e2,e3].length+([]:ET).length+(if ([]:ET).isEmpty then 0 else 1)<30))=true:=by rfl)
  (c:(pa.endLine==pos.line)=true:=by rfl) (s:starEach [e2,e3] X.env=(false,eval e2 X.env)::starEach [e3] X.env:=by exact aT rfl) (A:AC X e3 []:=by exact aT rfl) (y:(backTo pos (starEach [e3] X.env)).any (·.1)=false:=by rfl) :
  pE X CL b (.Call (.Attribute (.Name x px) "setdefault" pa) [e2,e3] [] pos) δ (.sh .any) (δ.set i (some (.iO e))):=λH Z U ts vs Q S kk=>
 bH (VQ (jS n.hi n.hv n.hd n.gX) (bB bX (bB bX cV A) s) L D c s y) (by
  obtain⟨v0,e0,r⟩:=S.look h1;rw[T.d7]at r;cases r with
  | @iO a l _ j B=>
   refine#[_,e0,a,l,rfl,j,J H Z U _ _ _ S λv2 H2 Z2 p k2 N C=>I H2 Z2 U _ _ _ N λz P Z3 o k3 m=>?_];obtain⟨v1,e1,q⟩:=m.look h1;rw[T.d7]at q;rw[e0]at e1;cases e1;cases q with
   | @iO _ gs _ t w=>
    have hv:=vm (k:=k) w;have h:gs.length=aN.length:=w.length.symm;refine#[a,gs,k,z,rfl,by rw[C.key],t,by rw[h];exact pl G (by rw[fA];decide),λu E=>?_,λF=>?_]
    .rw[E]at hv;rw[di (by rw[<- hv];rfl)]at g;refine kk _ _ Z3 (p.trans o) ?_;rw[g,ki h1];exact m.pop.push (.any _)
    .rw[F]at hv;rw[cq (by rw[<- hv];exact fg)]at g;obtain⟨a2,K,v,f,O,M⟩:=m.PV k h1;rw[e0]at v;cases v;rw[t]at f;cases f;refine kk _ _ Z3 (p.trans o) ?_;rw[g];exact M.push (.any _))
end L3
namespace L3
open PySem PySem.Spec PyProof.Rows L2
abbrev _root_.DO:=List (Str×Int)
def nG{k a:Str}{z v:Int}{l:DO}(h:((a,v)::l).lookup k=some z):(k=a/\z=v)\/l.lookup k=some z:=by
 rw[hu]at h;split at h
 .rename_i e;exact .inl #[eq_of_beq e,(e5 h).symm]
 .exact .inr h
end L3
namespace L2
open PySem PySem.Spec PyProof.Rows PySem.Builtin PySem.Builtin.Str
abbrev _root_.Ee:=List (Str×AT)
variable{X:Cx}{i:Expr}{ty:TE}{pos px:Pos}{x:Str}{l:Ee}
def qi(K:Frag)(es:List DictEntry)(l:Ee):Prop:=∀k:Str,(l.lookup k=none/\findBy Value.isStrOf es.toArray k=none)\/∃ts b,l.lookup k=some ts/\findBy Value.isStrOf es.toArray k=some (.ref b)/\∀H:Hp,lN K H b (ts.map V.str)
noncomputable def SI{K:Frag}:qi K [] []:=λk=>.inl #[rfl,rfl]
def VX{h:Int}{y:Str}{t:Tok}{v:Value}{es:List DictEntry}{k:Str}:findBy Value.isStrOf ((#[h,.str y t,v]:DictEntry)::es).toArray k=if k=y then some v else findBy Value.isStrOf es.toArray k:=by
 unfold findBy;rw[List.find?_toArray,List.find?_toArray,jR];have e:Value.isStrOf k (.str y t)=decide (k=y):=by
  show(y==k)=_;by_cases h:k=y
  .subst h;rw[beq_self_eq_true,eD rfl]
  .rw[eu h];exact jl.2 λz=>h z.symm
 show Option.map _ (match Value.isStrOf k (.str y t) with|true=>_|false=>_)=_;rw[e];by_cases h:k=y
 .rw[eD h,di h];rfl
 .rw[eu h,cq h]
def nI{K:Frag}{h:Int}{y:Str}{t:Tok}{b:Addr}{es:List DictEntry}{ts:AT}(a:∀H:Hp,lN K H b (ts.map V.str))(r:qi K es l):qi K (#[h,.str y t,.ref b]::es) ((y,ts)::l):=λk=>by
 rw[VX,hu];by_cases e:k=y
 .rw[di e,hI.2 e];exact .inr #[ts,b,rfl,rfl,a]
 .rw[cq e,jl.2 e];exact r k
def GE(X:Cx)(x:Str)(l:Ee):Prop:=∃(a:Addr) (es:List DictEntry) (n:Nat),X.mg x=some (.ref a)/\(a==sysModules)=false/\X.K.lookup a=some #[.type "dict",none,.dict es.toArray n,#[]]/\KeysLit X.w.params es/\qi X.K es l
def Yw{K:Frag}{ts:AT}{b:Addr}{od:B2}{its:Db}{n:Nat}{sl:CU}(d:K.lookup b=some #[.type "tuple",od,.seq its n,sl])(c:its.size<=sizeLine)(a:Vals (ts.map V.str) its.toList):∀H:Hp,lN K H b (ts.map V.str):=λH=>.inr #[_,its,n,d,rfl,rfl,c,a]
def SH(hm:GE X x l)(r:Gl X x)(hi:PE X i ty)(m:EW i)(hd:AD x:=by decide) :
  PE X (.Subscript (.Name x px) i pos) (λU H Q=>ty U H λy H1=>∃(k:Str) (ts:AT),y=.str k/\l.lookup k=some ts/\∀b,(∀H:Hp,lN X.K H b (ts.map V.str))->Q (.ref b) H1):=by
 intro pins s U H Q I h;obtain⟨a,es,n,hm,j,o,p,hf⟩:=hm;refine zM wb.lookup m (gE I r hm (cJ (hi pins s U H _ I h) λv s2 zz=>?_) hd);obtain⟨y,H2,d,g,k,ts,rfl,c,q⟩:=zz;obtain⟨t,rfl⟩:=g;have mp:=mapOf_K (prog:=X.prog) (w:=X.w) d.j7 o (by simpa using p);obtain⟨e,_⟩|⟨f,b,e,e2,u⟩:=hf k
 .rw[c]at e;cases e
 .rw[c]at e;cases e;exact#[mp.typeIs,wpAny_getItem_of (strKind_is X.prog X.w k t) mp e2 #[.ref b,H2,d.tok _,rfl,q b u]]
def SF(hm:GE X x l)(o:Gl X x)(hi:PE X i ty)(hd:AD x:=by decide) :
  PC X .In i (.Name x px) (λU H Q=>ty U H λy H1=>∃k:Str,y=.str k/\Q (.bl (l.lookup k).isSome) H1):=by
 intro pins s U H Q I h;obtain⟨a,es,n,hm,c,j,m,hf⟩:=hm;refine cJ (hi pins s U H _ I h) λp s1 zz=>?_;obtain⟨y,H1,d,g,k,rfl,q⟩:=zz;obtain⟨t,rfl⟩:=g;refine gE d o hm ?_ hd;refine wpAny_in_of (strKind_is X.prog X.w k t) c (mapOf_K (prog:=X.prog) (w:=X.w) d.j7 j (by simpa using m)) ?_;refine#[.bl (l.lookup k).isSome,H1,d.tok _,?_,q];obtain⟨e,e2⟩|⟨f,b,e,e2,_⟩:=hf k
 .rw[e,e2];rfl
 .rw[e,e2];rfl
end L2
namespace L3
open PySem PySem.Spec PyProof.Rows L2 PySem.Builtin PySem.Builtin.Str
variable{X:Cx}{CL:BC}{b:Bx}{e:Expr}{δ δ1:Ap}{pos px:Pos}{x k:Str}{l:Ee}
def SE(hm:GE X x l)(d:Gl X x)(h:bN X CL b e δ (.str k) δ1)(hd:AD x:=by decide):kQ X CL b (.Compare e [.In] [.Name x px] pos) δ (l.lookup k).isSome δ1:=λH Z U ts vs Q S kk=>
 pR (zA (SF hm d bX hd) rfl) (h H Z U ts vs _ S λv H1 Z1 a k1 f c=>#[k,c.sc rfl,_,rfl,kk H1 Z1 a k1 f])
def SA{ts:AT}(hm:GE X x l)(f:Gl X x)(h:bN X CL b e δ (.str k) δ1)(hf:l.lookup k=some ts)(d:EW e:=by exactλ_ _=>rfl)(hd:AD x:=by decide):bw X CL b (.Subscript (.Name x px) e pos) δ (.sh (.tup (ts.map .str))) δ1:=λH Z U us vs Q S kk=>
 bH (SH hm f bX d hd) (h H Z U us vs _ S λv H1 Z1 a k1 i c=>#[k,ts,c.sc rfl,hf,λj g=>kk _ H1 Z1 a k1 (i.push (.tup (g Z1) (aD.yI ts)))])
variable{o:Expr}{δ2:Ap}{apos:Pos}
def Lw:Z7 X "str.split" (λx vs H Q=>∃z y,x=.str z/\vs=[.str y]/\(y.length==0)=false/\z.length<=sizeLine/\(Txt.split z y).length<=sizeLine/\∀p,H p=none->Q (.ref p) (upd H p (.lst ((Txt.split z y).map V.str)))):=by
 intro pins s U H x vs v us Q I c d h;obtain⟨z,y,rfl,rfl,b,g,hp,q⟩:=h;obtain⟨t,rfl⟩:=c;obtain⟨u,rfl,f⟩:=d.one;obtain⟨t',rfl⟩:=f;by_cases h1:(decide (z.length<y.length) || decide (strKind z<strKind y))=true
 .have e:Txt.split z y=[z]:=by unfold Txt.split;rw[di h1]
  rw[e]at q;exact call_meets F.slot_str_split (ja _ _ _) tJ (so _ _) (meets_str_split_cannot_occur z y t t' h1) #[.ref _,_,I.OI (ys:=[V.str z]) (its:=[.str z t]) (.cons #[_,rfl] .nil) (by rw[fA];exact eE rfl),rfl,q _ I.fresh]
 .have h1:(decide (z.length<y.length) || decide (strKind z<strKind y))=false:=by simpa using h1
  by_cases a:(occurrences z y 0 z.length (z.length+1)).isEmpty=true
  .have e:Txt.split z y=[z]:=by unfold Txt.split;rw[cq (by rw[h1];exact fg),di a]
   rw[e]at q;exact call_meets F.slot_str_split (ja _ _ _) tJ (so _ _) (meets_str_split_not_found z y t t' h1 b a) #[.ref _,_,I.OI (ys:=[V.str z]) (its:=[.str z t]) (.cons #[_,rfl] .nil) (by rw[fA];exact eE rfl),rfl,q _ I.fresh]
  .have a:(occurrences z y 0 z.length (z.length+1)).isEmpty=false:=by simpa using a
   have e:Txt.split z y=splitM z y:=by unfold Txt.split splitM;rw[cq (by rw[h1];exact fg),cq (by rw[a];exact fg)]
   rw[e]at q hp;exact call_meets F.slot_str_split (ja _ _ _) tJ (so _ _) (meets_str_split_sep z y t t' h1 b a g hp) #[.ref _,_,I.OI (its:=strsFrom s.toks (splitM z y)) (Vals.strsFrom _ _) (by rw[d4];exact hp),rfl,q _ I.fresh]
def rL{z y:Str}{l:AT}(h1:bN X CL b o δ (.str z) δ1)(s:bN X CL b e δ1 (.str y) δ2)(q:(y.length==0)=false)(n:z.length<=sizeLine)(r:Txt.split z y=l)(hp:l.length<=sizeLine)
  (t:attributeBase o "split" X.env (eval o X.env)=eval o X.env:=by rfl)
  (m:AB X pos e:=by rfl)
  (a:(apos.endLine==pos.line)=true:=by rfl) (f:AC X e []:=by exact aT rfl) :
  bw X CL b (.Call (.Attribute o "split" apos) [e] [] pos) δ (.lst ((l.map L3.D.str).map T.sh)) δ2:=λH Z U ts vs Q S k=>
 bH (sO nu PySem.F.slot_str_split PySem.F.type_str_split Lw bX (bB bX cV f) t m a f rfl)
  (h1 H Z U ts vs _ S λv1 H1 Z1 h k1 w j=>by
   have e1:=j.sc rfl;subst e1;refine#[rfl,s H1 Z1 U ts vs _ w λv2 H2 Z2 g k2 v i=>?_];have e2:=i.sc rfl;subst e2;subst r;refine#[z,y,rfl,rfl,q,n,hp,λp d=>?_];have rc:aD X.K CL Z2 ((Txt.split z y).map L3.D.str) ((Txt.split z y).map V.str):=aD.yI _;obtain⟨c,u⟩:=(bz.pT rc v).rG (g0:=[]) WE d;exact k _ _ _ (h.trans g) (k1.trans (k2.trans c)) u)
end L3
namespace L3
open PySem PySem.Spec PyProof.Rows L2
section
variable{X:Cx}{CL:BC}{b:Bx}{δ:Ap}{pos:Pos}{x:Str}{d:D}
def ai{i:Int}{j:Nat}:bN X CL b (.Constant (.int i) j pos) δ (.int i) δ:=ak gZ
def au{j:Nat}:bN X CL b (.Constant (.str x) j pos) δ (.str x) δ:=ak bQ
def aV{n:Nat}(h:Nat.ble n 1000=true:=by rfl):n<=sizeLine:=g7 h
variable{α:Type}{l:List α}{u0 u1 u2 v:α}
def cK:mw (v::l) 0=some v:=fY rfl
def dD:mw (u0::v::l) 1=some v:=fY rfl
def fV:mw (u0::u1::v::l) 2=some v:=fY rfl
def vt:mw (u0::u1::u2::v::l) 3=some v:=fY rfl
section
variable{scope:Scope}{Nc:AT}{C:Addr}{s:Shared}{H:Hp}{fp:BY}(i:Nat)
def Al(h1:Nc[i]? = some x:=by rfl)(a:scope.names.lookup x=some .local:=by decide +kernel)(hd:AD x:=by decide)(gX:AE x:=by decide):Vn (aR X scope Nc C s H fp) i x:=Pg h1 a hd gX
def Am(h1:Nc[i]? = some x:=by rfl)(a:scope.names.lookup x=some .free:=by decide +kernel)(hd:AD x:=by decide)(gX:AE x:=by decide):Vn (aR X scope Nc C s H fp) i x:=XB h1 a hd gX
def jm(h:δ[i]? = some (some (.sh d)):=by rfl)(n:Vn (aR X scope Nc C s H fp) i x:=by exact Al _):bN (aR X scope Nc C s H fp) CL b (.Name x pos) δ d δ:=ak (v_ n h)
def kD(a:scope.names.lookup x=some .globalImplicit:=by decide +kernel):Gl (aR X scope Nc C s H fp) x:=Ve a
end
def Lx{K:Frag}{ts:AT}{b:Addr}{od:B2}{its:Db}{n:Nat}{sl:CU}(d:K.lookup b=some #[.type "tuple",od,.seq its n,sl])(c:its.size<=sizeLine:=by exact g7 rfl)(a:Vals (ts.map V.str) its.toList:=by repeat (first|exact .nil|refine .cons #[_,rfl] ?_))(H:Hp):lN K H b (ts.map V.str):=L2.Yw d c a H
abbrev Dds(X:Cx)(CL:BC)(b:Bx)(st:Stmt)(N:AT){A:Type}(arg:A->BB)(Pre:A->Prop)(res:A->T):Prop:=∀ ⦃a:A⦄,Pre a->cg X CL b (bJ st) (entry N (arg a)) {nx:=λ_=>res a=.sh .non,rt:=λc _=>c=res a}
end
abbrev IsC(X:Cx)(s:Str):Prop:=X.env.kindOf s=some .cell
structure Wq(n:Nat)(p:Prop):Prop where
 h:p
structure Us(K:Frag)(x:Str)(st:Stmt)(f:Addr)(fd:FuncData):Prop extends NP K x x st f fd where
 m:En K x f
 dn:fd.defaults=.none
structure VY(K:Frag)(C:Addr)(x qual:Str)(st:Stmt)(f:Addr)(fd:FuncData):Prop extends NP K x qual st f fd where
 a:findIn K (.ref C) x=some (some (.ref f))
 i:isFn K (.ref f)=true
 dn:fd.defaults=.none
variable{K:Frag}{x:Str}{st:Stmt}{f:Addr}{fd:FuncData}{ps:AT}
theorem Us.binds(F:Us K x st f fd)
  (h:∀(kV doc pm:Value) (an:B2) (dP ct:Value) (us:B0),us.length=ps.length->bindArgs (fnOf x x (fZ st) (bJ st) (aC st) .none kV doc pm an dP ct) #[us,[]]=pure (ps.zip us)):Binds K fd ps []:=F.1.binds F.dn h
variable{C:Addr}{qual:Str}
theorem VY.binds(F:VY K C x qual st f fd)
  (h:∀(kV doc pm:Value) (an:B2) (dP ct:Value) (us:B0),us.length=ps.length->bindArgs (fnOf x qual (fZ st) (bJ st) (aC st) .none kV doc pm an dP ct) #[us,[]]=pure (ps.zip us)):Binds K fd ps []:=F.1.binds F.dn h
variable{A:Type}
abbrev Iz(X:Cx)(CL:BC)(b:Bx)(st:Stmt)(N:AT)(arg:A->Bn)(Pre:A->Prop)(res:A->T)(out:A->Bn):Prop:=
 ∀a,Pre a->cg X CL b (bJ st) (vo N (arg a)) {nx:=λδ=>res a=.sh .non/\Keeps δ (out a),rt:=λc δ=>c=res a/\Keeps δ (out a)}
section
variable{oc kV doc pm dP ct:Value}{od an:B2}{B6:CU}
def fn1(m:nsIn K mainGlobals x=some (some (.ref f)))(l:K.lookup f=some #[oc,od,.func (fnOf x x (fZ st) (bJ st) (aC st) .none kV doc pm an dP ct),B6])(c:codeIn K dP x=true)(k:keepIn K (.ref f)=true):Us K x st f (fnOf x x (fZ st) (bJ st) (aC st) .none kV doc pm an dP ct):=#[OL l c k,m,rfl]
def fn2(a:findIn K (.ref C) x=some (some (.ref f)))(i:isFn K (.ref f)=true)(l:K.lookup f=some #[oc,od,.func (fnOf x qual (fZ st) (bJ st) (aC st) .none kV doc pm an dP ct),B6])(c:codeIn K dP qual=true)(k:keepIn K (.ref f)=true):VY K C x qual st f (fnOf x qual (fZ st) (bJ st) (aC st) .none kV doc pm an dP ct):=#[OL l c k,a,i,rfl]
end
abbrev vv(x qual:Str)(st:Stmt)(ps:AT):Prop:=∀(kV doc pm:Value) (an:B2) (dP ct:Value),w1 ps.length λus=>bindArgs (W.fnOf x qual (fZ st) (bJ st) (aC st) Value.none kV doc pm an dP ct) {pos:=us}=pure (ps.zip us)
def Yx(P:Program)(w:World)(mg:BM)(base:Heap){K:Frag}{h:Heap}(CL:BC)(l:K.In h)(G:h.Ns mainGlobals mg){x:Str}{st:Stmt}{f:Addr}{fd:FuncData}{N ps:AT}(k:Nat){A:Type}(arg:A->BB)(Pre:A->Prop)(res:A->T)(F:Us K x st f fd)(S:dm N ps (aC st))
  (j:∀{dP:Value} {g:Around} {outer:Cn} {s:Shared} {H:Hp} {E:XK} {b:Bx} {a:A},dI k (g.deeper (envOfC x (aC st) s.heap.objs.size f dP))->CF (kT tG P w K mg base N x (aC st) f dP g outer s H E).Ul->Pre a →
   cg (kT tG P w K mg base N x (aC st) f dP g outer s H E).Ul CL b (bJ st) (entry N (arg a)) {nx:=λ_=>res a=.sh .non,rt:=λt _=>t=res a})
  (q:vv x x st ps:=by(repeat intro _);rfl) :
  ∃f fd i,eU P w K mg base tG (k+1) f fd i (HW K CL ps.length arg Pre res)/\mg x=some (.ref f)/\keepIn K (.ref f)=true/\Binds K fd i []:=#[f,fd,ps,uS F.1 S λ_ _ _ _ _ _ _ _ _ r p=>j r #[#[S.nd,rfl,.never],r.units] p,e7 l G F.m,F.kp,F.binds λa b c d e f=>vq (q a b c d e f)]
section
variable{X:Cx}{CL:BC}{b:Bx}{δ δ1:Ap}{e:Expr}{t:T}{D:cy}{pa pb pc:Pos}{i:Nat}{c f:Str}{cZ:CO}{gs:B1}{a:Addr}
def k8(m:Ej X.K (CL c))(n:bS X.K (CL c) f)(nm:Vn X i x)(h:pE X CL b e δ t δ1)(h1:δ1[i]? = some (some (.pin a (.ins c gs))))(l:gs.length<1000)(k:cg X CL b cZ (δ1.set i (some (.pin a (.ins c (xT f t gs))))) D)
  (j:swapsWith e (some (.Attribute (.Name x pa) f pb)) pc.line X.env=pure false:=by rfl):cg X CL b (.Assign [.Attribute (.Name x pa) f pb] e pc::cZ) δ D:=bG λH Z U ts vs E S M=>
 nQ (ZY (jS nm.hi nm.hv nm.hd nm.gX) bX j) (h H Z U ts vs _ S λv H' Z' z d=>by
  obtain⟨v0,e0,_⟩:=d.look h1;obtain⟨q,dx,ws,o,g,hlen,r⟩:=d.Lj (p:=[]) (f:=f) e0 h1 rfl rfl;exact#[_,e0,q,CL c,dx,ws,o,g,m,n,hlen▸l,M.nx _ U _ Z' z r k])
end
variable{X:Cx}
def Yz{W:XK}:Passes (CK X.prog X.w) (X.d0 (XE X W)) W:=λpins U H s ev s' I h=>by
 obtain⟨e,C,d,B,H',rfl,g,f,c,b,a⟩:=h;exact#[e,C,d,pins,U,H,H',s,B,_,rfl,I.c6,a,g,f,b,c]
noncomputable def T.bad:T:=.pin 0 (.sh .non)
section
variable{CL:BC}{b:Bx}{e o:Expr}{D:cy}{W:XK}{c:Str}{k n:Nat}{Pre:A->Prop}{exc:A->Ex}
def Kt(K:Frag)(CL:BC)(n:Nat)(arg:A->Bn)(Pre:A->Prop)(exc:A->Ex):Sp:=λvs H _ E=>
 ∃(W:Hp) (a:A) (gp:BY),aB W (Ab H gp)/\(∀c o,H c=some o->gF o=true->W c=some o)/\aP K CL H W (arg a) vs gp/\gp.Nodup/\(arg a).length=n/\Pre a/\gY CL W/\dS #[Ab H gp,W] E (CL (exc a).1) (exc a).2
theorem VZ{P:Program}{w:World}{mg:BM}{base:Heap}{N:AT}{arg:A->Bn}(F:NP K x qual st f fd)(S:dm N ps (aC st))
  (l:∀(dP:Value) (e:Around) (outer:Cn) (s:Shared) (H:Hp) (E:XK) (b:Bx) (a:A),dI k (e.deeper (envOfC qual (aC st) s.heap.objs.size f dP))->Pre a->dS b E (CL (exc a).1) (exc a).2 →
   cg ((kT (CK P w) P w K mg base N qual (aC st) f dP e outer s H E).d0 (XE (kT (CK P w) P w K mg base N qual (aC st) f dP e outer s H E) E)) CL b (bJ st) (vo N (arg a)) {nx:=λ_=>False,rt:=λ_ _=>False}) :
  eU P w K mg base (CK P w) (k+1) f fd ps (Kt K CL ps.length arg Pre exc):=by
 obtain⟨dV,oc,od,kV,doc,pm,an,dP,ct,B6,rfl,lk,gX⟩:=F.ex;refine Ov lk gX S (λvs H Q E h=>?_) λe outer s H vs Q E j h=>?_
 .obtain⟨W,a,gp,_,_,r,_,i,_⟩:=h;rw[<- r.length];exact i
 .obtain⟨W,a,gp,g,tp,r,nd,i,hp,tb,m⟩:=h;have wn:∀c∈gp,W c=none:=λc d=>by
   cases q:W c with
   | none=>rfl
   | some o=>exact absurd d (rK (g c o q)).1
  have h0:dU K CL H W (vo N (arg a)) (start N vs) gp:=by
   unfold vo L2.start;rw[<- r.length];exact CG _ r
  have h1:∀c o,W c=some o->W c=none->Ab H gp c=none:=λc o q z=>by grind
  have body:=l dP e outer s H E #[Ab H gp,W] a j hp m H W _ [] [] {nx:=λ_ _=>False,rt:=λ_ _=>False} #[#[gp,[],h0,.nil,by rw[e6];exact nd,λc d=>by rw[e6]at d;exact#[wn c d,Io d]],λc o q=>(rK q).2,.refl _,λc o q=>(rK (g c o q)).2,h1,tp,tb] #[λ_ _ _ _ _ _ z=>z.elim,λ_ _ _ _ _ _ _ _ z=>z.elim,λ_ _ _ _ _ _ z=>z.elim,λ_ _ _ _ _ _ z=>z.elim];refine#[ _,NQ,λpins s1 I=>?_];refine gr (body pins s1 (I.d0 _)) (λfl s' z=>?_) λev s' z=>Yp rfl rfl rfl rfl z;cases fl with
  | next=>obtain⟨_,_,_,q⟩:=z;exact q.elim
  | brk=>obtain⟨_,_,_,q⟩:=z;exact q.elim
  | cont=>obtain⟨_,_,_,q⟩:=z;exact q.elim
  | ret u=>obtain⟨_,_,_,_,_,q⟩:=z;exact q.elim
def Su{P:Program}{w:World}{mg:BM}{base:Heap}{N:AT}{arg:A->BB}(F:NP K x qual st f fd)(S:dm N ps (aC st))
  (j:∀(dP:Value) (c:Around) (outer:Cn) (s:Shared) (H:Hp) (E:XK) (b:Bx) (a:A),dI k (c.deeper (envOfC qual (aC st) s.heap.objs.size f dP))->Pre a->dS b E (CL (exc a).1) (exc a).2 →
   cg ((kT (CK P w) P w K mg base N qual (aC st) f dP c outer s H E).d0 (XE (kT (CK P w) P w K mg base N qual (aC st) f dP c outer s H E) E)) CL b (bJ st) (entry N (arg a)) {nx:=λ_=>False,rt:=λ_ _=>False}) :
  eU P w K mg base (CK P w) (k+1) f fd ps (ka K CL ps.length arg Pre exc):=
 (VZ (arg:=λa=>(arg a).map T.sh) F S λdP c outer s H E b a h hp d=>by
  unfold vo;rw[eI,d4];exact j dP c outer s H E b a h hp d).imp λvs H Q E z=>by
  obtain⟨W,a,g,tp,r,i,hp,tb,d⟩:=z;have e:Ab H []=H:=by funext;simp[Ab]
  exact#[W,a,[],e▸g,tp,aP.HE r,.nil,by simpa using i,hp,tb,e.symm▸d]
end
structure EL(X:Cx)(N G:AT):Prop extends CF X where
 ll:∀(i:Nat) {x:Str} (_:N[i]? = some x:=by rfl),Ln X i x
 gg:∀(i:Nat) {x:Str} (_:G[i]? = some x:=by rfl),Gl X x
noncomputable abbrev Fg(N:AT):Bool:=N.all λx=>!(x==("__debug__":Str)) && !(x==("__classdict__":Str))
variable{N G:AT}{tb:Co}
def uq{sc:Scope}(h:m2 sc tb=true){k:NameKind}(m:(x,k)∈tb):sc.names.lookup x=some k:=by
 obtain⟨i,hi⟩:=List.mem_iff_getElem?.1 m;exact Vf h i hi
def cE(u:CF X)(c:m2 X.env.scope tb=true)(a:X.N=N:=by rfl)(hf:∀x,X.fn x=true:=by exactλ_=>rfl)(hd:Fg N=true:=by decide +kernel)
  (b:∀x∈N,(x,.local)∈tb\/(x,.cell)∈tb:=by decide +kernel) (d:∀x∈G,(x,.globalImplicit)∈tb:=by decide +kernel):EL X N G:=
 #[u,λi x h=>by
  have:=fR.1 hd _ (fw h);simp only[et,jb]at this;obtain m|m:=b x (fw h)
  .exact HN (by rw[a];exact h) (uq c m) (hf x) this.1 this.2
  .exact HR (by rw[a];exact h) (uq c m) (hf x) this.1 this.2,λi x h=>uq c (d x (fw h))]
abbrev IA(K:Frag)(x:Str):Prop:=nsIn K mainGlobals x=some none
abbrev qd(K:Frag)(x:Str)(n:Int)(t:Tok):Prop:=nsIn K mainGlobals x=some (some (.int n t))
theorem Us.bA(F:Us K x st f fd)(ps:AT)(q:vv x x st ps:=by(repeat intro _);rfl):Binds K fd ps []:=F.binds λa b c d e f=>vq (q a b c d e f)
theorem VY.bA(F:VY K C x qual st f fd)(ps:AT)(q:vv x qual st ps:=by(repeat intro _);rfl):Binds K fd ps []:=F.binds λa b c d e f=>vq (q a b c d e f)
structure wz(X:Cx)(CL:BC)(x:Str)(k n:Nat){A:Type}(arg:A->BB)(Pre:A->Prop)(exc:A->Ex)(i:Int):Prop where
 ex:∃f fd ps,eU X.prog X.w X.K X.mg X.base (CK X.prog X.w) k f fd ps (ka X.K CL n arg Pre exc)/\X.mg x=some (.ref f)/\keepIn X.K (.ref f)=true/\∃u,Binds X.K fd ps [.int i u]
 room:dI k X.A
variable{CL:BC}{n:Nat}
theorem wz.pin{p:At}{k:Nat}{arg:A->BB}{Pre:A->Prop}{exc:A->Ex}{i:Int}(F:wz X CL x k n arg Pre exc i):wz (X.pinned p) CL x k n arg Pre exc i:=#[F.ex,F.room]
end L3
namespace L2
open PySem PySem.Spec PyProof.Rows
abbrev Cx.re(Y:Cx)(P:Program)(w:World)(K:Frag)(mg:BM)(base:Heap):Cx:={Y with prog:=P,w:=w,K:=K,mg:=mg,base:=base}
end L2
namespace L3
open PySem PySem.Spec PyProof.Rows L2
variable{A:Type}
noncomputable abbrev zi(S:A->BB×Prop×T):A->BB:=λa=>(S a).1
abbrev y3(S:A->BB×Prop×T):A->Prop:=λa=>(S a).2.1
noncomputable abbrev y0(S:A->BB×Prop×T):A->T:=λa=>(S a).2.2
abbrev DdS(X:Cx)(CL:BC)(b:Bx)(st:Stmt)(N:AT)(S:A->BB×Prop×T):Prop:=∀ ⦃a:A⦄,(S a).2.1->cg X CL b (bJ st) (entry N (S a).1) {nx:=λ_=>(S a).2.2=.sh .non,rt:=λc _=>c=(S a).2.2}
abbrev G1(X:Cx)(CL:BC)(x:Str)(k n:Nat)(S:A->BB×Prop×T):Prop:=Fc X CL x k n (λa=>(S a).1) (λa=>(S a).2.1) (λa=>(S a).2.2)
structure Sq(A:Type) where
 x:Str
 k:Nat
 m:Nat
 st:Stmt
 N:AT
 f:A->BB×Prop×T
abbrev k9(X:Cx)(CL:BC)(b:Bx)(S:Sq A):Prop:=DdS X CL b S.st S.N S.f
abbrev lQ(X:Cx)(CL:BC)(S:Sq A):Prop:=G1 X CL S.x S.k S.m S.f
abbrev Ly(st:Stmt):Co:=(aC st).names
def gN(st:Stmt):AT:=(Ly st).filterMap fun|(x,.globalImplicit)=>some x|_=>none
def cN(st:Stmt):AT:=(Ly st).filterMap fun|(x,.cell)=>some x|_=>none
def Sr{st:Stmt}:∀x∈gN st,(x,NameKind.globalImplicit)∈Ly st:=λx h=>by
 obtain⟨⟨y,k⟩,m,e⟩:=nH.1 h;cases k<;>cases e;exact m
def So{st:Stmt}:∀x∈cN st,(x,NameKind.cell)∈Ly st:=λx h=>by
 obtain⟨⟨y,k⟩,m,e⟩:=nH.1 h;cases k<;>cases e;exact m
section
variable{X:Cx}{CL:BC}{b:Bx}{δ δ1:Ap}{e:Expr}{x:Str}{pos:Pos}{k n i:Nat}{P:T->Prop}{D:cy}{cZ:CO}
theorem uR.to{a:T->Prop}(h:uR X CL b e δ P δ1)(k:∀t,P t->a t):uR X CL b e δ a δ1:=λH Z U ts vs Q S kk=>h H Z U ts vs Q S λt v H' Z' p=>kk t v H' Z' (k t p)
def Fi{pos':Pos}(g:Gx X)(n:Ln X i x)(h:uR X CL b e δ P δ1)(k:∀t,P t->cg X CL b cZ (δ1.set i (some t)) D)(c:i<δ1.length:=by exact eE rfl)(a:swapsWith e (some (.Name x pos')) pos.line X.env=pure false:=by rfl) :
  cg X CL b (.Assign [.Name x pos'] e pos::cZ) δ D:=bG (um i h k c g.nd n.hi n.loc a n.hf)
end
def y4(st:Stmt)(N P:AT):Bool:=
 (aC st).kind == .function && !(aC st).isCoroutine && !(aC st).isGenerator&&decide N.Nodup&&N.take P.length==P&&P.all (λx=>(Ly st).lookup x==some .local || (Ly st).lookup x==some .cell)&&(Ly st).all (λy=>y.2 != .free)&&m2 (aC st) (Ly st)&&Fg N&&N.all λx=>decide ((x,NameKind.local)∈Ly st) || decide ((x,NameKind.cell)∈Ly st)
structure u7(st:Stmt)(N P:AT):Prop where
 s:dm N P (aC st)
 c:m2 (aC st) (Ly st)=true
 d:Fg N=true
 l:∀x∈N,(x,.local)∈Ly st\/(x,.cell)∈Ly st
def Fj{st:Stmt}{N P:AT}(h:y4 st N P=true):u7 st N P:=by
 unfold y4 at h;simp only[et,jb,fR,lr,hI,fo,bne_iff_ne]at h;obtain⟨⟨⟨⟨⟨⟨⟨⟨⟨h1,k⟩,j⟩,i⟩,g⟩,f⟩,e⟩,d⟩,c⟩,b⟩:=h;exact#[#[h1,k,j,i,g,f,e],d,List.all_eq_true.2 λx a=>by simpa using c x a,b]
end L3
namespace L2
open PySem PySem.Spec PyProof.Rows
def jV(e C:Addr)(d:B2)(h:Heap):Prop:=∃t:Value,h.get? e=some {cls:=.ref C,dict:=d,data:=.fields (List.toArray [t,.none,.none,.none,.bool false,.none])}
theorem jV.ok{P:Program}{w:World}{H:Hp}{e C:Addr}{d:B2}{h:Heap}(x:jV e C d h):eS P w H h e (.ext (jV e C d)):=by
 obtain⟨t,q⟩:=id x;exact#[x,#[_,q],λh1 a ⟨t,q⟩ k=>#[t,k _ q]]
def CT:B0->Bool
 | .ref _::r=>CT r
 | l=>l==kZ
structure vz(K:Frag)(C:Addr)(f:Str):Prop where
 sa:findIn K (.ref C) "__setattr__" = some (some (.builtin "object.__setattr__"))
 ov:((clsIn K C).any λcd=>cd.hasDict&&CT cd.mro)=true
 tk:findIn K (.ref C) f=some none
section
open PySem.W Builtin Builtin.ObjectAttr
variable{prog:Program}{w:World}{A:Around}{E:BA}{s:Shared}{K:Frag}{e C:Addr}{f:Str}{v:Value}{ox:Obj}
theorem CV(self:Value):∀{l:B0},CT l=true->refuseLoop self "__setattr__" l=pure ()
 | .ref c::r,q=>by
  rw[refuseLoop_ref];exact CV self q
 | [],q=>rfl
 | .type n::r,q=>hI.1 q▸F.store_ValueError.passes self
 | .int a b::r,q=>by cases q
 | .str a b :: r, q => by cases q
 | .none::r,q=>by cases q
theorem yM:∀{l:B0},CT l=true->l.contains (.type "object")=true
 | .ref c::r,q=>by rw[List.contains_cons,yM (l:=r) q,Bool.or_true]
 | [],q=>by cases q
 | .type n::r,q=>by
  rw[hI.1 q];decide
 | .int a b::r,q=>by cases q
 | .str a b :: r, q => by cases q
 | .none::r,q=>by cases q
theorem Lz{tk:Tok}{R:Result->Shared->Prop}(X:K.In s.heap)(S:vz K C f)(d:s.heap.get? e=some ox)(k:ox.cls=.ref C)(hd:ox.dict=none)(hf:∃vs,ox.data=.fields vs)
  (q:∀h' tk,h'.get? e=some {ox with dict:=some s.heap.objs.size}->h'.Ns1 s.heap.objs.size (λy=>if y=f then some v else none)->(∀b o,b≠e->s.heap.get? b=some o->h'.get? b=some o)->R (.ok (.ret .none)) {s with heap:=h',toks:=tk}) :
  codeAny (model prog w) A (.call (.builtin "object.__setattr__") #[[.ref e,.str f tk,v],[]]) R s:=by
 obtain⟨vs,hf⟩:=hf;have I:InstAt s.heap e ox C none:=#[d,k,by unfold notCls;rw[hf],by rw[hd];trivial];have c:=F.store_object;obtain⟨cd,gX,g⟩:=any_some S.ov;rw[et]at g;have l:cd.mro.contains (.type "object")=true:=yM g.2;have ne:cd.mro.isEmpty=false:=by grind
 have sub:Looks (model prog w) s.heap (isInstance (.ref e) (.type "object")) true:=I.type.andThen (looks_mroIn X (by unfold mroIn;rw[gX,Option.bind_some,cq (by rw[ne];decide),l]));refine o9 c.slot.plain c.entry (@check_slot (model prog w) _ _ s "object.__setattr__" "object" "__setattr__" (.ref e) [.str f tk,v] [] _ c.kind c.split sub (c.args (.ref e) (.str f tk) v) ?_);have hm:Looks (model prog w) s.heap (mroOf (.ref C)) cd.mro:=(looks_clsIn X gX).andThen .now;rw[osa_eq,refuse_eq];refine d5 (d5 (I.type.here (d5 (hm.here ?_))));rw[CV _ g.2];refine eR (d5 (I.type.here (d5 ((looks_findIn X S.tk).here (d5 (eR ?_))))));obtain⟨oc,od,r,B6⟩:=ox;dsimp only at k hd hf;subst k hd hf;refine d5 (eR (d5 (d5 (wpAny_loadPart d (d5 ((looks_clsIn X gX).here ?_))))));rw[g.1];have lt:=e4 d;have p:e≠s.heap.objs.size:=gh lt;rw[cq WA];have a:=ff {cls:=.type "dict",data:=.dict #[]} d;refine d5 (wpAny_alloc' (d5 (wpAny_update' a (eR ?_))));have gd:((s.heap.push {cls:=.type "dict",data:=.dict #[]}).update e λo=>{cls:=o.cls,dict:=some s.heap.objs.size,data:=o.data,slots:=o.slots}).Ns s.heap.objs.size λ_=>none:=
  #[_,#[],_,(Heap.get?_update_ne _ _ _ _ p.symm).trans (Heap.get?_push_at rfl rfl),rfl,(λy t=>absurd t WE),λ_=>rfl]
 unfold storeInDict newKeyGuard;refine d5 (eR (d5 (wpAny_nsSet1 (Heap.Ns1.of_empty gd) λh' n m=>?_)));obtain⟨D,x,B,h,i,j⟩:=n.count (PySem.Within.cons f v PySem.Within.nil);refine d5 (wpAny_lookBehind h (i▸pastItsLine_dict (er j (by rw[gv,List.length_nil,fA];lia))) (eR (q h' _ ?_ n λb o u z=>?_)))
 .exact(m.2 e p).trans (Heap.get?_update_self _ a rfl)
 .exact(m.2 b (gh (e4 z))).trans ((Heap.get?_update_ne _ _ _ _ u).trans (ff _ z))
theorem V0{Q:Dx}(X:K.In s.heap)(S:vz K C f)(a:s.heap.get? e=some ox)(c:ox.cls=.ref C)(hd:ox.dict=none)(hf:∃vs,ox.data=.fields vs)
  (q:∀h' tk,h'.get? e=some {ox with dict:=some s.heap.objs.size}->h'.Ns1 s.heap.objs.size (λy=>if y=f then some v else none)->(∀b o,b≠e->s.heap.get? b=some o->h'.get? b=some o)->Q () {s with heap:=h',toks:=tk}) :
  wpAny (model prog w) A (setAttr (.ref e) f v) Q E s:=
 set_plain X (od:=none) #[a,c,by obtain⟨vs,hf⟩:=hf;unfold notCls;rw[hf],by simp_all ] S.sa (Lz X S a c hd hf q)
end
variable{X:Cx}{pins:At}{U:St}{H:Hp}{s:Shared}{e C:Addr}{f:Str}{y:V}{u:Value}
theorem LC{A:Around}{E:BA}{Q:Dx}(I:Inv X pins U H s)(he:H e=some (.ext (jV e C none)))(S:vz X.K C f)(r:RelV y u)
  (h:∀dx s',H dx=none->dx≠e->Inv X pins U (upd (upd H e (.ext (jV e C (some dx)))) dx (.xd [(f,y)])) s'->Q () s'):wpAny (model X.prog X.w) A (setAttr (.ref e) f u) Q E s:=by
 obtain⟨⟨t,j⟩,_⟩:=I.bO e _ he;have L:=I.bO.fresh (ea _);have lt:=e4 j;have d:∀{b:Addr},H b=none->b≠e:=λ{b} n z=>by lia
 have F:∀{b:Addr} {o:Obj},s.heap.get? b=some o->b≠s.heap.objs.size:=λ{b o} z=>gh (e4 z);have D:∀{b:Addr} {o:HO},H b=some o->b≠s.heap.objs.size:=λ{b o} z y=>by simp_all
 refine V0 I.j7 S j rfl rfl #[_,rfl] λh' tk i x a=>h _ _ L (Nat.ne_of_gt lt) ?_;have out:∀{b:Addr},b≠e->b≠s.heap.objs.size->upd (upd H e (.ext (jV e C (some s.heap.objs.size)))) _ (.xd [(f,y)]) b=H b:=λ{b} p l=>by rw[az l,az p]
 have keep:∀{b:Addr} {o:HO},H b=some o->o ≠ .ext (jV e C none)->upd _ _ _ b=some o:=λ{b o} z n=>by
  rw[out Wl (D z)];exact z
 refine I.step (ch:=[]) (λb J=>absurd J eA) (λb o _ _ _ z n=>a b o (d n) z) (λb o _ _ _ z n=>#[o.slots,a b o (d n) z]) (λb o _ z n=>(out (d n) (F z)).trans n) (λb o _ z=>?_) (λb xs z=>keep z WE) (λb o w z=>keep z WE) (λb ps z=>#[#[],by exact keep z WE])
  (λm G=>G.at' λo z=>a _ o (d I.free) z) (λb o z=>?_) I.bare
 .by_cases w:b=e
  .exact w▸#[_,i]
  .exact#[o,a b o w z]
 .by_cases w:b=s.heap.objs.size
  .subst w;rw[aJ]at z;cases z;refine#[_,x,λg=>?_];by_cases k:g=f
   .rw[di k,k];simp;exact r
   .rw[cq k];simp only[hu,jl.2 k,List.lookup_nil];trivial
  .rw[az w]at z;by_cases v:b=e
   .subst v;rw[aJ]at z;cases z;exact jV.ok #[t,i]
   .rw[az v]at z;refine(I.bO b o z).oK (λc B M k=>a c B ?_ k) (λc k=>keep k WE) (λc xs k=>keep k WE) λc q k=>keep k WE;lia
def Qo(C:Addr)(f:Str):Sp:=λvs H Q _=>∃(e:Addr) (y:V),vs=[.ref e,y]/\H e=some (.ext (jV e C none))/\∀dx,H dx=none->dx≠e->Q .non (upd (upd H e (.ext (jV e C (some dx)))) dx (.xd [(f,y)]))
def V1{P:Program}{w:World}{K:Frag}{mg:BM}{base:Heap}{qual n:Str}{st:Stmt}{d:Addr}{fd:FuncData}{k:Nat}{c p2 b a:Pos}(F:NP K n qual st d fd)(S:dm ["self",f] ["self",f] (aC st))
  (m:bJ st=[.Assign [.Attribute (.Name "self" c) f p2] (.Name f b) a]) (T:vz K C f) (v0:N5 (aC st) "self") (v1:N5 (aC st) f) (d1:AD f) (d2:AE f)
  (l:∀env,swapsWith (.Name f b) (some (.Attribute (.Name "self" c) f p2)) a.line env=pure false):eU P w K mg base (CK P w) (k+1) d fd ["self",f] (Qo C f):=by
 obtain⟨dV,oc,od,kV,doc,pm,an,dP,ct,B6,rfl,lk,gX⟩:=F.ex;refine Ov lk gX S (λvs H Q E h=>?_) λx outer s H vs Q E t h=>#[_,L3.NQ,?_]
 .obtain⟨e,y,rfl,_⟩:=h;rfl
 .obtain⟨e,y,rfl,he,q⟩:=h;rw[m];refine L3.KJ (pL L3.q1 L3.NQ) λpins s1 I=>?_;refine plainObj_wpAny_Assign_Attribute (cJ (jS (i:=1) rfl v1 d1 d2 pins s1 _ H (λv H1=>v=y/\H1=H) I #[y,rfl,rfl,rfl]) λu s2 zz=>?_) (l _);obtain⟨_,_,r,g,rfl,rfl⟩:=zz;refine cJ (jS (i:=0) rfl v0 (rfl) (rfl) pins s2 _ _ (λv H1=>v=.ref e/\H1=_) r #[ _,rfl,rfl,rfl]) λov s3 zz=>?_;obtain⟨_,_,p,j,rfl,rfl⟩:=zz;obtain rfl:ov=Value.ref e:=j;exact LC p he T g λdx s4 n ne o=>#[_,_,o,L3.KJ Hx (q dx n ne)]
end L2
namespace L2
open PySem PySem.Spec PyProof.Rows
open Sem (wp)
structure An(K:Frag)(C fI:Addr):Prop where
 ex:∃nm q N bs bm hdct sn sub ab col dd k0 k1 k2 k3 k5,K.lookup C=some (excClassObj nm q C N bs bm hdct sn sub ab col dd k0 k1 k2 k3 k5 "ValueError.__new__")/\nsOkIn K N=true/\nsIn K N "__init__" = some (some (.ref fI))/\tailIn K kZ bm=true
 fn:isFn K (.ref fI)=true
section
variable{prog:Program}{w:World}{A:Around}{E:BA}{h:Heap}{g:Array GenState}{d:Drawn}{t:Nat}{os:OsState}{nm q:Str}{C N fI:Addr}{bs bm sub:B0}{hdct ab:Bool}{sn:AT}{col:Option Bool}{dd:B2}{k0 k1 k2 k3 k5:D2}
def exc_type{i:BM}{rest:B0}{f:Obj}{Q:Fin->Shared->Prop}(T:OwnTail h kZ bm)(c:h.get? C=some (excClassObj nm q C N bs bm hdct sn sub ab col dd k0 k1 k2 k3 k5 "ValueError.__new__"))(m:h.Ns N i)(hi:i "__init__" = some (.ref fI))(l:h.get? fI=some f)(n:f.cls=.type "function")(j:rest.length<=sizeLine)
  (k:∀h' e,Heap.MadeExcOf h h' e (.ref C) rest->wpAny (model prog w) A (call (.ref fI) (.ref e::rest)) (λr s'=>r=.none/\Q (.done (.ret (.ref e))) s') E #[h',g,d,t,os]) :
  wpAny (model prog w) A (Builtin.«type.__call__» #[.ref C::rest,[]]) Q E #[h,g,d,t,os]:=by
 have F:=wd
 repeat (first|with_reducible refine pf c ?_|with_reducible refine wpAny_madeBy_exc c ?_|wp_step)
 refine codeAny_call_builtin_code (sk _ F.quiet) (wpAny_check_new_subT F T c (codeAny_exc_new_subT F T c ?_ j));have keeps:∀b o,h.get? b=some o->((h.push {cls:=.type "tuple",data:=.seq rest.toArray}).push {cls:=.ref C,data:=.fields (List.toArray [.ref h.objs.size,.none,.none,.none,.bool false,.none])}).get? b=some o:=λb o z=>ff _ (ff _ z);have he:((h.push {cls:=.type "tuple",data:=.seq rest.toArray}).push {cls:=.ref C,data:=.fields (List.toArray [.ref h.objs.size,.none,.none,.none,.bool false,.none])}).get? (h.objs.size+1)=some {cls:=.ref C,data:=.fields (List.toArray [.ref h.objs.size,.none,.none,.none,.bool false,.none])}:=by heap_get
 have ct:(Value.ref C::bm).contains (.ref C)=true:=by simp
 have a:=keeps _ _ c;show wpAny _ _ _ _ _ _;unfold isInstance
 repeat (first|with_reducible refine pf he ?_|(with_reducible refine wpAny_isSubtype_exc a ?_;rw[ct])|wp_step)
 show wpAny _ _ (typeLookup (.ref C) _) _ _ _;refine wpAny_typeLookup_tail a (m.keeps keeps) (T.keeps keeps) F.mroIs F.init.lookup ?_;rw[hi];refine jN (d5 ?_);unfold bindSpecial;refine d5 (wpAny_typeOf (T:="function") #[_,keeps _ _ l,n] ?_);rw[di WA];refine eR (d5 (gr (k _ (h.objs.size+1) #[keeps,tj (h7 _),h.objs.size,he,tj (ea _),ff _ (Heap.get?_push_at rfl rfl)]) (λr s' z=>?_) λ_ _ x=>x));obtain⟨rfl,z⟩:=z
 wp_walk
 exact z
def Qp{c:BM}{rest:B0}{b:Obj}{Q:BA}(T:OwnTail h kZ bm)(a:h.get? C=some (excClassObj nm q C N bs bm hdct sn sub ab col dd k0 k1 k2 k3 k5 "ValueError.__new__"))(j:h.Ns N c)(hi:c "__init__" = some (.ref fI))(i:h.get? fI=some b)(l:b.cls=.type "function")(f:rest.length<=sizeLine)
  (k:∀h' e,Heap.MadeExcOf h h' e (.ref C) rest->wpAny (model prog w) (A.under (.builtin "type.__call__" #[.ref C::rest,[]])) (call (.ref fI) (.ref e::rest)) (λr s'=>r=.none/\Q (.ref e) s') E #[h',g,d,t,os]) :
  wpAny (model prog w) A (call (.ref C) rest) Q E #[h,g,d,t,os]:=by
 have f1:=tc_lookup;have f2:=tc_bind (.ref C);have m:(#[h,g,d,t,os]:Shared).TypeIs (.ref C) "type":=#[_,a,rfl];refine i4 (codeAny_of_tree ?_)
 repeat (any_goals (first|assumption|with_reducible refine pf a ?_|wp_step))
 exact#[rfl,codeAny_call_builtin_at (sk _ Wp) entry_typeCall (wpAny_check_type_call_sub a (exc_type T a j hi i l f k))]
end
variable{h:Heap}{e:Addr}
theorem lY.hide{P:Program}{w:World}{H:Hp}{l:BY}{φ:Heap->Prop}(x:lY P w H h)(he:H e=some (.ext φ))(f:∀b∈l,b=e\/H b=none):lY P w (λb=>if b=e then none else H b) (hideAll h l):=λb o q=>by
 dsimp at q;have ne:b≠e:=λz=>by lia
 rw[cq ne]at q;have a:∀{c:Addr} {u:HO},H c=some u->u ≠ .ext φ->(if c=e then none else H c)=some u:=λ{c u} z n=>by
  rw[cq Wl];exact z
 refine(x b o q).oK (λc u d z=>k4 _ z λm=>?_) (λc z=>a z WE) (λc xs z=>a z WE) λc y z=>a z WE;obtain rfl|n:=f c m
 .obtain rfl|d:=d
  .exact ne rfl
  lia
 simp_all
section
variable{M:Model}{A:Around}{E:BA}{s:Shared}{env:Env}{nm q:Str}{C N:Addr}{bs bm sub:B0}{hdct ab:Bool}{sn:AT}{col:Option Bool}{dd:B2}{k0 k1 k2 k3 k5:D2}
def LD{x:Sem Value}{Q:Flow->Shared->Prop}(i:bm.contains (.type "BaseException")=true)(c:A.handled=none)
  (h:wpAny M A x (λv a=>∃e d t,v=.ref e/\a.heap.get? C=some (excClassObj nm q C N bs bm hdct sn sub ab col dd k0 k1 k2 k3 k5 "ValueError.__new__")/\a.heap.get? e=some {cls:=.ref C,dict:=d,data:=.fields (List.toArray [t,.none,.none,.none,.bool false,.none])}/\E (.ref e) a) E s):wpAny M A (raiseStmt env (some x) none) Q E s:=by
 have g:(Value.ref C::bm).contains (.type "BaseException")=true:=‹_›;refine d5 (gr h (λv a z=>?_) WE);obtain⟨e,d,t,rfl,b,he,f⟩:=z
 repeat (first|with_reducible refine pf he ?_|with_reducible refine pf b ?_|(with_reducible refine wpAny_isSubtype_exc b ?_;rw[g])|wp_step)
 exact wpAny_raiseNew_none c f
end
variable{X:Cx}{pins:At}{U:St}{H:Hp}{s:Shared}{C:Addr}
theorem Inv.newExc{h':Heap}{r:B0}(I:Inv X pins U H s)(hm:Heap.MadeExcOf s.heap h' e (.ref C) r):H e=none/\Inv X pins U (upd H e (.ext (jV e C none))) {s with heap:=h'}:=by
 obtain⟨t,he,_⟩:=hm.there;have d:H e=none:=by
  cases q:H e with
  | none=>rfl
  | some o=>
   obtain⟨u,z⟩:=(I.bO e o q).got;rw[hm.new]at z;cases z
 have nb:∀{b:Addr} {o:Obj},s.heap.get? b=some o->b≠e:=λ{b o} z y=>by simp_all [hm.new]
 have a:∀{b:Addr} {o:HO},H b=some o->upd H e (.ext (jV e C none)) b=some o:=λ{b o} z=>by
  rw[az Wl];exact z
 refine#[d,I.step (λb f=>absurd f eA) (λb o _ _ _ z _=>hm.keeps b o z) (λb o _ _ _ z _=>#[ _,hm.keeps b o z]) (λb o _ z n=>(az (nb z)).trans n) (λb o _ z=>#[o,hm.keeps b o z]) (λb xs z=>a z) (λb o w z=>a z) (λb ps z=>#[#[],a z ]) (λm d=>d.at' λo z=>hm.keeps _ o z) (λb o z=>?_) I.bare];by_cases w:b=e
 .subst w;rw[aJ]at z;cases z;exact jV.ok #[_,he]
 .rw[az w]at z;exact(I.bO b o z).oK (λc u _ y=>hm.keeps c u y) (λc y=>a y) (λc xs y=>a y) λc y k=>a k
theorem V2{K:Frag}{N:Addr}{n:Str}{v:Value}(X:K.In h)(e:nsIn K N n=some (some v)):h.nsMap N n=some v:=by
 unfold nsIn at e;split at e
 .rename_i c d es a sl q;have:=X _ _ q;split at e
  .unfold Heap.nsMap;unfold nsFind findBy;simp_all
  lia
 lia
theorem Fl{W:XK}{x f:Str}{fI:Addr}{fd:FuncData}{k:Nat}{np gU pos:Pos}{arg:Expr}{D:Ends}(Qf:X.calm=true)(hg:Gl X x)(hm:X.mg x=some (.ref C))(O:An X.K C fI)(hk:keepIn X.K (.ref C)=true)(F:eU X.prog X.w X.K X.mg X.base (CK X.prog X.w) k fI fd ["self",f] (Qo C f))(g:Binds X.K fd ["self",f] [])(rm:dI (k+1) X.A)
  (L:L3.xP (X.d0 (XE X W)) [arg] U H λus H1=>∃y,us=[y]/\∀dx,H1 dx=none->W (.ref C) (some dx) (upd H1 dx (.xd [(f,y)])))
  (hd:AD x:=by decide) (he:AC X arg []:=by rfl) :
  L3.OY (X.d0 (XE X W)) (.Raise (some (.Call (.Name x np) [arg] [] gU)) none pos) D U H:=λpins s I=>by
 obtain⟨nm,q,N,bs,bm,hdct,sn,sub,ab,col,dd,k0,k1,k2,k3,k5,T,o2,o3,S⟩:=O.ex;obtain⟨E,o5,o6⟩:∃E,X.K.lookup fI=some E/\E.cls=.type "function":=by
  have:=hI.1 O.fn;unfold typeIn at this;exact hW.1 this
 have tl:=tail_of_in I.j7 S;have eV:=tl.hasType wd.hasBase;rw[arm_exec_Raise];refine d5 (o4 (LD (C:=C) (nm:=nm) (q:=q) (N:=N) (bs:=bs) (k0:=k0) (k1:=k1) (k2:=k2) (k3:=k3) (k5:=k5) (dd:=dd) (col:=col) (ab:=ab) (sub:=sub) (sn:=sn) (hdct:=hdct) eV (I.c6.ok.hd Qf) ?_));refine d5 (gr (ky (gE I hg hm ?_ hd)) (λv s3 z=>d5 (o4 (eR z))) λ_ _ z=>z);refine sv (h₀:=X.base) I.ok.mod.Uj hk (cJ (L gU pins s I) λus s1 zz=>?_) he;obtain⟨_,H1,c,P,y,rfl,hw⟩:=zz;have l:=c.c6;refine#[c.j7,?_];have B:=tail_of_in c.j7 S;obtain⟨g1,gn,gd,gt,go⟩:=s1;refine Qp B (c.j7 _ _ T) (.of_isNs (isNs_of_in c.j7 o2)) (V2 c.j7 o3) (c.j7 _ _ o5) o6 (by have:=P.length;rw[fA];simp at this ⊢;lia) λh2 e d=>?_;obtain⟨nE,p⟩:=l.newExc d;have J:=rm.make C us [];have i:Vals [V.ref e,y] (Value.ref e::us):=.cons rfl P;have sp:Qo C f [V.ref e,y] (upd H1 e (.ext (jV e C none))) (λv Z=>v=.non/\∃dx,upd H1 e (.ext (jV e C none)) dx=none/\dx≠e/\Z=upd (upd (upd H1 e (.ext (jV e C none))) e (.ext (jV e C (some dx)))) dx (.xd [(f,y)])) (λ_ _ _=>False):=#[e,y,rfl,aJ,λdx n ne=>#[rfl,dx,n,ne,rfl]];refine i4 (lp (F.run _ X.stack _ _ #[Value.ref e::us,[]] _ _ _ _ J (p.UL.make C us []) (by have:=g {heap:=h2,gens:=gn,drawn:=gd,toks:=gt,os:=go} (Value.ref e::us) p.j7 (by rw[e6];exact i.length.symm);rw[e6]at this;exact this) i sp) λrr s3 j=>?_);cases rr with
 | error ev=>
  obtain⟨_,_,_,_,_,_,_,_,_,_,q⟩:=j;exact q.elim
 | ok fl=>
  cases fl with
  | ret u=>
   obtain⟨v,Z,a1,a2,a3,a4,a5,rfl,dx,nd,ne,rfl⟩:=j;cases a5;refine#[rfl,?_];have M:=p.X7 (s':=s3) a1 a3 a4 a2 λb z=>absurd z eA;obtain⟨⟨t,R⟩,_⟩:=a4 e _ ((az ne.symm).trans aJ);have nb:∀{b:Addr} {o:Obj},g1.get? b=some o->b≠e:=λ{b o} z w=>by rw[w,d.new]at z;cases z
   have Y:H1 dx=none:=(az ne).symm.trans nd;have nD:∀{b:Addr} {o:Obj},g1.get? b=some o->b≠dx:=λ{b o} z w=>by
    subst w;have:=a3.free b o (d.keeps _ _ z) nd eA;rw[aJ]at this;cases this
   have eH:(λb=>if b=e then none else upd (upd (upd H1 e (.ext (jV e C none))) e (.ext (jV e C (some dx)))) dx (.xd [(f,y)]) b)=upd H1 dx (.xd [(f,y)]):=funext λb=>by
    by_cases z:b=e
    .rw[di z,z,az ne.symm];exact nE.symm
    .rw[cq z];by_cases r:b=dx
     .rw[r,aJ,aJ]
     .rw[az r,az r,az z,az z]
   have hl:∀b∈e::lK X.stack,b=e\/upd (upd (upd H1 e (.ext (jV e C none))) e (.ext (jV e C (some dx)))) dx (.xd [(f,y)]) b=none:=λb g=>(d3.1 g).imp id λz=>M.pJ b z;have bO:=lY.hide a4 ((az ne.symm).trans aJ) hl;rw[eH]at bO;have h:∀{b:Addr} {o:Obj},s3.heap.get? b=some o->b≠e->b∉lK X.stack->(hideAll s3.heap (e::lK X.stack)).get? b=some o:=λ{b o} z n m=>k4 _ z λw=>(d3.1 w).elim n m;have fr:nF X.stack g1 s3.heap:=λb g o z=>a3.slot b o (d.keeps _ _ z) (p.pJ b g) g eA;have G:∀{b:Addr} {o:HO},H1 b=some o->upd H1 dx (.xd [(f,y)]) b=some o:=λ{b o} z=>by
    rw[az λw=>by rw[w,Y]at z;cases z];exact z
   refine#[e,some dx,t,rfl,M.j7 _ _ T,R,e,C,some dx,pins,U,H1,upd H1 dx (.xd [(f,y)]),_,hideAll s3.heap (e::lK X.stack),none,rfl,l,hw dx Y,a1,a2,#[bO,λb o z n m=>h (a3.keep b o (d.keeps _ _ z) ((az (nb z)).trans n) m eA) (nb z) m,λb o z n=>(az (nD z)).trans n,λb o z m=>?_,λb xs z=>G z,λb o u z=>G z,λb ps z=>#[#[],by rw[Array.append_empty];exact G z],fr],#[λb o z=>kz _ z,tm _ d6,funFrames_hide M.stack λenv he a L=>ee _ (nH.2 #[env,he,L]),_,_,R,#[rfl,rfl],rfl,rfl]];obtain⟨o',w⟩:=a3.there b o (d.keeps _ _ z) eA;exact#[o',h w (nb z) m]
  | next=>exact False.elim j
  | brk=>exact False.elim j
  | cont=>exact False.elim j
theorem gI.sub{B a h':Heap}{l:Cn}{d:B2}{fl:D2}(x:gI B l e C d fl h)(sub:∀b o,a.get? b=some o->B.get? b=some o)(st:a.StaysIn h')(k:∀b o,b∈lK l\/(∃vs,o.data=.fields vs)->h.get? b=some o->h'.get? b=some o):gI a l e C d fl h':=by
 have j:∀{b:Addr},B.get? b=none->a.get? b=none:=λ{b} n=>by
  cases q:a.get? b with
  | none=>rfl
  | some o=>rw[sub b o q]at n;cases n
 have i:∀{l:Cn},(∀b o,b∈lK l->h.get? b=some o->h'.get? b=some o)->h.FunFrames B l->h'.FunFrames a l:=λ{l}=>by
  induction l with
  | nil=>intro _ _;trivial
  | cons env r t=>
   rintro kk ⟨w,⟨L,o,hf,g,v,hd⟩,u⟩;refine#[w,#[L,o,hf,j g,kk L o (by unfold lK;rw[i2,hf];exact d6) v,hd],t (λb o c=>kk b o ?_) u];unfold lK at c ⊢;rw[i2,hf];exact ee _ c
 obtain⟨k1,k2,k3,p,vs,he,y,hd,r⟩:=x;refine#[st,j k2,i (λb o c=>k b o (.inl c)) k3,p,vs,k _ _ (.inr #[vs,hd]) he,y,hd,?_];cases fl with
 | none=>exact r
 | some f=>
  obtain⟨T,s,ts,h1,g,ne,z,m,A⟩:=r;exact#[T,s,ts,h1,j g,ne,k _ _ (.inr #[ts,m]) z,m,A]
theorem gI.pass{α:Type}{M:Model}{A:Around}{E:BA}{B:Heap}{l:Cn}{d:B2}{f:Value}{m:String}{env:Env}{Q:α->Shared->Prop}(x:gI B l e C d (some f) s.heap)(q:∀h' g,gI B l e C d (some g) h'->s.heap.UpToSlots h'->E (.ref e) {s with heap:=h'}):wpAny M A (PySem.passOn m (.ref e) env:Sem α) Q E s:=by
 obtain⟨_,_,_,b,vs,he,h,hd,T,c,ts,h1,r⟩:=id x;refine d5 (nc he hd h1 ?_);exact d5 (x.vp _ λh' a u=>wpAny_throw (q h' _ a u))
theorem Lay.hide{P:Program}{w:World}{l:Cn}{h0:Heap}{H':Hp}{B h':Heap}{c:Addr}(y:Lay P w l H h0 H' B h)(f:H' c=none)(q:c∉lK l)(k:∀b o,b∈lK l->h.get? b=some o->∃sl,h'.get? b=some {o with slots:=sl}):Lay P w l H (hideAll h0 [c]) H' (hideAll B [c]) h':=by
 have out:∀{g:Heap} {b:Addr} {o:Obj},(hideAll g [c]).get? b=some o->g.get? b=some o/\b≠c:=λ{g b o} z=>#[kz _ z,λw=>by
  rw[w,tm _ (eC.2 rfl)]at z;cases z]
 have d:∀{g:Heap} {b:Addr} {o:Obj},g.get? b=some o->b≠c->(hideAll g [c]).get? b=some o:=λ{g b o} z n=>k4 _ z λw=>n (eC.1 w);refine#[λb o z=>(y.bO b o z).oK (λa u e j=>d j λw=>?_) WE λ_ _ z=>z,λb o z n m=>d (y.keep b o (out z).1 n m) (out z).2,λb o z n=>y.free b o (out z).1 n,λb o z m=>?_,y.mh,y.dO,y.mj,λb i o z=>?_]
 .obtain rfl|e:=e
  .rw[w,f]at z;cases z
  .rw[w,f]at e;cases e
 .obtain⟨o',w⟩:=y.there b o (out z).1 m;exact#[o',d w (out z).2]
 .obtain⟨sl,w⟩:=y.fr b i o (out z).1;obtain⟨s2,p⟩:=k b _ i w;exact#[s2,p]
end L2
namespace L3
open PySem PySem.Spec PyProof.Rows L2
variable{X:Cx}{pins:At}{U:L2.St}{H:Hp}{s s':Shared}{scope:Scope}{Nc:AT}{fp:BY}{W:XK}{ev:Value}
theorem CW{use:Option (Value->Sem Unit)}{Q:BA}{acc:Value}(r:X.stack=X.env::X.outer)(S:X.env.frame=some X.env.locals)(I:L2.Inv X pins U H s)(D:∀b∈fp,mq X pins H b)(z:XE (aR X scope Nc s.heap.objs.size s H fp) W ev s') :
  notedBy (model X.prog X.w) X.A (compEnvC scope (fC X.env scope.names []) s.heap.objs.size X.env) (λx L=>compPost (model X.prog X.w) X.A (XE X W) use Q acc s.heap.objs.size (.error x) L) ev s':=by
 obtain⟨e,C,d,T,U',P,O,s1,B,fl,rfl,J,hw,F,G,hm,R⟩:=z;have h:=hm;have c:gI B X.stack e C d fl _:=R;have M:X.A.frames=some (X.env::X.outer):=by rw[I.ok.frames,r]
 obtain⟨m,i,_⟩:=J.loc;have i:s1.heap.Ns s.heap.objs.size m:=i;have n:=J.free;have a:s.heap.objs.size∉lK _:=λq=>by
  obtain⟨_,o,z,_⟩:=I.stack.mem q;exact absurd (e4 z) WE
 obtain⟨E,_,_,f,_⟩:=id i;have l:=h.free _ E f n;have f0:=c;rw[r]at c;refine c.note M S rfl λh1 f1 u1=>?_;rw[<- r]at f1;have p:=h.up f0 u1;refine#[m,i.at' λo z=>f1.1 _ o (p.keep _ o z n a),λv k Z _=>?_];have f2:gI (hideAll B [s.heap.objs.size]) X.stack e C d (some (rawInt X.env.locals)) v:=by
  refine f1.sub (λb o z=>kz _ z) (λb o z=>?_) λb o q z=>(k.2 b λw=>?_).trans z
  .have ne:b≠s.heap.objs.size:=λw=>by
    rw[w,tm _ (eC.2 rfl)]at z;cases z
   exact(k.2 b ne).trans (f1.1 b o (kz _ z))
  .subst w;obtain q|⟨vs,q⟩:=q
   .exact a q
   .have:=f1.1 _ _ (p.keep _ _ f n a);lia
 refine gI.pass (s:={s' with heap:=v}) f2 λY g K y=>?_;have N:=yE I D J (h'':=hideAll _ [s.heap.objs.size]) #[hideAll_size _ _,λb j=>?_]
 .refine#[e,C,d,pins,U,P,O,_,_,_,rfl,N,hw,F,G,p.hide l a λb o j z=>?_,K];have u:=(k.2 b λw=>a (w▸j)).trans z;obtain⟨_,V,t,nf⟩:=f2.2.2.1.mem j;rw[u]at t;cases t;exact y b o u nf
 .exact Heap.hide_ne _ j
end L3
namespace L2
open PySem PySem.Spec PyProof.Rows
open PySem PySem.Calls PyProof.Rows Builtin Builtin.ObjectAttr PySem.W PySem.Builtin.ObjectAttr in
def V3{prog:Program}{w:World}{A:Around}{E:BA}{s:Shared}{K:Frag}{x D dx:Addr}{f:Str}{v:Value}{expr:Bool}{mA:BM}{Q:BA}(O:jj K D)(nf:findIn K (.ref D) f=some none)(X:K.In s.heap)(i:excAt x D (some dx) s.heap)(j:s.heap.Ns1 dx mA)(hv:mA f=some v)(l:handedIn v=true)(h:Q v {s with toks:=s.toks+1}) :
  wpAny (model prog w) A (getAttr (.ref x) f expr) Q E s:=by
 obtain⟨hp,gn,o,tk,os⟩:=s;obtain⟨ox,e,⟨d,c⟩,vs,b⟩:=i;obtain⟨od,g,k⟩:=yq j;have I:InstAt hp x ox D (some od):=#[e,d,by unfold notCls;rw[b],by rw[c];exact g];have ty:=I.type (M:=model prog w);have f1:=looks_findIn (M:=model prog w) X O.ga;have f2:=looks_findIn (M:=model prog w) X O.gn;have n:=looks_mroIn (M:=model prog w) X O.mb;have fd:=looks_find (M:=model prog w) X I (findObj_own O.hd nf rfl (by rw[k,hv]));have m:=tf.ga.bind (.ref x);unfold getAttr getAttrBy;refine d5 (wpAny_mkText (jN (d5 (ty.at (d5 (f1.at ?_))))));dsimp only;rw[cq (λq=>by rw[et]at q;exact absurd q.2 Wp)];unfold getAttrByItsOwn hookBefore;rw[di (show onTheHeap (.ref D)=true from rfl)];refine d5 (f2.at (d5 (wpAny_attempt (jN ?_))));unfold callGetattribute;rw[cq (λq=>by rw[et]at q;exact absurd q.2 WA)];unfold boundAndCalled;rw[m];refine d5 (eR ?_);refine i4 (o9 tf.ga.plain F.entry_bexc_ga (CM ty n ?_));unfold Builtin.«object.__getattribute__»
 iterate 10 lk
 refine d5 (eR (a:=f) (d5 (ty.at (d5 (fd.at ?_)))));refine eR ?_;show wpAny _ _ (handedOut v) _ _ _;rw[handedOut_of l];exact eR h
end L2
namespace L3
open PySem PySem.Spec PyProof.Rows L2
section
variable{X:Cx}{CL:BC}{b:Bx}{δ δ1 δc:Ap}{scope:Scope}{xs Nc:AT}{ix:Cc}{elt iter tg e:Expr}{ifs:CC}{pos:Pos}{ds:BB}{p:L3.D->Bool}{parts:L3.D->Option BB}{W:XK}{q:L3.D->T->Prop}{G:Nat->Bn->Prop}{t:T}{D:cy}{gd:L3.D->Bx->Prop}
abbrev Qs(X:Cx)(W:XK)(scope:Scope)(Nc:AT)(C:Addr)(s:Shared)(H:Hp)(fp:BY):Cx:=(aR X scope Nc C s H fp).d0 (XE (aR X scope Nc C s H fp) W)
abbrev Lets(W:XK)(b a:Bx):Prop:=∀C p,dS b W C p->dS a W C p
theorem lets{H Z W1 f Z3:Hp}{U:L2.St}{ts:Bn}{vs:BS}(S:bz X.K CL b H Z δ U ts vs)(g:aB Z W1)(e:aB H f)(h:aB W1 Z3)(nw:∀a o,Z3 a=some o->W1 a=none->H a=none):Lets W b #[f,Z3]:=λC p i H' Z' d a1 a2 a3 a4 a5 a6=>by
 obtain⟨j,k,c⟩:=S.grown (e.trans a1) g (h.trans a2) a3 (λa o q z=>by
  cases u:Z3 a with
  | none=>exact e.off (a4 a o q u)
  | some w=>exact nw a w u z) a5
 exact i H' j d c.bh c.zz c.zh c.new c.tp (a6.j6 a3 c.tp)
def Qt(n:X.stack=X.env::X.outer)(P:X.env.frame=some X.env.locals)(g0:G 0 [])(gs:qa ds p q G)(sc:iP (X.d0 (XE X W)) scope xs Nc ix)(y:X.calm=true)(h:NS (X.d0 (XE X W)) CL b tg iter δ ds δ1)(A:(δc=pU δ1 ix/\∀l,G ds.length l->T.c7 l=true)\/δc=pV δ1 ix)(inner:iY (X.d0 (XE X W)) CL scope Nc xs.length tg parts ifs elt δc ds p q (λY=>XE Y W) gd)(O:∀a,Lets W b a->∀i d l,ds[i]? = some d->G i l->gd d a)(hlen:ds.length<=sizeLine)
  (u:AN X iter:=by intro _;rfl):uR (X.d0 (XE X W)) CL b (.ListComp elt [#[tg,iter,ifs,0]] scope pos) δ (λt=>∃l,t=.lst l/\G ds.length l) δ1:=λH Z U ts vs Q S k pins s I=>by
 obtain⟨R,pi,hw⟩:=h;apply ub rfl u (jI sc I) sc.kind sc.names;refine cJ (pi pins s U H _ I (hw H Z U ts vs _ S λJ H1 C=>C)) λv s1 h1=>cJ h1 λr s2 zz=>?_;obtain⟨it,fp,tn,J,H1,e,M,B,st,hf,C⟩:=zz;subst e;refine nB g0 gs sc y C M B st hf A inner hlen (λD C' s' H' Z' l gl m io V ch ci f o F=>?_) (λZ1 W1 E c i d l e1 e2 N Z3 x g zh nw tp=>O _ (lets E c x g nw) i d l e1 e2) λD s3 N ev s' L j z=>CW n P L.c6 j z;obtain⟨m,w⟩:=m;exact#[m,w,λh' K=>#[.ref D,H',ci h' K,rfl,k _ _ H' Z' #[l,rfl,gl] f o F]]
def V4{y:Str}{py f:Pos}(i:Nat)(u:X.stack=X.env::X.outer)(BO:X.env.frame=some X.env.locals)(g0:G 0 [])(gs:qa ds p q G)(sc:iP (X.d0 (XE X W)) scope xs Nc ix)(L:X.calm=true)(h:NS (X.d0 (XE X W)) CL b tg iter δ ds δ1)(O:(δc=pU δ1 ix/\∀l,G ds.length l->T.c7 l=true)\/δc=pV δ1 ix)(inner:iY (X.d0 (XE X W)) CL scope Nc xs.length tg parts ifs elt δc ds p q (λY=>XE Y W) gd)(Cw:∀c,Lets W b c->∀i d l,ds[i]? = some d->G i l->gd d c)(hlen:ds.length<=sizeLine)
  (k:∀l,G ds.length l->D.nx (δ1.set i (some (.lst l)))) (F:i<δ1.length) (P:X.N.Nodup) (hi:X.N[i]? = some y) (x:Loc X.env.scope y) (a:AM X y)
  (o:swapsWith (.ListComp elt [#[tg,iter,ifs,0]] scope pos) (some (.Name y py)) f.line X.env=pure true)
  (A:AN X iter:=by intro _;rfl):O2 (X.d0 (XE X W)) CL b (.Assign [.Name y py] (.ListComp elt [#[tg,iter,ifs,0]] scope pos) f) δ D:=λH Z U ts vs E S M pins s I=>by
 obtain⟨wi,pi,hw⟩:=h;rw[exec_Assign_Name_used _ _ _ _ o];refine d5 (o4 (d5 ?_));refine d5 (gr (ub rfl A (jI (X:=X.d0 (XE X W)) sc I) sc.kind sc.names ?_) (λ_ s' B=>eR (eR B)) λ_ _ e=>e);refine cJ (pi pins s U H _ I (hw H Z U ts vs _ S λJ H1 C=>C)) λv s1 h1=>cJ h1 λw s2 zz=>?_;obtain⟨it,fp,tn,J,H1,e,I1,R,st,hf,C⟩:=zz;subst e;refine nB g0 gs sc L C I1 R st hf O inner hlen (λD' C' s' H' Z' l gl m io t ch ci j k' S'=>?_) (λZ1 W1 V g i d l e1 e2 H3 Z3 K n zh nw tp=>Cw _ (lets V g K n nw) i d l e1 e2) λD s3 H3 ev s' I3 r z=>CW u BO I3.c6 r z;exact Ik P hi x a m io t ch ci (M.nx _ _ _ Z' j (S'.set F) (k l gl))
end
def Ut(t:T):Prop:=∀(K:Frag) (CL:BC) (H Z:Hp) (v:V) (fp:BY),¬ aZ K CL H Z t v fp
noncomputable def jW:Ut T.bad:=λK CL H Z v fp r=>by
 obtain⟨rfl,b⟩:=r.EK;have a:=b.KG;cases a.2
theorem YB{K:Frag}{CL:BC}{H Z:Hp}:∀{tl:Bn} {vs:BS} {fp:BY},(∃t∈tl,Ut t)->¬ aP K CL H Z tl vs fp
 | [],_,_,⟨t,h,_⟩,_=>by cases h
 | t::tl,_,_,⟨u,h,n⟩,r=>by
  cases r with
  | cons b a=>
   obtain rfl|h:=d3.1 h
   .exact n _ _ _ _ _ _ b
   .exact YB #[u,h,n] a
def Qu{tl:Bn}(h:∃t∈tl,Ut t):Ut (.tup tl):=λK CL H Z v fp r=>by
 obtain⟨_,_,_,_,a⟩:=r.pQ;exact YB h a
section
variable{X:Cx}{CL:BC}{b:Bx}{δ δ1 δ2:Ap}{e:Expr}{es:CC}{t:T}{P:T->Prop}{D:cy}{cZ:CO}{pos pp:Pos}{x c f:Str}{i k n:Nat}{W:XK}{A:Type}{arg:A->BB}{Pre:A->Prop}{res:A->T}{exc:A->Ex}
theorem bz.no{K:Frag}{H Z:Hp}{U:L2.St}{ts:Bn}{vs:BS}(S:bz K CL b H Z δ U (t::ts) vs)(h:Ut t):False:=by
 obtain⟨fp,gp,_,r,_⟩:=S.rep;cases r with
 | cons r _=>exact h _ _ _ _ _ _ r
def Sl(h:bw X CL b e δ t δ1)(n:Ut t):uR X CL b e δ P δ2:=λH Z U ts vs Q S k=>h H Z U ts vs Q S λv H1 Z1 c k1 a=>(a.no n).elim
theorem uR.of(h:bw X CL b e δ t δ1)(p:P t):uR X CL b e δ P δ1:=λH Z U ts vs Q S k=>h H Z U ts vs Q S λv H' Z'=>k t v H' Z' p
def Sk(h:bw X CL b e δ t δ1)(n:Ut t):cg X CL b (.Return (some e) pos::cZ) δ D:=bG λH Z U ts vs E S M=>nQ (Ez bX) (h H Z U ts vs _ S λv H1 Z1 c k1 a=>(a.no n).elim)
def lg(h:bw X CL b e δ T.bad δ)(a:AC X e es:=by exact aT rfl):Ek X CL b (e::es) δ [T.bad] δ:=λH Z U ts vs Q S k=>xQ (bB bX zN a) (h H Z U ts vs _ S λv H1 Z1 d k1 c=>(c.no jW).elim)
def mK{tl:Bn}{j:Nat}{pt:Pos}(h:Ek X CL b es δ tl δ1)(hm:T.bad∈tl)(a:tl.length<=sizeLine:=by exact g7 rfl):cg X CL b (.Return (some (.Tuple es j pt)) pos::cZ) δ D:=Sk (uQ h a) (Qu #[_,hm,jW])
def V5(h:bw X CL b e δ t δ1)(n:Ut t)(a:swapsWith e none pos.line X.env=pure false:=by rfl):cg X CL b (.Expr e pos::cZ) δ D:=bG λH Z U ts vs E S M=>nQ (pM bX a) (h H Z U ts vs _ S λv H1 Z1 d k1 c=>(c.no n).elim)
def vA{pos':Pos}(g:Gx X)(l:Ln X i x)(h:bw X CL b e δ t δ1)(n:Ut t)(a:swapsWith e (some (.Name x pos')) pos.line X.env=pure false:=by rfl):cg X CL b (.Assign [.Name x pos'] e pos::cZ) δ D:=
 bG λH Z U ts vs E S M=>nQ (Oa g.nd l.hi l.loc bX a l.hf) (h H Z U ts vs _ S λv H1 Z1 d k1 c=>(c.no n).elim)
theorem Vn.wx{E:BA}(h:Vn X i x):Vn (X.d0 E) i x:=#[h.hi,h.hv,h.hd,h.gX]
theorem Ln.wx{E:BA}(h:Ln X i x):Ln (X.d0 E) i x:=#[h.1.wx,h.loc,h.hf]
structure NZ(X:Cx)(CL:BC)(x:Str)(k n:Nat){A:Type}(arg:A->BB)(Pre:A->Prop)(ok:A->Bool)(res:A->T)(exc:A->Ex):Prop where
 give:Fc X CL x k n arg (λa=>Pre a/\ok a=true) res
 bad:qr X CL x k n arg (λa=>Pre a/\ok a=false) exc
variable{ok:A->Bool}
theorem NZ.cx{scope:Scope}{Nc:AT}{C:Addr}{s:Shared}{H:Hp}{fp:BY}{E:BA}(F:NZ X CL x k n arg Pre ok res exc):NZ ((aR X scope Nc C s H fp).d0 E) CL x k n arg Pre ok res exc:=#[#[F.give.ex,F.give.room],#[F.bad.ex,F.bad.room]]
def cB(a:A)(F:NZ (X.d0 (XE X W)) CL x k n arg Pre ok res exc)(p:Gl X x)(h:BL (X.d0 (XE X W)) CL b (e::es) δ (arg a) δ1)(hp:Pre a/\ok a=false)(u:dS b W (CL (exc a).1) (exc a).2)(l:(arg a).length=n:=by rfl)
  (j:AD x:=by decide) (he:AC X e es:=by exact aT rfl) (hpl:AL X pos es:=by rfl) :
  bw (X.d0 (XE X W)) CL b (.Call (.Name x pp) (e::es) [] pos) δ t δ2:=λH Z U ts vs Q S kk=>by
 obtain⟨f,fd,ps,w,hm,m,s⟩:=F.bad.ex;refine bH (zE w F.bad.room p hm m s .nil Yz zN j he hpl) (h H Z U ts vs _ S λus H1 Z1 z k1 g r=>?_);simp;refine#[H1,a,.refl _,λ_ _ q _=>q,r,l,hp,g.KL,λH' Z' d o ww i nw tp vk=>?_];obtain⟨v,y,c⟩:=g.grown o g.zh ww i nw tp;exact u H' v d c.bh c.zz c.zh c.new c.tp (vk.j6 i c.tp)
def tN(a:A)(F:NZ (X.d0 (XE X W)) CL x k n arg Pre ok res exc)(f:Gl X x)(h:BL (X.d0 (XE X W)) CL b (e::es) δ (arg a) δ1)(hp:Pre a)(i:ok a=false->dS b W (CL (exc a).1) (exc a).2)(g:ok a=true->(res a).clean=true)(d:(arg a).length=n:=by rfl)
  (c:AD x:=by decide) (he:AC X e es:=by exact aT rfl) (hpl:AL X pos es:=by rfl) :
  uR (X.d0 (XE X W)) CL b (.Call (.Name x pp) (e::es) [] pos) δ (λt=>ok a=true/\t=res a) δ1:=by
 cases q:ok a with
 | true=>exact uR.of (c_ a F.give f h #[hp,q] (g q) d c he hpl) #[rfl,rfl]
 | false=>exact Sl (δ1:=δ) (cB a F f h #[hp,q] (i q) d c he hpl) jW
structure qo(X:Cx)(CL:BC)(c f:Str)(k:Nat):Prop where
 ex:∃fI fd,An X.K (CL c) fI/\keepIn X.K (.ref (CL c))=true/\eU X.prog X.w X.K X.mg X.base (CK X.prog X.w) k fI fd ["self",f] (Qo (CL c) f)/\Binds X.K fd ["self",f] []/\X.mg c=some (.ref (CL c))
 room:dI (k+1) X.A
def cU{m:Int}{np gU:Pos}(s:X.calm=true)(F:qo (X.d0 (XE X W)) CL c f k)(p:Gl X c)(h:BL (X.d0 (XE X W)) CL b [e] δ [.int m] δ1)(u:dS b W (CL c) (some [(f,.int m)]))(hd:AD c:=by decide)(he:AC X e []:=by rfl) :
  cg (X.d0 (XE X W)) CL b (.Raise (some (.Call (.Name c np) [e] [] gU)) none pos::cZ) δ D:=bG λH Z U ts vs E S M=>by
 obtain⟨fI,fd,O,l,v,t,hm⟩:=F.ex;refine Fl s p hm O l v t F.room (h H Z U ts vs _ S λus H1 Z1 x k1 d r=>?_) hd he;cases r with
 | cons j g=>
  cases g;cases j;refine#[_,rfl,λdx n=>u _ _ _ (d.bh.trans (c9 n)) (d.zz.trans (c9 (d.zh.off n))) (qc d.zh) (λa o q z=>?_) (λa o q i=>?_) #[dx,rfl,aJ]]
  .by_cases w:a=dx
   .exact w▸d.bh.off n
   .rw[az w]at q;exact d.new a o q z
  .by_cases w:a=dx
   .subst w;rw[aJ]at q ⊢;exact q
   .rw[az w]at q ⊢;exact d.tp a o q i
def V6{a C:Addr}{dE:B2}{fs:Bz}{m:Int}(n:b.Z a=some (.ext (excAt a C dE)))(hp:NW b.Z dE (some fs))(hf:fs.lookup f=some (.int m))(O:jj X.K C)(nf:bS X.K C f)(h:bN X CL b e δ (.val (.ref a)) δ1)(t:AS X e f:=by rfl):bw X CL b (.Attribute e f pos) δ (.sh (.int m)) δ1:=λH Z U ts vs Q S k pins s I=>by
 obtain⟨dx,rfl,o⟩:=hp;refine HK t (cJ (h H Z U ts vs (λv H1=>v=.ref a/\∃Z1,aB Z Z1/\aB H H1/\bz X.K CL b H1 Z1 δ1 U ts vs) S (λv H1 Z1 g k1 c r=>#[by cases r;rfl,Z1,g,k1,c]) pins s I) λu s1 zz=>?_);obtain⟨_,H1,d,j,rfl,Z1,g,k1,c⟩:=zz;obtain rfl:u=Value.ref a:=j;obtain⟨l,_⟩:=d.bO a _ (c.zh _ _ (c.zz _ _ n));obtain⟨mA,q,p⟩:=d.bO dx _ (c.zh _ _ (c.zz _ _ o));obtain⟨v,hv,i⟩:=oJ.some_of (hf▸p f);exact V3 O nf d.j7 l q hv (yr i) #[ _,H1,d.tok _,i,k _ _ Z1 g k1 (c.push (.int _))]
end
section
variable{X:Cx}{CL:BC}{b:Bx}{δ:Ap}{D:cy}{cZ:CO}
theorem cg.calm(h:cg (X.d0 (XE X λ_ _ _=>False)) CL b cZ δ D):cg X.Ul CL b cZ δ D:=λH Z U ts vs E S M pins s I=>
 gr (h H Z U ts vs E S M pins s (I.c6.d0 _)) (λf s' z=>by
  cases f with
  | next=>obtain⟨U',H',a,q⟩:=z;exact#[U',H',a.c6.d0 _,q]
  | brk=>obtain⟨U',H',a,q⟩:=z;exact#[U',H',a.c6.d0 _,q]
  | cont=>obtain⟨U',H',a,q⟩:=z;exact#[U',H',a.c6.d0 _,q]
  | ret u=>obtain⟨v,U',H',a,r,q⟩:=z;exact#[v,U',H',a.c6.d0 _,r,q]) λev s' z=>by
  obtain⟨_,_,_,_,_,_,_,_,_,_,_,_,q,_⟩:=z;exact q.elim
end
abbrev B3(ok:Bool)(t:T):cy:={nx:=λ_=>ok=true/\t=.sh .non,rt:=λu _=>ok=true/\u=t}
variable{K:Frag}{x:Str}{st:Stmt}{A:Type}
theorem NX(P:Program)(w:World)(mg:BM)(base:Heap){h:Heap}(CL:BC)(n:K.In h)(G:h.Ns mainGlobals mg){f:Addr}{fd:FuncData}{N ps:AT}(k:Nat)(arg:A->BB)(Pre:A->Prop)(ok:A->Bool)(res:A->T)(exc:A->Ex)(F:Us K x st f fd)(S:dm N ps (aC st))
  (l:∀(CX:Ku) {dP:Value} {g:Around} {outer:Cn} {s:Shared} {H:Hp} {E:XK} {b:Bx} {W:XK} {a:A},dI k (g.deeper (envOfC x (aC st) s.heap.objs.size f dP))->CF ((kT CX P w K mg base N x (aC st) f dP g outer s H E).d0 (XE (kT CX P w K mg base N x (aC st) f dP g outer s H E) W))->Pre a->(ok a=false->dS b W (CL (exc a).1) (exc a).2) →
   cg ((kT CX P w K mg base N x (aC st) f dP g outer s H E).d0 (XE (kT CX P w K mg base N x (aC st) f dP g outer s H E) W)) CL b (bJ st) (entry N (arg a)) (B3 (ok a) (res a)))
  (q:vv x x st ps:=by(repeat intro _);rfl) :
  (∃f fd j,eU P w K mg base tG (k+1) f fd j (HW K CL ps.length arg (λa=>Pre a/\ok a=true) res)/\mg x=some (.ref f)/\keepIn K (.ref f)=true/\Binds K fd j [])/\∃f fd j,eU P w K mg base (CK P w) (k+1) f fd j (ka K CL ps.length arg (λa=>Pre a/\ok a=false) exc)/\mg x=some (.ref f)/\keepIn K (.ref f)=true/\Binds K fd j []:=
 have bd:=F.binds λa b c d e f=>vq (q a b c d e f)
 #[#[f,fd,ps,uS F.1 S λdP g outer s H E b a _ i hp=>cg.calm (cg.to (l tG i #[#[S.nd,rfl,Iq (W:=λ_ _ _=>False) rfl rfl],i.units] hp.1 λz=>by simp_all) (λ_ z=>z.2) (λ_ _ z=>z.2) WE WE),e7 n G F.m,F.kp,bd],
  f,fd,ps,Su F.1 S λdP g outer s H E b a i hp o=>cg.to (l _ i #[#[S.nd,rfl,Iq rfl rfl],i.units] hp.1 λ_=>o) (λ_ z=>by simp_all) (λ_ _ z=>by simp_all) WE WE,e7 n G F.m,F.kp,bd]
abbrev DdE(X:Cx)(W:XK)(CL:BC)(b:Bx)(st:Stmt)(N:AT)(arg:A->BB)(Pre:A->Prop)(ok:A->Bool)(res:A->T)(exc:A->Ex):Prop:=∀ ⦃a:A⦄,Pre a->(ok a=false->dS b W (CL (exc a).1) (exc a).2)->cg (X.d0 (XE X W)) CL b (bJ st) (entry N (arg a)) (B3 (ok a) (res a))
variable{C:Addr}
noncomputable def abq{nm q:Str}{N:Addr}{bs bm:B0}{hdct:Bool}{sn:AT}{sub:B0}{ab:Bool}{col:Option Bool}{dd:B2}{k0 k1 k2 k3 k5:D2}(b:K.lookup C=some (excClassObj nm q C N bs bm hdct sn sub ab col dd k0 k1 k2 k3 k5 "ValueError.__new__"))(en:nsOkIn K N=true)(c:nsIn K N "__init__" = some none)(a:tailIn K kZ bm=true):k6 K C:=
 #[#[_,_,_,_,_,_,_,_,_,_,_,_,_,_,_,_,b,en,c,a]]
structure XJ(K:Frag)(c fl qual:Str)(C:Addr)(st:Stmt):Prop where
 ex:∃fI fd,An K C fI/\keepIn K (.ref C)=true/\VY K C "__init__" qual st fI fd/\vz K C fl/\En K c C
variable{c:Str}
def xj{fl qual nm q:Str}{N fI:Addr}{fd:FuncData}{bs bm:B0}{hdct:Bool}{sn:AT}{sub:B0}{ab:Bool}{col:Option Bool}{dd:B2}{k0 k1 k2 k3 k5:D2}(e:K.lookup C=some (excClassObj nm q C N bs bm hdct sn sub ab col dd k0 k1 k2 k3 k5 "ValueError.__new__"))(en:nsOkIn K N=true)(f:nsIn K N "__init__" = some (some (.ref fI)))(d:tailIn K kZ bm=true)
  (b:keepIn K (.ref C)=true) (a:nsIn K mainGlobals c=some (some (.ref C))) (F:VY K C "__init__" qual st fI fd) (sa:findIn K (.ref C) "__setattr__" = some (some (.builtin "object.__setattr__"))) (ov:((clsIn K C).any λcd=>cd.hasDict&&CT cd.mro)=true) (tk:findIn K (.ref C) fl=some none):XJ K c fl qual C st:=
 #[fI,fd,#[#[_,_,_,_,_,_,_,_,_,_,_,_,_,_,_,_,e,en,f,d],F.i],b,F,#[sa,ov,tk],a]
theorem XJ.tk{fl qual:Str}(J:XJ K c fl qual C st):bS K C fl:=by
 obtain⟨_,_,_,_,_,T,_⟩:=J.ex;exact T.tk
def YC(P:Program)(w:World)(mg:BM)(base:Heap){h:Heap}(o:K.In h)(G:h.Ns mainGlobals mg){qual fl:Str}{j p2 i g:Pos}(J:XJ K c fl qual C st)
  (S:dm ["self",fl] ["self",fl] (aC st):=by exact qb) (m:bJ st=[.Assign [.Attribute (.Name "self" j) fl p2] (.Name fl i) g]:=by rfl) (v0:N5 (aC st) "self":=by exact .inl rfl) (v1:N5 (aC st) fl:=by exact .inl rfl) (d1:AD fl:=by decide) (d2:AE fl:=by decide)
  (k:∀env,swapsWith (.Name fl i) (some (.Attribute (.Name "self" j) fl p2)) g.line env=pure false:=by intro _;rfl) (n:vv "__init__" qual st ["self",fl]:=by(repeat intro _);rfl) :
  ∃fI fd,An K C fI/\keepIn K (.ref C)=true/\eU P w K mg base (CK P w) 1 fI fd ["self",fl] (Qo C fl)/\Binds K fd ["self",fl] []/\mg c=some (.ref C):=by
 obtain⟨fI,fd,O,l,F,T,a⟩:=J.ex;exact#[fI,fd,O,l,V1 F.1 S m T v0 v1 d1 d2 k,F.binds λa b c d e f=>vq (n a b c d e f),e7 o G a]
structure LJ(K:Frag)(c:Str)(C M:Addr)(ns:DA):Prop where
 ask:jj K C
 xm:exmOne K (.ref C) (.ref M)=some true
 ve:kitOne K (.ref C) (.type "ValueError")=some true
 is:∀p∈ns,kitOne K (.ref C) (.ref p.2)=some (decide (p.1=c))
section
variable{n:Str}{M D:Addr}{ns r:DA}{b:Bool}
def abr:∀p∈([]:DA),LJ K p.1 p.2 M ns:=λ_ h=>absurd h eA
def V7(a:jj K C)(m:exmOne K (.ref C) (.ref M)=some true)(v:kitOne K (.ref C) (.type "ValueError")=some true)(i:∀p∈ns,kitOne K (.ref C) (.ref p.2)=some (decide (p.1=c)))(t:∀p∈r,LJ K p.1 p.2 M ns):∀p∈(c,C)::r,LJ K p.1 p.2 M ns:=List.forall_mem_cons.2 #[#[a,m,v,i],t]
def abt:∀p∈([]:DA),kitOne K (.ref C) (.ref p.2)=some (decide (p.1=c)):=λ_ h=>absurd h eA
def V8(h:kitOne K (.ref C) (.ref D)=some b)(e:decide (n=c)=b)(t:∀p∈r,kitOne K (.ref C) (.ref p.2)=some (decide (p.1=c))):∀p∈(n,D)::r,kitOne K (.ref C) (.ref p.2)=some (decide (p.1=c)):=List.forall_mem_cons.2 #[h.trans (congrArg some e.symm),t]
end
section
variable{X:Cx}{CL:BC}{b:Bx}{δ δ1 δc:Ap}{scope:Scope}{y:Str}{Nc:AT}{ix:Cc}{elt iter:Expr}{ifs:CC}{px pos pos' pc:Pos}{ds:BB}{p ok:L3.D->Bool}{g:L3.D->T}{W:XK}{D:cy}{cZ:CO}{i:Nat}
abbrev Fo(X:Cx)(W:XK)(CL:BC)(b:Bx)(scope:Scope)(Nc:AT)(ifs:CC)(elt:Expr)(δc:Ap)(ds:BB)(p ok:L3.D->Bool)(g:L3.D->T):Prop:=
 ∀C s0 c f0 a (i:Nat) d,ds[i]? = some d->(∀u∈ds.take i,p u=true->ok u=true)->Lets W b a->n4 (Qs (X.d0 (XE X W)) W scope Nc C s0 c f0) CL a ifs (some (.sh d)::δc) (p d)/\(p d=true->uR (Qs (X.d0 (XE X W)) W scope Nc C s0 c f0) CL a elt (some (.sh d)::δc) (λt=>ok d=true/\t=g d) (some (.sh d)::δc))
abbrev va(ds:BB)(p ok:L3.D->Bool)(g:L3.D->T)(i:Nat)(l:Bn):Prop:=(∀d∈ds.take i,p d=true->ok d=true)/\l=((ds.take i).filter p).map g
theorem y5:qa ds p (λd t=>ok d=true/\t=g d) (va ds p ok g):=by
 rintro i d _ hd ⟨o,rfl⟩;have e:ds.take (i+1)=ds.take i++[d]:=by rw[hZ,hd];rfl
 have mem:(p d=true->ok d=true)->∀u∈ds.take _,p u=true->ok u=true:=λh u a z=>by
  rw[e]at a;obtain q|q:=eg.1 a
  .exact o u q z
  .rw[eC.1 q]at z ⊢;exact h z
 refine#[λn=>#[mem Wl,?_],λn t z=>#[mem λ_=>z.1,?_]]
 .rw[e,hF,fx,hP (by simp[n]),List.filter_nil,List.map_nil,e6]
 .rw[e,hF,fx,lh n,z.2];rfl
def zg(sc:gu (X.d0 (XE X W)) scope y Nc ix)(h:Fo X W CL b scope Nc ifs elt δc ds p ok g)(h1:AD y)(f:AE y):iY (X.d0 (XE X W)) CL scope Nc [y].length (.Name y px) part1 ifs elt δc ds p (λd t=>ok d=true/\t=g d) (λY=>XE Y W) (λd a=>∃i:Nat,ds[i]? = some d/\(∀u∈ds.take i,p u=true->ok u=true)/\Lets W b a):=λC s0 c f0 a=>
 #[vd sc.nd (Ln.wx (PF (by rw[sc.hd];rfl) sc.own h1 f)),λd _ hd=>by
  obtain⟨i,e,o,lt⟩:=hd;exact#[[d],rfl,rfl,(h C s0 c f0 a i d e o lt).1,(h C s0 c f0 a i d e o lt).2]]
def ur(h:va ds p ok g ds.length l):(∀d∈ds,p d=true->ok d=true)/\l=(ds.filter p).map g:=by
 rwa [va,hS]at h
def yN(h:∀d∈ds,(g d).clean=true)(l:Bn)(e:va ds p ok g ds.length l):T.c7 l=true:=E6 h l e.2
def vC(c:X.stack=X.env::X.outer)(m:X.env.frame=some X.env.locals)(sc:gu (X.d0 (XE X W)) scope y Nc ix)(j:X.calm=true)(h:NR (X.d0 (XE X W)) CL b (.Name y px) iter δ ds δ1)(a:(δc=pU δ1 ix/\∀d∈ds,(g d).clean=true)\/δc=pV δ1 ix)(inner:Fo X W CL b scope Nc ifs elt δc ds p ok g)(hlen:ds.length<=sizeLine)
  (f:AN X iter:=by intro _;rfl) (h1:AD y:=by decide) (k:AE y:=by decide):uR (X.d0 (XE X W)) CL b (.ListComp elt [#[.Name y px,iter,ifs,0]] scope pos) δ (λt=>(∀d∈ds,p d=true->ok d=true)/\t=.lst ((ds.filter p).map g)) δ1:=
 (Qt c m #[WE,rfl] y5 (VB sc) j (Cv h) (a.imp (λa=>#[a.1,yN a.2]) id) (zg sc inner h1 k) (λn lt i d l e o=>#[i,e,o.1,lt]) hlen f).to λt ⟨l,e,o⟩=>#[(ur o).1,by rw[e,(ur o).2]]
def qf(f:Gx (X.d0 (XE X W)))(n:Ln (X.d0 (XE X W)) i x)(j:X.stack=X.env::X.outer)(s:X.env.frame=some X.env.locals)(sc:gu (X.d0 (XE X W)) scope y Nc ix)(h:NR (X.d0 (XE X W)) CL b (.Name y px) iter δ ds δ1)(c:(δc=pU δ1 ix/\∀d∈ds,(g d).clean=true)\/δc=pV δ1 ix)(inner:Fo X W CL b scope Nc ifs elt δc ds p ok g)(hlen:ds.length<=sizeLine)
  (k:(∀d∈ds,p d=true->ok d=true)->cg (X.d0 (XE X W)) CL b cZ (δ1.set i (some (.lst ((ds.filter p).map g)))) D) (q:i<δ1.length)
  (a:swapsWith (.ListComp elt [#[.Name y px,iter,ifs,0]] scope pc) (some (.Name x pos')) pos.line X.env=pure true\/swapsWith (.ListComp elt [#[.Name y px,iter,ifs,0]] scope pc) (some (.Name x pos')) pos.line X.env=pure false) (m:AN X iter:=by intro _;rfl)
  (h1:AD y:=by decide) (r:AE y:=by decide):cg (X.d0 (XE X W)) CL b (.Assign [.Name x pos'] (.ListComp elt [#[.Name y px,iter,ifs,0]] scope pc) pos::cZ) δ D:=by
 obtain a|a:=a
 .exact bG (V4 i j s #[WE,rfl] y5 (VB sc) f.calm (Cv h) (c.imp (λc=>#[c.1,yN c.2]) id) (zg sc inner h1 r) (λu lt i d l e o=>#[i,e,o.1,lt]) hlen (λl o=>(ur o).2▸k (ur o).1) q f.nd n.hi n.loc n.hf a m)
 .exact bG (um i (vC j s sc f.calm h c inner hlen m h1 r) (λt z=>z.2▸k z.1) q f.nd n.hi n.loc a n.hf)
def Qv{e:Expr}{P:T->Prop}(h:uR X CL b e δ P δ1)(k:∀t,P t->D.rt t δ1):cg X CL b (.Return (some e) pos::cZ) δ D:=bG λH Z U ts vs E S M=>nQ (Ez bX) (h H Z U ts vs _ S λt v H1 Z1 p a k1 c=>M.rt t v H1 Z1 δ1 U a c (k t p))
end
variable{X:Cx}{CL:BC}{b:Bx}{δ δ1:Ap}{e1:Expr}{pos:Pos}{a:Addr}
def V9{d:Nat}{p2:Pos}(h:bN X CL b e1 δ (.val (.ref a)) δ1):kQ X CL b (.Compare e1 [.Is] [.Constant .none d p2] pos) δ false δ1:=λH Z U ts vs Q S k=>
 pR (zA (zy bX)) (h H Z U ts vs _ S λv H1 Z1 c k1 e r=>by
   cases r;exact#[_,rfl,by simpa using k H1 Z1 c k1 e])
def si(K:Frag)(c:Str):Addr:=if uM c=true then 0 else match nsIn K mainGlobals c with
 | some (some (.ref a))=>a
 | _=>0
def Wa(h:uM c=true):si K c=0:=di h
def iQ{b:BC}{f:Addr}(h:b=si K)(a:En K c f)(t:uM c=false:=by rfl):f=b c:=by
 rw[h,si,cq (by rw[t];decide),show nsIn K mainGlobals c=some (some (.ref f)) from a]
def qe(mg:BM)(K:Frag)(x:Str)(l:AT):Prop:=∃a,mg x=some (.ref a)/\∀H:Hp,lN K H a (l.map V.str)
def IB{mg:BM}{l:AT}{od:B2}{its:Db}{n:Nat}{sl:CU}(h1:mg x=some (.ref a))(d:K.lookup a=some #[.type "tuple",od,.seq its n,sl])(c:its.size<=sizeLine:=by exact g7 rfl)(b:Vals (l.map V.str) its.toList:=by repeat (first|exact .nil|refine .cons #[_,rfl] ?_)):qe mg K x l:=#[a,h1,Yw d c b]
abbrev GDk(w:World)(mg:BM)(K:Frag)(x:Str)(f:Str->CS):Prop:=∃(a:Addr) (es:Array DictEntry) (n:Nat),mg x=some (.ref a)/\K.lookup a=some #[.type "dict",none,.dict es n,#[]]/\KeysLit w.params es.toList/\∀k z,f k=some z->∃t,nsIn K a k=some (some (.int z t))
abbrev GEk(w:World)(mg:BM)(K:Frag)(x:Str)(l:Ee):Prop:=∃(a:Addr) (es:List DictEntry) (n:Nat),mg x=some (.ref a)/\(a==sysModules)=false/\K.lookup a=some #[.type "dict",none,.dict es.toArray n,#[]]/\KeysLit w.params es/\qi K es l
structure xF(A:Type) where
 x:Str
 k:Nat
 m:Nat
 st:Stmt
 N:AT
 f:A->BB×Prop×Bool×T×Ex
abbrev z6(X:Cx)(CL:BC)(x:Str)(k n:Nat)(S:A->BB×Prop×Bool×T×Ex):Prop:=NZ X CL x k n (λa=>(S a).1) (λa=>(S a).2.1) (λa=>(S a).2.2.1) (λa=>(S a).2.2.2.1) (λa=>(S a).2.2.2.2)
abbrev lq(X:Cx)(CL:BC)(S:xF A):Prop:=z6 X CL S.x S.k S.m S.f
abbrev kE(X:Cx)(W:XK)(CL:BC)(b:Bx)(S:xF A):Prop:=DdE X W CL b S.st S.N (λa=>(S.f a).1) (λa=>(S.f a).2.1) (λa=>(S.f a).2.2.1) (λa=>(S.f a).2.2.2.1) (λa=>(S.f a).2.2.2.2)
def gJ(K:Frag)(x:Str)(st:Stmt):Prop:=∃f fd,Us K x st f fd
def fnX{f:Addr}{kV doc pm dP ct:Value}{an od:B2}{oc:Value}{B6:CU}(m:nsIn K mainGlobals x=some (some (.ref f)))(l:K.lookup f=some #[oc,od,.func (fnOf x x (fZ st) (bJ st) (aC st) .none kV doc pm an dP ct),B6])(c:codeIn K dP x=true)(k:keepIn K (.ref f)=true):gJ K x st:=#[_,_,fn1 m l c k]
def l8(X:Cx)(CL:BC)(b:Bx)(es:CC)(δ:Ap)(p:Prop)(tl:Bn)(δ':Ap):Prop:=
 ∀(H Z:Hp) (U:L2.St) (ts:Bn) (vs:BS) (Q:EN),bz X.K CL b H Z δ U ts vs →
  (∀us H' Z',p->us.length=tl.length->aB Z Z'->aB H H'->bz X.K CL b H' Z' δ' U (tl.reverse++ts) (us.reverse++vs)->Q us H')->xP X es U H Q
abbrev n7(X:Cx)(CL:BC)(b:Bx)(e:Expr)(δ:Ap)(p:Prop)(t:T)(δ':Ap):Prop:=uR X CL b e δ (λu=>p/\u=t) δ'
section
variable{δ2:Ap}{e:Expr}{es:CC}{t:T}{tl:Bn}{ds:BB}{d:L3.D}{p q:Prop}{D:cy}{cZ:CO}{j:Nat}
def jq:l8 X CL b [] δ True [] δ:=λH Z U ts vs Q S k=>xQ cV (k [] H Z trivial rfl (.refl _) (.refl _) S)
theorem fQ(h1:n7 X CL b e δ p t δ1)(g:l8 X CL b es δ1 q tl δ2)(d:AC X e es:=by exact aT rfl):l8 X CL b (e::es) δ (p/\q) (t::tl) δ2:=λH Z U ts vs Q S k=>
 xQ (bB bX zN d) (h1 H Z U ts vs _ S λu v H1 Z1 z c k1 i=>g H1 Z1 U _ _ _ i λus H2 Z2 y f a k2 h=>k _ H2 Z2 #[z.1,y] (by simp[f]) (c.trans a) (k1.trans k2) (by rw[z.2]at h;simp_all))
def fj(h1:bw X CL b e δ t δ1)(c:l8 X CL b es δ1 q tl δ2)(a:AC X e es:=by exact aT rfl):l8 X CL b (e::es) δ q (t::tl) δ2:=λH Z U ts vs Q S k=>
 fQ (p:=True) (λH Z U ts vs Q S k=>h1 H Z U ts vs Q S λv H1 Z1=>k t v H1 Z1 #[trivial,rfl]) c a H Z U ts vs Q S λus H1 Z1 y=>k us H1 Z1 y.2
def Ao(h:l8 X CL b es δ p tl δ1)(f:tl.length<=sizeLine:=by exact g7 rfl):n7 X CL b (.Tuple es j pos) δ p (.tup tl) δ1:=λH Z U ts vs Q S k=>
 bH (Om zN) (h H Z U ts vs _ S λus H1 Z1 y d e k1 l=>#[d▸f,λa g=>by
  obtain⟨r,c,i⟩:=l.uP d g;exact k _ _ _ _ #[y,rfl] (e.trans r) (k1.trans c) i])
def Wb(h:n7 X CL b e δ p t δ1)(z:t.d7=d):n7 X CL b e δ p (.sh d) δ1:=λH Z U ts vs Q S k=>h H Z U ts vs Q S λu v H' Z' y f s g=>by
 obtain⟨Z2,c,a⟩:=g.zO;rw[y.2,z]at a;exact k _ v H' Z2 #[y.1,rfl] (f.trans c) s a
def gK(h:l8 X CL b es δ p (ds.map T.sh) δ1)(a:ds.length<=sizeLine:=by exact g7 rfl):n7 X CL b (.Tuple es j pos) δ p (.sh (.tup ds)) δ1:=
 Wb (Ao h (by rw[d4];exact a)) (by rw[T.d7,iC])
def g8(h:n7 X CL b e δ p t δ1)(k:p->D.rt t δ1):cg X CL b (.Return (some e) pos::cZ) δ D:=Qv h λ_ z=>z.2▸k z.1
def IF{W:XK}{k n:Nat}{arg:A->BB}{Pre:A->Prop}{ok:A->Bool}{res:A->T}{exc:A->Ex}{t0:T}{pp:Pos}(F:NZ (X.d0 (XE X W)) CL x k n arg Pre ok res exc)(g:Gl X x)(h:bw (X.d0 (XE X W)) CL b e δ t0 δ1)(c:Ut t0)
  (a:AD x:=by decide) (he:starEach [e] X.env=[(false,eval e X.env)]:=by exact aT rfl) (hpl:(backTo pos (starEach [] X.env)).any (·.1)=false:=by rfl) :
  bw (X.d0 (XE X W)) CL b (.Call (.Name x pp) [e] [] pos) δ t δ2:=λH Z U ts vs Q S kk=>by
 obtain⟨f,fd,ps,l,hm,d,i⟩:=F.bad.ex;exact bH (zE l F.bad.room g hm d i .nil Yz zN a he hpl) (xQ (X:=X.d0 (XE X W)) (bB (X:=X.d0 (XE X W)) bX zN he) (h H Z U ts vs _ S λv H1 Z1 m k1 j=>(j.no c).elim))
def Wc{c:Nat}{p2:Pos}(h:bN X CL b e δ (.tup ds) δ1):bw X CL b (.Compare e [.Is] [.Constant .none c p2] pos) δ (.sh (.bl false)) δ1:=λH Z U ts vs Q S k=>bH (Ew (zy bX)) (h H Z U ts vs _ S λv H1 Z1 a k1 d r=>by
 obtain⟨_,_,rfl,g,f⟩:=r.pQ;exact by simpa using k _ H1 Z1 a k1 (d.push (.bl false)))
end
end L3
namespace Law
open PySem L2 L3
noncomputable def top(i:Nat):Stmt:=PySem.Challenge.pw_moodtree_k21_the_first_bad_row.main.body.getD i (.Pass #[0,0,0,0])
def vD:Nat->BN->Int->BN
 | 0,_,_=>[]
 | n+1,es,k=>if k=-1 then [] else k::vD n es (es.getD k.toNat 0)
def dM(es:BN)(m:Int):BN:=vD (es.length+1) es (es.getD m.toNat 0)
def lU(es:BN):Prop:=∀k:Nat,k<es.length->-1<=es.getD k 0/\es.getD k 0<k
variable{es:BN}{k:Int}
theorem lU.at(h:lU es)(h0:0<=k)(h1:k<es.length):-1<=es.getD k.toNat 0/\es.getD k.toNat 0<k:=by
 have:=h k.toNat Wl;lia
noncomputable def kF(ks:AT)(es ss:BN):L3.D:=.ins "Tree" [("kinds",.lst (ks.map .str)),("elders",.lst (es.map .int)),("starts",.lst (ss.map .int))]
def oR{ks:AT}{ss:BN}:List.lookup ("kinds":Str) [(("kinds":Str),L3.D.lst (ks.map .str)),("elders",.lst (es.map .int)),("starts",.lst (ss.map .int))]=some (.lst (ks.map .str)):=z7
def cX{ks:AT}{ss:BN}:List.lookup ("elders":Str) [(("kinds":Str),L3.D.lst (ks.map .str)),("elders",.lst (es.map .int)),("starts",.lst (ss.map .int))]=some (.lst (es.map .int)):=rfl
def sV{ks:AT}{ss:BN}:List.lookup ("starts":Str) [(("kinds":Str),L3.D.lst (ks.map .str)),("elders",.lst (es.map .int)),("starts",.lst (ss.map .int))]=some (.lst (ss.map .int)):=rfl
def cC(ds:BB):T.d7 (.lst (ds.map T.sh))=.lst ds:=by rw[T.d7,iC]
def oS(l:BN):(T.lst ((l.map L3.D.int).map T.sh)).clean=true:=kh▸sR _
theorem vF(l:AT):(T.lst ((l.map L3.D.str).map T.sh)).clean=true:=by
 induction l with
 | nil=>rfl
 | cons x l a=>exact a
noncomputable def qg(ks:AT)(es ss:BN):B1:=[("kinds",.lst ((ks.map .str).map T.sh)),("elders",.lst ((es.map .int).map T.sh)),("starts",.lst ((ss.map .int).map T.sh))]
def LK(ks:AT)(es ss:BN):T.d7 (.ins "Tree" (qg ks es ss))=kF ks es ss:=by
 unfold qg;rw[T.d7,T.tK,T.tK,T.tK,cC,cC,cC];rfl
def sW(ks:AT)(es ss:BN):T.bY (qg ks es ss)=true:=by
 unfold qg;rw[T.bY,T.bY,T.bY,vF,oS,oS];rfl
theorem IC{es:BN}(h:lU es):∀(n:Nat) {k x:Int},-1<=k->k<es.length->x∈vD n es k->0<=x/\x<=k
 | 0,k,x,_,_,a=>by cases a
 | n+1,k,x,h0,h1,a=>by
  rw[vD]at a;split at a
  .cases a
  .have b:=h.at Wl h1;obtain rfl|a:=d3.1 a
   .lia
   .have:=IC h n Wl Wl a;lia
theorem vG{es:BN}(h:lU es):∀(a b:Nat) {k:Int},-1<=k->k<es.length->k<a->k<b->vD a es k=vD b es k
 | 0,0,_,_,_,_,_=>rfl
 | 0,b+1,k,h0,_,e,_=>by
  rw[vD,vD,di Wl]
 | a+1,0,k,h0,_,_,d=>by
  rw[vD,vD,di Wl]
 | a+1,b+1,k,h0,h1,e,d=>by
  rw[vD,vD];split
  .rfl
  .have c:=h.at Wl h1;rw[vG h a b c.1 Wl Wl Wl]
variable{m:Int}
theorem rM(h:lU es)(h0:0<=m)(h1:m<es.length):dM es m=if es.getD m.toNat 0=-1 then [] else es.getD m.toNat 0::dM es (es.getD m.toNat 0):=by
 have hm:=h.at h0 h1;unfold dM;rw[vD];split
 .rfl
 .rename_i b;have a:=h.at (k:=es.getD m.toNat 0) Wl Wl;rw[vG h es.length (es.length+1) a.1 Wl Wl Wl]
variable{x:Int}
theorem Aq(h:lU es)(h0:0<=m)(h1:m<es.length)(a:x∈dM es m):0<=x/\x<m/\x<es.length:=by
 have hm:=h.at h0 h1;have:=IC h _ hm.1 Wl a;lia
theorem rN{es:BN}(h:lU es):∀(n:Nat) {m x:Int},0<=m->m<es.length->m<n->x∈dM es m->∃pre,dM es m=pre++x::dM es x/\∀y∈pre,y∈dM es m/\x∈dM es y
 | 0,m,x,h0,_,f,_=>by lia
 | n+1,m,x,h0,h1,f,a=>by
  have hm:=h.at h0 h1;have e:=rM h h0 h1;generalize g:es.getD m.toNat 0=k at hm e;by_cases c:k=-1
  .rw[e,di c]at a;cases a
  .rw[cq c]at e;rw[e]at a;obtain rfl|a:=d3.1 a
   .exact#[[],by rw[e];rfl,λy b=>by cases b]
   .obtain⟨pre,d,p2⟩:=rN h n (m:=k) Wl Wl Wl a;refine#[k::pre,by rw[e,d];rfl,λy b=>?_];obtain rfl|b:=d3.1 b
    .exact#[by rw[e];exact d6,a]
    .exact#[by rw[e];exact ee _ (p2 y b).1,(p2 y b).2]
def kG(es:BN):Prop:=lU es/\∀k:Nat,k+1<es.length->es.getD (k+1) 0=k\/es.getD (k+1) 0∈dM es k
theorem IE{es:BN}{x:Int}(h:lU es):∀(n:Nat) {k:Int},-1<=k->k<es.length->vD n (es++[x]) k=vD n es k
 | 0,_,_,_=>rfl
 | n+1,k,h0,h1=>by
  rw[vD,vD];split
  .rfl
  .have a:=h.at Wl h1;have e:(es++[x]).getD k.toNat 0=es.getD k.toNat 0:=by
    rw[eM,lj Wl,<- eM]
   rw[e,IE h n a.1 Wl]
def vH{k:Nat}(h:k<es.length):(es++[x]).getD k 0=es.getD k 0:=by
 rw[eM,lj h,<- eM]
theorem As(h:lU es)(h0:0<=m)(h1:m<es.length):dM (es++[x]) m=dM es m:=by
 have hm:=h.at h0 h1;unfold dM;rw[vH Wl,IE h _ hm.1 Wl,vG h _ (es.length+1) hm.1 Wl WI Wl]
theorem lU.snoc(h:lU es)(h0:-1<=x)(h1:x<es.length):lU (es++[x]):=λk a=>by
 simp at a;by_cases e:k<es.length
 .exact vH e▸h k e
 .have:k=es.length:=by lia
  simp_all
theorem kG.snoc(h:kG es){k:Nat}(d:k+1=es.length)(b:x=k\/x∈dM es k):kG (es++[x]):=by
 have a:-1<=x/\x<es.length:=by
  obtain e|e:=b
  .lia
  .have:=Aq h.1 Wl Wl e;lia
 refine#[h.1.snoc a.1 a.2,λj c=>?_];simp at c;rw[As h.1 Wl Wl];by_cases e:j+1<es.length
 .exact vH e▸h.2 j e
 .have:j=k:=by lia
  simp_all
theorem Au:∀(n:Nat) (es:BN) (k:Int),(vD n es k).length<=n
 | 0,_,_=>ea _
 | n+1,es,k=>by
  rw[vD];split
  .exact fc _
  .exact oP (Au n es _)
def iR(bs nm:BB)(tr:L3.D)(is os ws:BB):L3.D:=.ins "Chart" [("boxes",.lst bs),("names",.lst nm),("tree",tr),("ins",.lst is),("outs",.lst os),("ways",.lst ws)]
section
variable{bs nm is os ws:BB}{tr:L3.D}
def jK:List.lookup ("boxes":Str) [(("boxes":Str),L3.D.lst bs),("names",.lst nm),("tree",tr),("ins",.lst is),("outs",.lst os),("ways",.lst ws)]=some (.lst bs):=z7
def d9:List.lookup ("names":Str) [(("boxes":Str),L3.D.lst bs),("names",.lst nm),("tree",tr),("ins",.lst is),("outs",.lst os),("ways",.lst ws)]=some (.lst nm):=rfl
def vI:List.lookup ("tree":Str) [(("boxes":Str),L3.D.lst bs),("names",.lst nm),("tree",tr),("ins",.lst is),("outs",.lst os),("ways",.lst ws)]=some tr:=rfl
def yO:List.lookup ("ins":Str) [(("boxes":Str),L3.D.lst bs),("names",.lst nm),("tree",tr),("ins",.lst is),("outs",.lst os),("ways",.lst ws)]=some (.lst is):=rfl
def vJ:List.lookup ("outs":Str) [(("boxes":Str),L3.D.lst bs),("names",.lst nm),("tree",tr),("ins",.lst is),("outs",.lst os),("ways",.lst ws)]=some (.lst os):=rfl
def vK:List.lookup ("ways":Str) [(("boxes":Str),L3.D.lst bs),("names",.lst nm),("tree",tr),("ins",.lst is),("outs",.lst os),("ways",.lst ws)]=some (.lst ws):=rfl
end
def rO(bs nm:BB):B1:=[("boxes",.lst (bs.map T.sh)),("names",.lst (nm.map T.sh))]
def rP(is os ws:BB):B1:=[("ins",.lst (is.map T.sh)),("outs",.lst (os.map T.sh)),("ways",.lst (ws.map T.sh))]
def mL(bs nm:BB)(t:T)(is os ws:BB):B1:=rO bs nm++(("tree":Str),t)::rP is os ws
def Fp(bs nm:BB)(t:T)(is os ws:BB):T.d7 (.ins "Chart" (mL bs nm t is os ws))=iR bs nm t.d7 is os ws:=by
 unfold mL rO rP;rw[g4,g4,List.nil_append,T.d7,T.tK,T.tK,T.tK,T.tK,T.tK,T.tK,cC,cC,cC,cC,cC];rfl
def bE{ds:BB}(h:D.bP ds=true):(T.lst (ds.map T.sh)).clean=true:=by
 rw[kh]
 induction ds with
 | nil=>rfl
 | cons d ds a=>
  rw[D.bP,et]at h;rw[eJ,T.c7,a h.2,T.clean,h.1];rfl
def Av{bs nm:BB}(h1:D.bP bs=true)(a:D.bP nm=true):T.bY (rO bs nm)=true:=by
 unfold rO;rw[T.bY,T.bY,bE h1,bE a];rfl
def Aw{is os ws:BB}(h1:D.bP is=true)(b:D.bP os=true)(a:D.bP ws=true):T.bY (rP is os ws)=true:=by
 unfold rP;rw[T.bY,T.bY,T.bY,bE h1,bE b,bE a];rfl
noncomputable def Ft(p:Str×Int):L3.D:=.tup [.str p.1,.int p.2]
noncomputable def dR(ns:BN)(k:Int):Int:=if k<ns.length then ns.getD k.toNat 0 else 0
noncomputable def Ax:Cc:=(List.range 26).map (· + 97)++(List.range 10).map (· + 48)
def Qw:("abcdefghijklmnopqrstuvwxyz0123456789":Str).cps.toList=Ax:=by decide +kernel
def Qx(k:Int):Str:=#[(List.toArray [Ax.getD k.toNat 0])]
noncomputable def z4(m:Int):Int:=(m*48271+11) % 2147483647
def Fv(p:Int×Str):Nat->Int×Str
 | 0=>p
 | n+1=>(z4 (Fv p n).1,(Fv p n).2++Qx (z4 (Fv p n).1 % 36))
noncomputable def Ay:AT:=["all","and","box","call","do","far","if","in","leaf","near","on","one","open","out","put","say","shut","then","to"]
noncomputable def isLt(c:Nat):Bool:=decide (97<=c)&&decide (c<=122)
noncomputable def gV(c:Nat):Bool:=decide (48<=c)&&decide (c<=57)
theorem vN(c:Nat):kC #[(List.toArray [c])] "abcdefghijklmnopqrstuvwxyz" = isLt c:=by
 unfold kC;rw[uu];have e:("abcdefghijklmnopqrstuvwxyz":Str).cps.toList=(List.range 26).map (· + 97):=rfl;rw[e];apply lL.2;simp[isLt];constructor
 .rintro⟨a,h,rfl⟩;lia
 .intro h;exact#[c-97,Wl,Wl]
theorem IG(c:Nat):kC #[(List.toArray [c])] "abcdefghijklmnopqrstuvwxyz0123456789" = (isLt c || gV c):=by
 unfold kC;rw[uu];have e:("abcdefghijklmnopqrstuvwxyz0123456789":Str).cps.toList=(List.range 26).map (· + 97)++(List.range 10).map (· + 48):=rfl;rw[e];apply lL.2;simp[isLt,gV,et,lr,eg,ew,gC];constructor
 .rintro(⟨a,h,rfl⟩|⟨a,h,rfl⟩)<;>lia
 .intro h;obtain h|h:=h
  .exact .inl #[c-97,Wl,Wl]
  .exact .inr #[c-48,Wl,Wl]
def aO(x:Str):Bool:=decide (1<=x.length)&&(decide (x.length<=12)&&(!decide (x∈Ay)&&(isLt (x.cps.toList.getD 0 0)&&x.cps.toList.all (λc=>isLt c || gV c))))
def Az{x:Str}(h:x.length=0):x="":=by
 obtain⟨⟨l⟩⟩:=x;have:l.length=0:=h;have e:l=[]:=wq this;subst e;rfl
variable{j:Nat}
def vO{x:Str}{d:L3.D}(h:(fU x)[j]? = some d):∃c,d=.str #[(List.toArray [c])]/\x.cps.toList[j]? = some c:=by
 unfold fU at h;rw[fT]at h;obtain⟨c,a,rfl⟩:=hW.1 h;exact#[c,rfl,a]
def xG(i:Int)(n:Nat):Bool:=decide (0<=i)&&decide (i<(n:Int))
noncomputable def Wd(i:Int):Bool:=decide (-(10 ^ (30:Int).toNat)<i)&&decide (i<10 ^ (30:Int).toNat)
def Fw(n:Nat)(a c:Int):Bool:=(decide (a=-1) || xG a n)&&Wd c
inductive YD
 | i6 (x:Str) (m:Int)
 | num (mk:Str) (a1 c1 a2 c2:Int)
noncomputable def Wf:YD->L3.D
 | .i6 x m=>.tup [.str x,.int m]
 | .num mk a1 c1 a2 c2=>.tup [.str mk,.tup [.int a1,.int c1],.tup [.int a2,.int c2]]
def rx(n m:Nat):YD->Bool
 | .i6 _ k=>xG k n
 | .num mk a1 c1 a2 c2=>decide (mk∈(["<","<=","=","!="]:AT))&&(Fw m a1 c1&&Fw m a2 c2)
def Wg:YD->Prop
 | .i6 x _=>x∈(["open","shut"]:AT)
 | .num mk _ _ _ _=>¬ mk∈(["open","shut"]:AT)
def Qy:∀al:List YD,D.j6 (.tup (al.map Wf))=true:=λal=>b9 (λq=>by cases q<;>rfl) al
def Kk:L3.D->L3.D
 | .tup [_,_,_,d,_,_]=>d
 | d=>d
inductive Iz
 | put (i a c:Int)
 | say (x:Str) (a c:Int)
 | call (x:Str)
noncomputable def Eo:Iz->L3.D
 | .put i a c=>.tup [.str "put",.int i,.tup [.int a,.int c]]
 | .say x a c=>.tup [.str "say",.str x,.tup [.int a,.int c]]
 | .call x=>.tup [.str "call",.str x]
def kn:Iz->Prop
 | .put _ _ _=>True
 | .say x _ _=>x.length<=1000
 | .call x=>x.length<=1000
structure Wh where
 src:Int
 sign:Str
 al:List YD
 dl:List Iz
 j2:Int
 mode:Str
def Wi(w:Wh):L3.D:=.tup [.int w.src,.str w.sign,.tup (w.al.map Wf),.tup (w.dl.map Eo),.int w.j2,.str w.mode]
noncomputable def AA(l:BN)(s:Int):BN:=if s∈l then l else l++[s]
def Qz(l:BN):EO:=l.map λs=>((Sum.inl s:Key),L3.D.bl true)
theorem II(l:BN)(s:Int):((Qz l).any λa=>decide (a.1=Sum.inl s))=decide (s∈l):=by
 unfold Qz
 induction l with
 | nil=>rfl
 | cons y l b=>
  by_cases h:y=s
  .subst h;simp
  .have h':¬ s=y:=λe=>h e.symm;simp_all
def Wj(l:BN)(s:Int):sU (Qz l) (.inl s) (.bl true)=Qz (AA l s):=by
 unfold sU;rw[II];unfold AA;by_cases h:s∈l
 .rw[di (eD h),di h];unfold Qz;rw[eI];refine hB λy _=>?_;simp
 .rw[if_neg (by simpa using h),if_neg h];unfold Qz;rw[fx];rfl
def adds(l:BN):BN:=l.foldl AA []
def LN(l:BN)(x:Int):adds (l++[x])=AA (adds l) x:=by unfold adds;rw[hY];rfl
theorem rQ:∀(l acc:BN),(l.foldl AA acc).length<=acc.length+l.length/\∀x,x∈l.foldl AA acc↔x∈acc\/x∈l
 | [],acc=>#[ WE,WE ]
 | y::l,acc=>by
  obtain⟨h1,b⟩:=rQ l _;rw[ip];refine#[?_,λx=>(b x).trans ?_]
  .have:(AA acc y).length<=acc.length+1:=by unfold AA;split<;>simp
   grind
  .unfold AA;by_cases a:y∈acc
   .rw[di a,d3];constructor
    .rintro(z|z)
     .exact .inl z
     .exact .inr (.inr z)
    lia
   .rw[cq a,eg,eC,d3,or_assoc]
def Wk(l:BN)(s:Int):(jE (Qz l) (.inl s)).isSome=decide (s∈l):=by
 rw[<- II];unfold jE;generalize Qz l=k
 induction k with
 | nil=>rfl
 | cons y k a=>
  rw[jR,i3];cases h:decide (y.1=Sum.inl s) with
  | true=>rfl
  | false=>exact a
def kq(n:Nat):Iz->Bool
 | .put i a c=>xG i n&&Fw n a c
 | .say x a c=>aO x&&Fw n a c
 | .call x=>aO x
def Wh.Ok(n m:Nat)(w:Wh):Prop:=xG w.src n=true/\(w.sign.length<=1000/\aO w.sign=true)/\w.mode∈(["new","near","far"]:AT)/\((w.j2=-1/\w.mode="new")\/(w.j2 ≠ -1/\xG w.j2 n=true))/\∀q∈w.al,Wg q/\rx n m q=true
noncomputable def YF(q:Str×Int):L3.D:=.tup [.str q.1,.int q.2]
variable{α:Type}
theorem Kj{p:α->Bool}{l:List α}(h:∀(j:Nat) (x:α),l[j]? = some x->p x=true):l.all p=true:=fR.2 λx a=>by
 obtain⟨j,b,e⟩:=List.getElem_of_mem a;exact h j x WF
def QB{p:α->Bool}{l:List α}{x:α}(h:x∈l)(a:p x=false):l.all p=false:=tI.2 #[x,h,by rw[a];decide]
def rR(p:α->Bool)(l:List α)(j:Nat):Prop:=∀(q:Nat) (x:α),q<j->l[q]? = some x->p x=true
theorem rR.zero{p:α->Bool}{l:List α}:rR p l 0:=λq x h=>absurd h (nR q)
theorem rR.next{p:α->Bool}{l:List α}{x:α}(h:rR p l j)(b:l[j]? = some x)(hp:p x=true):rR p l (j+1):=λq y c a=>by
 by_cases e:q=j
 .simp_all
 .exact h q y Wl a
theorem rR.all{p:α->Bool}{l:List α}(h:rR p l l.length):l.all p=true:=Kj λj x a=>h j x (gz.1 a).1 a
def mO(l:AT):Bool:=l.all aO&&decide l.Nodup
def CY(l:DO):Bool:=l.all (λq=>Wd q.2)&&mO (l.map (·.1))
noncomputable def AF:AT:=["leaf","one","all"]
def rA(ks:AT)(es:BN)(m:Nat):Bool:=decide (ks.getD m Str.empty∈AF)&&(decide (ks.getD m Str.empty="leaf") == !decide ((m:Int)∈es))
def LQ(ks:AT)(es:BN):Bool:=(List.range ks.length).all (rA ks es)
def YG(ks:AT)(es ss:BN)(m:Nat):Bool:=if ks.getD m Str.empty="one" then xG (ss.getD m 0) es.length&&decide (es.getD (ss.getD m 0).toNat 0=(m:Int)) else decide (ss.getD m 0=-1)
def Fx(ks:AT)(es ss:BN):Bool:=(List.range ss.length).all (YG ks es ss)
def LR{l:List α}{p:α}(h:l[j]? = some p):l.take (j+1)=l.take j++[p]:=by
 rw[hZ,h];rfl
def Wm:Nat->Int->Str->Str
 | 0,_,x=>x
 | n+1,r,x=>if 0<r then Wm n (r / 36) (x++Qx (r % 36)) else x
theorem Wn(n:Nat){r:Int}(x:Str)(h:¬ 0<r):Wm n r x=x:=by
 cases n with
 | zero=>rfl
 | succ n=>rw[Wm,cq h]
def qh(m:Int):Str:=Wm 20 (m / 26) (Qx (m % 26))
noncomputable def og:AT:=["all","and","box","call","do","far","if","in","leaf","near","on","one","open","out","put","say","shut","then","to"]
def Wo(m:Int)(us:AT)(j:Nat):Bool:=!decide (qh (m+j)∈us) && !decide (qh (m+j)∈og)
def nX(m:Int)(us:AT):Str:=match (List.range (us.length+20)).find? (Wo m us) with
 | some j=>qh (m+j)
 | none=>""
def QC{us:AT}(a:j<us.length+20)(b:∀i,i<j->Wo m us i=false)(h:Wo m us j=true):nX m us=qh (m+j):=by
 have e:(List.range (us.length+20)).find? (Wo m us)=some j:=by
  rw[List.find?_range_eq_some];exact#[h,gC.2 a,λi hi=>by rw[b i hi];rfl]
 unfold nX;rw[e]
def QD{us:AT}(a:∀i,i<us.length+20->Wo m us i=false):nX m us="":=by
 have e:(List.range (us.length+20)).find? (Wo m us)=none:=by
  rw[List.find?_eq_none];intro i hi;exact a i (gC.1 hi)▸fg
 unfold nX;rw[e]
def qj(c st:Int):Nat->AT
 | 0=>[]
 | n+1=>qj c st n++[nX (c+n*st) (qj c st n)]
theorem qk(c st:Int):∀n,(qj c st n).length=n
 | 0=>rfl
 | n+1=>by rw[qj,fv,qk c st n];rfl
def vP(s:BN):Int:=([1,26,936,33696,1213056]:BN).getD (dR s 1 % 5).toNat 0
def LV(s:BN)(n:Nat):AT:=qj (dR s 0 % (26*36 ^ (10:Int).toNat)) (vP s) n
theorem CZ(s:BN):0<=vP s/\vP s<=1213056:=by
 unfold vP;have:(dR s 1 % 5).toNat=0\/(dR s 1 % 5).toNat=1\/(dR s 1 % 5).toNat=2\/(dR s 1 % 5).toNat=3\/(dR s 1 % 5).toNat=4:=by lia
 obtain e|e|e|e|e:=this<;>rw[e]<;>decide
theorem QF:lU [-1]:=λk a=>by
 have:k=0:=by
  rw[hV]at a;lia
 subst this;exact#[m5 _,show(-1:Int)<((0:Nat):Int) by decide]
def Sm:Nat->L3.D->Prop
 | _,.int _=>True
 | _,.str _=>True
 | n+1,.lst ds=>ds.length<=1000/\∀d∈ds,Sm n d
 | n+1,.tup ds=>ds.length<=1000/\∀d∈ds,Sm n d
 | _,_=>False
def vQ(nb:Nat)(d:L3.D):Prop:=∃a c:Int,d=.tup [.int a,.int c]/\(a=-1\/(0<=a/\a<nb))/\c.natAbs<10 ^ 30
def IJ(nb nm:Nat)(d:L3.D):Prop:=(∃(w:Str) (k:Int),d=.tup [.str w,.int k]/\(w="open" \/ w="shut")/\0<=k/\k<nm)\/(∃(w:Str) (s t:L3.D),d=.tup [.str w,s,t]/\w∈(["<","<=","=","!="]:AT)/\vQ nb s/\vQ nb t)
structure WY where
 src:Int
 sg:Str
 qs:BB
 ds:BB
 tg:Int
 md:Str
def WY.d(w:WY):L3.D:=.tup [.int w.src,.str w.sg,.tup w.qs,.tup w.ds,.int w.tg,.str w.md]
theorem ql{l:List α}(z:α)(h:0<l.length):l.getD (l.length-1) z∈l:=by
 rw[eM,gc Wl];exact oN _
variable{l:AT}
def Fy{k:Nat}(h:k<l.length):l.getD k Str.empty∈l:=by
 rw[eM,gc h];exact oN h
theorem AG{n:Nat}(h:0<n):NK n (-1)=some (n-1):=by
 unfold NK;rw[cq WA,di Wl];congr 1;lia
theorem C1{f:α->L3.D}{l:List α}(z:α)(h:0<l.length):mw (l.map f) (-1)=some (f (l.getD (l.length-1) z)):=by
 unfold mw;rw[d4,AG h];show(l.map f)[l.length-1]? = _;rw[fT,eM,gc Wl];rfl
def AH{bs nm is os ws:BB}{t:T}(h1:D.bP bs=true)(e:D.bP nm=true)(d:t.clean=true)(c:D.bP is=true)(b:D.bP os=true)(a:D.bP ws=true):T.bY (mL bs nm t is os ws)=true:=by
 unfold mL rO rP;rw[g4,g4,List.nil_append,T.bY,T.bY,T.bY,T.bY,T.bY,T.bY,bE h1,bE e,d,bE c,bE b,bE a];rfl
noncomputable def b8:L3.D->Nat->L3.D
 | .tup ds,k=>ds.getD k .non
 | _,_=>.non
noncomputable def sI(i:Int):Str:=Str.ofString (toString i)
variable{i:Int}
def vR(h:i.natAbs<10 ^ 30):(sI i).length<=31:=by
 have:=int_text_length_le10 (k:=30) WA h;unfold sI;rw[ofString_length];exact this
def QG(h:i.natAbs<10 ^ 30):i.natAbs.log2<1920:=by
 by_cases z:i.natAbs=0
 .rw[z];decide
 .exact(Nat.log2_lt z).2 (Nat.lt_trans h Wp)
def Wr(a c:String):Str.ofString (a++c)=Str.ofString a++Str.ofString c:=by
 rw[Str.ofString_eq_toList,Str.ofString_eq_toList,Str.ofString_eq_toList];apply Str.ext';show((a++c).toList.map _).toArray=(a.toList.map _).toArray++(c.toList.map _).toArray;simp
def Sa(h:i<0):sI i="-" ++ sI (i.natAbs:Int):=by
 obtain⟨n,rfl⟩:=Int.eq_negSucc_of_lt_zero h;exact Wr "-" _
noncomputable def BQ(k:Int):Str:=if 0<k then "+" else "-"
def C2(bn:AT)(d:L3.D):Str:=if (b8 d 0).Cq=-1 then sI (b8 d 1).Cq else if (b8 d 1).Cq=0 then bn.getD (b8 d 0).Cq.toNat Str.empty
 else bn.getD (b8 d 0).Cq.toNat Str.empty++BQ (b8 d 1).Cq++sI ((b8 d 1).Cq.natAbs:Int)
def jn(a:Str)(l:AT):Str:=l.foldl (λx w=>x++" " ++ w) a
theorem RY(z:Str):∀(l:AT) (a:Str),z++jn a l=jn (z++a) l
 | [],a=>rfl
 | w::l,a=>by
  show z++jn _ l=jn (z++a++" " ++ w) l;rw[RY z l,Str.append_assoc z a " ",Str.append_assoc z _ w]
def lnk(f g:Str):AT->AT
 | []=>[]
 | t::r=>f::t::r.flatMap λx=>[g,x]
abbrev _root_.EU:=List BB
structure CH where
 bs:DO
 ns:AT
 ks:AT
 es:BN
 ss:BN
 is:EU
 os:EU
 ws:List WY
def CH.d(c:CH):L3.D:=iR (c.bs.map Ft) (c.ns.map .str) (kF c.ks c.es c.ss) (c.is.map .tup) (c.os.map .tup) (c.ws.map WY.d)
noncomputable def CH.bn(c:CH):AT:=c.bs.map (·.1)
def y6(w:WY):AT:=if w.md="new" then [] else [w.md]
def blk(c:CH)(m:Nat):Str:=Txt.mul " " ((dM c.es m).length:Nat)
theorem RU{n:Nat}(h:n<=1000):MulOk " " (n:Int):=by
 have e:(" ":Str).length=1:=rfl;refine#[WJ,λh1 _=>?_,λ_ _=>?_]
 .rw[e];have:(1:Int)<=(2 ^ 63-1) / n:=Int.le_ediv_of_mul_le Wl Wl;lia
 .rw[e,i1];apply eu;rw[fA];lia
noncomputable def vi(l:AT):Nat:=(l.map (·.length)).sum+l.length
theorem QH{B:Nat}:∀(l:AT),(∀x∈l,x.length<=B)->vi l<=l.length*(B+1)
 | [],_=>fc _
 | x::l,h=>by
  have a:=h x d6;have d:=QH l λy b=>h y (ee _ b);unfold vi at d ⊢;rw[eJ,List.sum_cons,gv,Nat.succ_mul];lia
def aQ(a c:Str):(a++c).cps.toList=a.cps.toList++c.cps.toList:=PySem.W.KT.app_list a c
variable{a c:Str}
def eN(h:a.cps.toList=c.cps.toList):a=c:=Str.ext' (Array.toList_inj.1 h)
theorem IK{c:Nat}:∀{p q r s:Cc},c∉p->c∉q->p++c::r=q++c::s->p=q/\r=s
 | [],[],_,_,_,_,h=>#[rfl,(hR h).2]
 | [],y::q,_,_,_,a,h=>absurd (hR h).1 (λe=>a (e▸d6))
 | x::p,[],_,_,hp,_,h=>absurd (hR h).1 (λe=>hp (e▸d6))
 | x::p,y::q,r,s,hp,a,h=>by
  obtain⟨e1,e2⟩:=hR h;obtain⟨e3,b⟩:=IK (λz=>hp (ee _ z)) (λz=>a (ee _ z)) e2;simp_all
def fH(c:Nat)(a e:Str)(l:AT):(Str.join #[(List.toArray [c])] (a::e::l)).cps.toList=a.cps.toList++c::(Str.join #[(List.toArray [c])] (e::l)).cps.toList:=by
 show((a++(#[ _ ]))++Str.join _ _).cps.toList=_;rw[aQ,aQ,eB];rfl
theorem C3{c:Nat}:∀{l m:AT},l≠[]->m≠[]->(∀p∈l,c∉p.cps.toList)->(∀p∈m,c∉p.cps.toList)->(Str.join #[(List.toArray [c])] l).cps.toList=(Str.join #[(List.toArray [c])] m).cps.toList->l=m
 | [],_,h,_,_,_,_=>absurd rfl h
 | _::_,[],_,h,_,_,_=>absurd rfl h
 | [a],[d],_,_,_,_,e=>by rw[show a=d from eN e]
 | [a],d::d2::m,_,_,b,_,e=>absurd (by
   rw[show a.cps.toList=_ from e,fH];exact eL _ d6) (b a d6)
 | a::a2::l,[d],_,_,_,hm,e=>absurd (by
   rw[show d.cps.toList=_ from e.symm,fH];exact eL _ d6) (hm d d6)
 | a::a2::l,d::d2::m,_,_,b,hm,e=>by
  rw[fH,fH]at e;obtain⟨e1,e2⟩:=IK (b a d6) (hm d d6) e;have:=C3 WE WE (λp hp=>b p (ee _ hp)) (λp hp=>hm p (ee _ hp)) e2;rw[this,eN e1]
def Uy{x:Str}{c:Nat}(h:c∈x.cps.toList)(lim:Nat)(b:1<=lim):∃i r,Builtin.Str.occurrences x #[(List.toArray [c])] 0 x.length lim=i::r/\x.cps.toList[i]? = some c/\∀k,k<i->x.cps.toList[k]? ≠ some c:=by
 obtain⟨_,a⟩|⟨i,r,h1,a,g⟩:=StrLaws.occ_head x _ lim b
 .obtain⟨j,f⟩:=List.getElem?_of_mem h;exact absurd ((tE x c j).2 f) (a j)
 .exact#[i,r,h1,(tE x c i).1 a,λk d e=>g k d ((tE x c k).2 e)]
def Ur{x:Str}{c:Nat}(h:c∉x.cps.toList)(lim:Nat)(a:1<=lim):Builtin.Str.occurrences x #[(List.toArray [c])] 0 x.length lim=[]:=by
 obtain⟨h1,_⟩|⟨i,r,h1,b,d⟩:=StrLaws.occ_head x _ lim a
 .exact h1
 .exact absurd (fw ((tE x c i).1 b)) h
def AI{x:Str}{c:Nat}(h:c∉x.cps.toList):part3 x #[(List.toArray [c])]=[x,"",""]:=by
 unfold part3;rw[Ur h 1 (ea _)];rfl
theorem vS{r:Str}{c:Nat}(h:c∉a.cps.toList):part3 (a++#[(List.toArray [c])]++r) #[(List.toArray [c])]=[a,#[(List.toArray [c])],r]:=by
 have e:(a++#[(List.toArray [c])]++r).cps.toList=a.cps.toList++c::r.cps.toList:=by
  rw[aQ,aQ,eB];rfl
 have f:c∈(a++#[(List.toArray [c])]++r).cps.toList:=by
  rw[e];exact eL _ d6
 obtain⟨i,s,b,h1,g⟩:=Uy f 1 (ea _);have hi:i=a.cps.toList.length:=by
  obtain z|z|z:=Nat.lt_trichotomy i a.cps.toList.length
  .rw[e,lj z]at h1;exact absurd (fw h1) h
  .exact z
  .refine absurd ?_ (g _ z);rw[e,i5 (ea _),l5];rfl
 unfold part3;rw[b];subst hi;have k:Builtin.Str.strSub (a++#[(List.toArray [c])]++r) 0 a.cps.toList.length=a:=eN (by
  rw[tw,e,List.drop_zero,Nat.sub_zero,List.take_left])
 have j:Builtin.Str.strSub (a++#[(List.toArray [c])]++r) (a.cps.toList.length+(#[(List.toArray [c])]:Str).length) (a++#[(List.toArray [c])]++r).length=r:=eN (by
  have d:(a++#[(List.toArray [c])]++r).length=a.cps.toList.length+1+r.cps.toList.length:=by
   rw[str_len,str_len];show a.length+1+r.length=_;rw[Array.length_toList,Array.length_toList];rfl
  have hd:(a.cps.toList++c::r.cps.toList).drop (a.cps.toList.length+1)=r.cps.toList:=by
   rw[List.drop_append];simp
  rw[tw,e,d];show List.take (a.cps.toList.length+1+r.cps.toList.length-(a.cps.toList.length+1)) (List.drop (a.cps.toList.length+1) _)=_;rw[hd,wo,hS])
 simp_all
theorem mP{x:Str}{n:Nat}(h:x.cps.toList.takeWhile (λc=>(" ":Str).cps.contains c)=x.cps.toList.take n)(a:n<=x.cps.toList.length):(Txt.lstripChars x " ").cps.toList=x.cps.toList.drop n:=by
 have e:(x.cps.toList.takeWhile ((" ":Str).cps.contains)).length=n:=by rw[h,hJ];lia
 unfold Txt.lstripChars;rw[PySem.W.stripBy_eq];show(Builtin.Str.strSub x (x.cps.toList.takeWhile _).length x.length).cps.toList=_;rw[e,tw];exact List.take_of_length_le (oT▸ea _)
theorem Fz{x:Str}(h:x.cps.toList.head? ≠ some 32):Txt.lstripChars x " " = x:=eN (by
 refine(mP (n:=0) ?_ (fc _)).trans List.drop_zero;cases e:x.cps.toList with
 | nil=>rfl
 | cons c l=>
  rw[e]at h;have a:c≠32:=λz=>h (by rw[z];rfl);rw[List.takeWhile_cons_of_neg (by
   rw[show(" ":Str).cps=(List.toArray [32]) by decide +kernel];simp[a])]
  rfl)
def gM(x:Str):Bool:=decide (1<=x.length)&&(decide (x.length<=30)&&(!decide (x.cps.toList.getD 0 0=48)&&x.cps.toList.all gV))
noncomputable def jr(x:Str):Str:=if x.cps.toList.head? = some 45 then#[(x.cps.toList.drop 1).toArray] else x
def iW(x:Str):Bool:=decide (x="0") || gM (jr x)
theorem IL(c:Nat):kC #[(List.toArray [c])] "0123456789" = gV c:=by
 unfold kC;rw[uu];have e:("0123456789":Str).cps.toList=(List.range 10).map (· + 48):=rfl;rw[e];apply lL.2;simp[gV];constructor
 .rintro⟨a,h,rfl⟩;lia
 .intro h;exact#[c-48,Wl,Wl]
def oU(m:Nat):(sI (m:Int)).cps.toList=(Nat.toDigits 10 m).map Char.toNat:=PySem.W.KIN.signs_num m
def oV(m:Nat):PySem.NumText.AllDigits (sI (m:Int)).cps.toList:=λc a=>by
 rw[oU]at a;obtain⟨ch,b,e⟩:=ew.1 a;have r:=PyProof.Rows.digit_range (Nat.isDigit_of_mem_toDigits WA WA b);exact e▸r
def IQ(m:Nat):(sI (m:Int)).cps.toList≠[]:=by
 rw[oU];intro e;have h:=PySem.toDigits_len_ge 10 m;rw[nN.1 e]at h;exact absurd h WA
theorem QI:∀m:Nat,0<m->(sI (m:Int)).cps.toList.getD 0 0≠48:=by
 intro m;rw[oU]
 induction m using Nat.strongRecOn with
 | ind m a=>
  intro h0;by_cases hm:m<10
  .rw[we hm];have:∀k,k<10->0<k->([Nat.digitChar k].map Char.toNat).getD 0 0≠48:=by decide
   exact this m hm h0
  .have t:Nat.toDigits 10 (m / 10)++Nat.toDigits 10 (m % 10)=Nat.toDigits 10 _:=Nat.toDigits_append_toDigits WA Wl Wl;rw[Nat.div_add_mod]at t;have:=a (m / 10) Wl Wl;have b:=PySem.toDigits_len_ge 10 (m / 10);rw[<- t,fx];cases e:(Nat.toDigits 10 _).map _ with
   | nil=>
    rw[nN.1 e]at b;simp_all
   | cons c l=>
    rw[e]at this;exact this
theorem C4{m:Nat}(h:m<10 ^ 30):(sI (m:Int)).length<=30:=PyProof.Rows.toString_length_le Wl WA (by
  have:=Int.ofNat_lt.2 h;exact this)
def aK(x:Str):x.cps.toList.length=x.length:=Array.length_toList
def FD{m:Nat}(h0:0<m)(h:m<10 ^ 30):gM (sI (m:Int))=true:=by
 unfold gM;have h1:1<=(sI m).length:=sL.2 (IQ m);rw[eD h1,eD (C4 h),eu (QI m h0),fR.2 λc a=>?_]
 .rfl
 .have:=oV m c a;unfold gV;rw[eD this.1,eD this.2];rfl
theorem Ws(m:Nat):(sI (m:Int)).cps.toList.head? ≠ some 45:=by
 have hd:=oV m;cases e:(sI _).cps.toList with
 | nil=>exactλz=>nomatch z
 | cons c l=>
  intro z;have:=e5 z;have:=hd c (e▸d6);lia
def nJ(h:i<0):(sI i).cps.toList=45::(sI (i.natAbs:Int)).cps.toList:=by
 rw[Sa h,aQ];rfl
theorem QJ(h:i.natAbs<10 ^ 30):iW (sI i)=true:=by
 unfold iW jr;by_cases h0:i<0
 .rw[nJ h0,di WE];have e:(#[((45::(sI _).cps.toList).drop 1).toArray]:Str)=sI i.natAbs:=eN rfl;rw[e,FD Wl h,Bool.or_true]
 .obtain⟨m,rfl⟩:=i9 (show 0<=i by lia);have h:m<10 ^ 30:=h;rw[cq (Ws m)];by_cases hm:m=0
  .subst hm;rfl
  .rw[FD Wl h,Bool.or_true]
theorem vU(h:i.natAbs<10 ^ 30):intText? (sI i)=some i:=by
 have a:=vR h;by_cases h0:i<0
 .have:=PySem.intText_neg (nJ h0) (oV _) (IQ _) Wl;rw[this,oU,PySem.W.KIN.val_back];grind
 .obtain⟨m,rfl⟩:=i9 (show 0<=i by lia);have:=PySem.intText_digits (oV m) (IQ m) Wl;rw[this,oU,PySem.W.KIN.val_back]
theorem mQ(i:Int):∀c∈(sI i).cps.toList,c=45\/(48<=c/\c<=57):=by
 intro c a;by_cases h0:i<0
 .rw[nJ h0]at a;obtain h|h:=d3.1 a
  .exact .inl h
  .exact .inr (oV _ c h)
 .obtain⟨m,rfl⟩:=i9 (show 0<=i by lia);exact .inr (oV m c a)
def eW{x:Str}(h:aO x=true):1<=x.length/\x.length<=12/\(97<=x.cps.toList.getD 0 0/\x.cps.toList.getD 0 0<=122)/\∀c∈x.cps.toList,(97<=c/\c<=122)\/(48<=c/\c<=57):=by
 unfold aO isLt gV at h;simp only[et,fo,fR,lr]at h;exact#[h.1,h.2.1,h.2.2.2.1,h.2.2.2.2]
theorem IU{x:Str}(h:aO x=true):∃c l,x.cps.toList=c::l/\97<=c/\c<=122:=by
 obtain⟨h1,_,a,_⟩:=eW h;cases e:x.cps.toList with
 | nil=>
  rw[<- aK,e]at h1;simp_all
 | cons c l=>
  rw[e]at a;exact#[c,l,rfl,a]
theorem FE{x:Str}{c:Nat}{l:Cc}(e:x.cps.toList=c::l)(a:97<=c):iW x=false:=by
 unfold iW jr;have h1:¬ x="0":=λz=>by
  subst z;have:("0":Str).cps.toList=[48]:=by decide +kernel
  rw[this]at e;have:=(hR e).1;lia
 rw[eu h1,e,cq (by intro z;have:c=45:=e5 z;lia)];unfold gM;rw[e,jO];have:gV c=false:=by
  unfold gV;rw[eu (show ¬ c<=57 by lia),gm]
 rw[this];simp
noncomputable def rF(c:Nat):Nat:=if 97<=c then c-97 else c-22
def Wt:Cc->Nat
 | []=>0
 | c::l=>rF c+36*Wt l
def QK:∀k:Nat,k<36->(isLt (Ax.getD k 0) || gV (Ax.getD k 0))=true/\rF (Ax.getD k 0)=k/\(k<26->isLt (Ax.getD k 0)=true):=by
 decide +kernel
theorem IV:∀(n:Nat) (r:Int) (x:Str),0<=r->r<36 ^ n->∃t,(Wm n r x).cps.toList=x.cps.toList++t/\(Wt t:Int)=r/\(∀c∈t,(isLt c || gV c)=true)/\∀k:Nat,r<36 ^ k->t.length<=k
 | 0,r,x,h0,h1=>#[[],by rw[Wm,e6],by
   have:r<1:=h1;show((0:Nat):Int)=r;lia,λc a=>by(cases a),λk _=>fc _]
 | n+1,r,x,h0,h1=>by
  rw[Wm];split
  .rename_i hp;obtain⟨t,e1,e2,e3,d⟩:=IV n (r / 36) (x++Qx (r % 36)) (Int.ediv_nonneg h0 WA) (Int.ediv_lt_of_lt_mul WA (by rw[<- Int.pow_succ];exact h1));obtain⟨c1,c2,_⟩:=QK (r % 36).toNat Wl;refine#[Ax.getD (r % 36).toNat 0::t,?_,?_,λc a=>?_,λk b=>?_]
   .rw[e1,aQ,eB];rfl
   .show((rF (Ax.getD (r % 36).toNat 0)+36*Wt t:Nat):Int)=r;rw[c2];lia
   .obtain rfl|a:=d3.1 a
    .exact c1
    .exact e3 c a
   .cases k with
    | zero=>
     have:r<1:=b;lia
    | succ k=>
     have:=d k (Int.ediv_lt_of_lt_mul WA (by rw[<- Int.pow_succ];exact b));rw[gv];lia
  .exact#[[],by rw[e6],by
    show((0:Nat):Int)=r;lia,λc a=>by(cases a),λk _=>fc _]
theorem vV(h0:0<=m)(h1:m<26*131621703842267136):∃c t,(qh m).cps.toList=c::t/\isLt c=true/\((rF c+26*Wt t:Nat):Int)=m/\(∀c∈t,(isLt c || gV c)=true)/\t.length<=11:=by
 obtain⟨t,e1,e2,e3,a⟩:=IV 20 (m / 26) _ Wl Wl;obtain⟨_,c2,b⟩:=QK (m % 26).toNat Wl;refine#[ _,t,e1,b Wl,?_,e3,a 11 Wl ];rw[c2];lia
theorem QL{n:Int}(h0:0<=m)(h1:m<26*131621703842267136)(k0:0<=n)(k1:n<26*131621703842267136)(h:qh m=qh n):m=n:=by
 obtain⟨c,t,e1,_,e2,_⟩:=vV h0 h1;obtain⟨d,u,g1,_,g2,_⟩:=vV k0 k1;simp_all
theorem yP{α β:Type}{f:α->β}:∀{l:List α},(∀x∈l,∀y∈l,f x=f y->x=y)->l.Nodup->(l.map f).Nodup
 | [],_,_=>.nil
 | a::l,h,n=>by
  obtain⟨n1,n2⟩:=hX.1 n;refine hX.2 #[λhm=>?_,yP (λx c y b=>h x (ee _ c) y (ee _ b)) n2];obtain⟨y,b,e⟩:=ew.1 hm;exact n1 (h y (ee _ b) a d6 e▸b)
theorem Wu(h0:0<=m)(h1:m<26*131621703842267136)(h:qh m∉og):aO (qh m)=true:=by
 obtain⟨c,t,e1,e2,_,e3,b⟩:=vV h0 h1;have a:(qh m).length=t.length+1:=by rw[<- aK,e1];rfl
 unfold aO;rw[eD Wl,eD Wl,eu ‹_›,e1];show(true&&(true&&(!false&&(isLt c&&(c::t).all _))))=true;simp_all
theorem QM{us:AT}(h0:0<=m)(h1:m+us.length+20<26*131621703842267136):aO (nX m us)=true:=by
 unfold nX;split
 .rename_i j e;obtain⟨b,h,_⟩:=List.find?_range_eq_some.1 e;have c:=gC.1 h;unfold Wo at b;simp only[et,jb,pd]at b;exact Wu Wl Wl b.2
 .rename_i e;exfalso;have i:=List.find?_eq_none.1 e;have f:(List.range (us.length+20)).map (λj:Nat=>qh (m+j)) ⊆ us++og:=λx a=>by
   obtain⟨j,c,rfl⟩:=ew.1 a;have:=i j c;unfold Wo at this;simp only[et,jb,pd,not_and,Classical.not_not]at this;by_cases z:qh (m+j)∈us
   .exact ft _ z
   .exact eL _ (this z)
  have g:((List.range (us.length+20)).map (λj:Nat=>qh (m+j))).Nodup:=yP (λx a y d e=>by
   have:=gC.1 a;have:=gC.1 d;have:=QL (m:=m+x) (n:=m+y) Wl Wl Wl Wl e;lia) List.nodup_range
  have:=g.length_le_of_subset f;rw[d4,gx,fv]at this;have e:og.length=19:=rfl;lia
structure LT where
 n0:Str
 md:Str
 n2:Str
 f:Int
 a:Int
 c:Int
structure z3(p:LT):Prop where
 n0:aO p.n0=true
 md:aO p.md=true
 n2:aO p.n2=true
 f:p.f.natAbs<10 ^ 30
 a:p.a=-1\/p.a=0
 c:p.c.natAbs<10 ^ 30
def x7(n:Str)(a c:Int):Str:=if a=-1 then sI c else if c=0 then n else n++BQ c++sI (c.natAbs:Int)
def LT.tt(p:LT):Str:=x7 p.n0 p.a p.c
def LT.ws(p:LT):Nat->AT
 | 0=>["box",p.n0,sI p.f]
 | 1=>["leaf",p.md]
 | 2=>["in","put",p.n0,p.tt]
 | _=>["out","call",p.n2]
def LT.rest(p:LT)(i:Nat):Str:=Str.join " " (p.ws i)
def LT.line(p:LT)(i:Nat):Str:=if i<2 then p.rest i else " " ++ p.rest i
def gO(k:Int):BQ k=#[(List.toArray [if 0<k then 43 else 45])]:=by
 unfold BQ;split<;>decide +kernel
theorem QN{p:LT}(h:z3 p):∀c∈p.tt.cps.toList,33<=c:=by
 intro c a;have d:=(eW h.n0).2.2.2;have b:=mQ;unfold LT.tt x7 at a;split at a
 .have:=b p.c c a;lia
 split at a
 .have:=d c a;lia
 .rw[gO,aQ,aQ]at a;obtain a|a:=eg.1 a
  .obtain a|a:=eg.1 a
   .have:=d c a;lia
   .have:=eC.1 a;lia
  .have:=b _ c a;lia
theorem aeL{p:LT}(h:z3 p):∀i,∀w∈p.ws i,∀c∈w.cps.toList,33<=c:=by
 have lit:∀w∈(["box","leaf","in","put","out","call"]:AT),∀c∈w.cps.toList,33<=c:=by decide +kernel
 have nm:∀{x:Str},aO x=true->∀c∈x.cps.toList,33<=c:=λd c a=>by
  have:=(eW d).2.2.2 c a;lia
 have b:∀c∈(sI p.f).cps.toList,33<=c:=λc a=>by
  have:=mQ p.f c a;lia
 intro i
 match i with
 | 0=>
  intro w hw;simp only[LT.ws,d3,eA,fb]at hw;obtain rfl|rfl|rfl:=hw
  .exact lit _ Wp
  .exact nm h.n0
  .exact b
 | 1=>
  intro w hw;simp only[LT.ws,d3,eA,fb]at hw;obtain rfl|rfl:=hw
  .exact lit _ Wp
  .exact nm h.md
 | 2=>
  intro w hw;simp only[LT.ws,d3,eA,fb]at hw;obtain rfl|rfl|rfl|rfl:=hw
  .exact lit _ Wp
  .exact lit _ Wp
  .exact nm h.n0
  .exact QN h
 | _+3=>
  intro w hw;simp only[LT.ws,d3,eA,fb]at hw;obtain rfl|rfl|rfl:=hw
  .exact lit _ Wp
  .exact lit _ Wp
  .exact nm h.n2
def g9:(" ":Str)=#[(List.toArray [32])]:=by decide +kernel
def vW:("\n":Str)=#[(List.toArray [10])]:=by decide +kernel
theorem vX{c:Nat}:∀{l:AT} {d:Nat},d∈(Str.join #[(List.toArray [c])] l).cps.toList->d=c\/∃w∈l,d∈w.cps.toList
 | [],d,h=>by
  cases h
 | [a],d,h=>.inr #[a,d6,h]
 | a::e::l,d,h=>by
  rw[fH]at h;obtain h|h:=eg.1 h
  .exact .inr #[a,d6,h]
  .obtain h|h:=d3.1 h
   .exact .inl h
   .obtain h|⟨w,hw,hd⟩:=vX h
    .exact .inl h
    .exact .inr #[w,ee _ hw,hd]
theorem vY{c:Nat}{n:Nat}:∀{l:AT},(∀w∈l,w.length<=n)->(Str.join #[(List.toArray [c])] l).length<=l.length*(n+1)
 | [],_=>fc _
 | [a],h=>by
  have:=h a d6;show a.length<=1*(n+1);lia
 | a::e::l,h=>by
  have h1:=h a WE;have b:=vY (c:=c) λw hw=>h w (ee _ hw);have e3:(Str.join #[(List.toArray [c])] (a::e::l)).length=a.length+1+(Str.join #[(List.toArray [c])] (e::l)).length:=by
   show((a++(#[(List.toArray [c])]))++Str.join _ _).length=_;rw[str_len,str_len];rfl
  rw[e3,gv];lia
theorem sz{n:Nat}(h:n<=10000):n<=sizeLine:=by rw[fA];lia
def fJ{x:Str}(h:aO x=true):¬ x="":=λz=>by
 subst z;exact absurd (eW h).1 WA
theorem IW{x:Str}(h:aO x=true){c:Nat}(a:c<48):c∉x.cps.toList:=λz=>by
 have:=(eW h).2.2.2 c z;lia
theorem Up(m:Nat){c:Nat}(a:c<48):c∉(sI (m:Int)).cps.toList:=λz=>by
 have:=oV m c z;lia
noncomputable def bu:AT:=["leaf","one","all"]
def yQ(y a c:Str)(l:AT):Str.join y (a::c::l)=a++y++Str.join y (c::l):=rfl
theorem qm(n:Nat):(Txt.mul " " (n:Int)).cps.toList=List.replicate n 32:=by
 have:∀(k:Nat) (a:Array Nat),((List.replicate k (" ":Str).cps).foldl _ a).toList=a.toList++List.replicate k 32:=λk=>by
  induction k with
  | zero=>simp
  | succ k b=>
   intro a;rw[List.replicate_succ,ip,b,Array.toList_append,eB];rfl
 unfold Txt.mul;split
 .have:n=0:=by lia
  subst this;rfl
 split
 .rename_i h;have:n=1:=by
   rw[show((" ":Str).length==0)=false from rfl,Bool.or_false,hI]at h;lia
  subst this;rfl
 simp_all
theorem QO{n:Nat}{l:Cc}(h:l.head? ≠ some 32):(List.replicate n 32++l).takeWhile (λc=>(" ":Str).cps.contains c)=List.replicate n 32:=by
 have e:(" ":Str).cps=(List.toArray [32]):=rfl
 induction n with
 | zero=>
  simp;cases l with
  | nil=>rfl
  | cons c l=>
   rw[List.takeWhile_cons_of_neg WF]
 | succ n a=>
  rw[List.replicate_succ,g4,List.takeWhile_cons_of_pos WF,a]
theorem yR{n:Nat}{x:Str}(h:x.cps.toList.head? ≠ some 32):Txt.lstripChars (Txt.mul " " (n:Int)++x) " " = x:=eN (by
 have ec:(Txt.mul " " n++x).cps.toList=List.replicate n 32++x.cps.toList:=by rw[aQ,qm]
 refine(mP (n:=n) ?_ ?_).trans ?_
 .rw[ec,QO h,List.take_left' iw]
 .rw[ec,fv,iw];lia
 .rw[ec,List.drop_left' iw])
def dW(bn:AT)(d:L3.D):AT:=if (b8 d 0).toS="call" then ["call",(b8 d 1).toS] else [(b8 d 0).toS,if (b8 d 0).toS="put" then bn.getD (b8 d 1).Cq.toNat Str.empty else(b8 d 1).toS,C2 bn (b8 d 2)]
def aW(bn ns:AT)(d:L3.D):AT:=if d.cnt=2 then [(b8 d 0).toS,ns.getD (b8 d 1).Cq.toNat Str.empty] else [C2 bn (b8 d 1),(b8 d 0).toS,C2 bn (b8 d 2)]
def tC(bn:AT)(d:L3.D):L3.D:=.tup [.str (if (b8 d 0).Cq=-1 then "" else bn.getD (b8 d 0).Cq.toNat Str.empty),b8 d 1]
abbrev _root_.CI:=List AT
def lk(f g:Str):CI->CI
 | []=>[]
 | t::r=>(f::t)::r.map (g::·)
def yl(ns:AT)(w:WY):CI:=if w.tg=-1 then [] else [("to":Str)::ns.getD w.tg.toNat Str.empty::y6 w]
def wP(bn ns:AT)(w:WY):CI:=["on",w.sg]::(lk "if" "and" (w.qs.map (aW bn ns))++lk "do" "then" (w.ds.map (dW bn))++yl ns w)
inductive RW
 | bx (n:Str) (k:Int)
 | md (n:Nat) (k x st:Str) (z:Int)
 | io (n:Nat) (w:Str) (d:L3.D)
 | wy (n:Nat) (w:WY)
def RW.bl:RW->Nat
 | .bx _ _=>0
 | .md n _ _ _ _=>n
 | .io n _ _=>n+1
 | .wy n _=>n+1
def RW.word:RW->Str
 | .bx _ _=>"box"
 | .md _ k _ _ _=>k
 | .io _ w _=>w
 | .wy _ _=>"on"
def RW.ws(bn ns:AT):RW->AT
 | .bx n k=>["box",n,sI k]
 | .md _ k x st _=>k::x::if st="" then [] else [st]
 | .io _ w d=>w::dW bn d
 | .wy _ w=>(wP bn ns w).flatten
def RW.rest(bn ns:AT)(r:RW):Str:=Str.join " " (r.ws bn ns)
def RW.line(bn ns:AT)(r:RW):Str:=Txt.mul " " (r.bl:Nat)++r.rest bn ns
def RW.cn:RW->L3.D
 | .bx n k=>.tup [.str n,.int k]
 | .md _ _ x _ z=>.tup [.str x,.int z]
 | .io _ _ d=>d
 | .wy _ w=>.tup [.str w.sg,.tup w.qs,.tup w.ds,.int w.tg,.str w.md]
def RW.nf(i:Int)(r:RW):L3.D:=.tup [.int i,.int r.bl,.str r.word,r.cn]
abbrev _root_.Do:=List RW
def CH.mr(c:CH)(m:Nat):Do:=.md (dM c.es m).length (c.ks.getD m Str.empty) (c.ns.getD m Str.empty) (if c.ks.getD m Str.empty="one" then c.ns.getD (c.ss.getD m 0).toNat Str.empty else "") (c.ss.getD m 0) ::
 ((c.is.getD m []).map (.io (dM c.es m).length "in")++(c.os.getD m []).map (.io (dM c.es m).length "out")++(c.ws.filter λw=>decide (w.src=(m:Int))).map (.wy (dM c.es m).length))
noncomputable def CH.br(c:CH):Do:=c.bs.map λp=>.bx p.1 p.2
def CH.rows(c:CH):Do:=c.br++(List.range c.es.length).flatMap c.mr
def FR(l:AT):Prop:=∀x∈l,aO x=true
def N1(nb:Nat)(d:L3.D):Prop:=(∃n:Str,d=.tup [.str "call",.str n]/\aO n=true)\/(∃(k:Int) (t:L3.D),d=.tup [.str "put",.int k,t]/\(0<=k/\k<nb)/\vQ nb t)\/(∃(n:Str) (t:L3.D),d=.tup [.str "say",.str n,t]/\aO n=true/\vQ nb t)
structure xl(nb nm:Nat)(w:WY):Prop where
 l:w.qs.length+w.ds.length<=40
 q:∀d∈w.qs,IJ nb nm d
 d:∀d∈w.ds,N1 nb d
 s:aO w.sg=true
 t:w.tg=-1/\w.md="new" \/ (0<=w.tg/\w.tg<nm)/\w.md∈(["new","near","far"]:AT)
def RW.Ok(bn ns:AT):RW->Prop
 | .bx n k=>aO n=true/\k.natAbs<10 ^ 30
 | .md n k x st z=>n<=50/\k∈bu/\aO x=true/\((k="one" /\ (0<=z/\z<ns.length)/\st=ns.getD z.toNat Str.empty)\/(k≠"one" /\ st="" /\ z=-1))
 | .io n w d=>n<=50/\w∈(["in","out"]:AT)/\N1 bn.length d
 | .wy n w=>n<=50/\xl bn.length ns.length w
def Wv(bn:AT)(n:Str):dW bn (.tup [.str "call",.str n])=[("call":Str),n]:=di rfl
def Uo(bn:AT)(k:Int)(t:L3.D):dW bn (.tup [.str "put",.int k,t])=[("put":Str),bn.getD k.toNat Str.empty,C2 bn t]:=rfl
def T2(bn:AT)(n:Str)(t:L3.D):dW bn (.tup [.str "say",.str n,t])=[("say":Str),n,C2 bn t]:=rfl
variable{f g:Str}{p:AT}
theorem jt{l:CI}(h:p∈lk f g l):∃x∈l,p=f::x\/p=g::x:=by
 cases l with
 | nil=>cases h
 | cons t r=>
  obtain rfl|h:=d3.1 h
  .exact#[t,d6,.inl rfl]
  .obtain⟨x,a,rfl⟩:=ew.1 h;exact#[x,ee _ a,.inr rfl]
theorem T1(f g:Str)(l:CI):(lk f g l).length=l.length:=by
 cases l with
 | nil=>rfl
 | cons t r=>rw[lk,gv,d4,gv]
theorem QS{l:CI}(h:∀p∈l,p.length<=4):l.flatten.length<=l.length*4:=by
 induction l with
 | nil=>exact fc _
 | cons p l b=>
  have a:=h p d6;have c:=b λq d=>h q (ee _ d);rw[List.flatten_cons,fv,gv];lia
theorem rS{c:Nat}(h:l≠[])(hf:∀p∈l,c∉p.cps.toList):Txt.split (Str.join #[(List.toArray [c])] l) #[(List.toArray [c])]=l:=by
 refine C3 ?_ h (StrLaws.split_free _ c) hf (by rw[nC]);unfold Txt.split;split
 .exact hq _ _
 split
 .exact hq _ _
 .intro z;have:=length_partsBetween (Str.join #[(List.toArray [c])] l) (Builtin.Str.occurrences (Str.join #[(List.toArray [c])] l) #[(List.toArray [c])] 0 (Str.join #[(List.toArray [c])] l).length ((Str.join #[(List.toArray [c])] l).length+1)) (#[(List.toArray [c])]:Str).length;simp_all
noncomputable def YH(l:AT)(z:Int):Str:=if z=-1 then "" else l.getD z.toNat Str.empty
def uW{l:BB}{C:L3.D->L3.D}(h:∀d∈l,(C d).j6=true):D.bP (l.map C)=true:=gG λd hd=>by
 obtain⟨x,a,rfl⟩:=ew.1 hd;exact h x a
variable{bn ns:AT}{r:RW}
theorem uv(h:r.Ok bn ns):r.cn.j6=true:=by
 cases r with
 | bx n k=>rfl
 | md n k x st z=>rfl
 | io n w d=>
  obtain⟨x,rfl,_⟩|⟨k,t,rfl,_,⟨_,_,rfl,_⟩⟩|⟨x,t,rfl,_,⟨_,_,rfl,_⟩⟩:=h.2.2<;>rfl
 | wy n w=>
  have a:=gG λq b=>by
   obtain⟨x,k,rfl,_⟩|⟨x,s,t,rfl,_,⟨_,_,rfl,_⟩,⟨_,_,rfl,_⟩⟩:=h.2.q q b<;>rfl
  have c:=gG λq b=>by
   obtain⟨x,rfl,_⟩|⟨k,t,rfl,_,⟨_,_,rfl,_⟩⟩|⟨x,t,rfl,_,⟨_,_,rfl,_⟩⟩:=h.2.d q b<;>rfl
  show(true&&(D.bP _&&(D.bP _&&(true&&(true&&true)))))=true;simp_all
theorem C5{n:Str}{c:Int}(a:aO n=true)(b:¬ c=0):45∈(n++BQ c++sI (c.natAbs:Int)).cps.toList↔c<0:=by
 rw[aQ,aQ,eg,eg,gO];constructor
 .intro q;obtain(q|q)|q:=q
  .exact absurd q (IW a WA)
  .have:=eC.1 q;lia
  .exact absurd q (Up _ WA)
 .intro q;refine .inl (.inr (eC.2 ?_));rw[cq Wl]
noncomputable def FG:Ee:=[("on",["if","do","to"]),("if",["and","do","to"]),("and",["and","do","to"]),("do",["then","to"]),("then",["then","to"]),("to",[])]
noncomputable def fk:AT:=["on","if","and","do","then","to"]
theorem IX{x:Str}:∀(l:Ee),(l.lookup x).isSome=decide (x∈l.map (·.1))
 | []=>rfl
 | (y,v)::l=>by
  rw[hu,eJ];by_cases h:x=y
  .subst h;rw[beq_self_eq_true,eD (d6)];rfl
  .rw[jl.2 h];rw[IX l];apply nv.2;rw[d3];exact#[.inr,λz=>z.resolve_left h]
def QT(x:Str):(FG.lookup x).isSome=decide (x∈fk):=IX FG
def pS(l:CI)(x:Str):CI:=if x∈fk then l++[[x]] else l.set (l.length-1) (l.getD (l.length-1) []++[x])
def xy(p:AT):Prop:=∃f l,p=f::l/\f∈fk/\∀x∈l,x∉fk
theorem IY:∀(l:AT) (ps:CI) (a:AT),(∀x∈l,x∉fk)->l.foldl pS (ps++[a])=ps++[a++l]
 | [],ps,a,_=>by simp
 | x::l,ps,a,h=>by
  have e:pS (ps++[a]) x=ps++[a++[x]]:=by
   unfold pS;simp_all
  rw[ip,e,IY l ps _ λy b=>h y (ee _ b),eB];rfl
theorem QV:∀(ps qs:CI),(∀p∈ps,xy p)->ps.flatten.foldl pS qs=qs++ps
 | [],qs,_=>by simp
 | p::ps,qs,h=>by
  obtain⟨f,l,rfl,hf,b⟩:=h p d6;simp;have e:pS qs f=qs++[[f]]:=di hf;rw[e,IY l qs [f] b,QV ps _ λq a=>h q (ee _ a),eB];rfl
theorem TZ(l:CI)(x:Str):l.length<=(pS l x).length/\(pS l x).length<=l.length+1:=by
 unfold pS;split
 .rw[fv,hV];lia
 .rw[nT];lia
theorem AJ:∀(ws:AT) (l:CI),l.length<=(ws.foldl pS l).length/\(ws.foldl pS l).length<=l.length+ws.length
 | [],l=>by simp
 | x::ws,l=>by
  have a:=TZ l x;have c:=AJ ws (pS l x);simp;lia
theorem QW:∀(ws:AT) (l:CI) (n:Nat),(∀p∈l,p.length<=n)->∀p∈ws.foldl pS l,p.length<=n+ws.length
 | [],l,n,h=>h
 | x::ws,l,n,h=>λp hp=>by
  have:=QW ws _ _ (λq a=>by
   unfold pS at a;split at a
   .obtain a|a:=eg.1 a
    .exact l2 (h q a)
    simp_all
   .obtain a|rfl:=v3 a
    .exact l2 (h q a)
    .rw[fv,eM];cases e:l[l.length-1]? with
     | none=>exact Nat.le_add_left _ _
     | some y=>exact oP (h y (fw e))) p hp
  grind
theorem YJ{x:Str}{c:Nat}(h:c∈x.cps.toList)(a:c<97):x∉fk:=λz=>by
 have:∀y∈fk,∀c∈y.cps.toList,97<=c:=by decide +kernel
 have:=this x z c h;lia
def vZ{x:Str}(h:aO x=true):x∉fk:=λz=>by
 have e:∀y∈fk,aO y=false:=by decide +kernel
 rw[e x z]at h;cases h
noncomputable def gT(p:AT):Str:=p.getD 0 Str.empty
def iS(x:Str):AT:=(FG.lookup x).getD []
def xV:Str->AT->Prop
 | _,[]=>True
 | x,y::l=>y∈iS x/\xV y l
theorem IZ{f g:Str}{t:AT}(hf:g∈iS f)(b:g∈iS g)(a:∀x∈([f,g]:AT),xV x t):∀k,xV f (List.replicate k g++t)
 | 0=>a f WE
 | k+1=>#[hf,IZ b b (λx c=>a x WF) k]
theorem QX(f g:Str)(l:CI):(lk f g l).map gT=if l=[] then [] else f::List.replicate (l.length-1) g:=by
 cases l with
 | nil=>rfl
 | cons t r=>
  rw[lk,eJ,eI];show f::r.map (λ_=>g)=_;rw[List.map_const'];rfl
def QY{l:CI}{t:AT}{x:Str}(h0:xV x t)(a:f∈iS x)(hf:g∈iS f)(c:g∈iS g)(b:∀y∈([f,g]:AT),xV y t):xV x ((lk f g l).map gT++t):=by
 rw[QX];split
 .exact h0
 .exact#[a,IZ hf c b _]
def jc{q:Str->Bool}{z:Bool}(hf:q f=z)(a:q g=z)(l:CI):(lk f g l).filter (λp=>q (gT p))=if z then lk f g l else []:=by
 have:∀p∈lk f g l,q (gT p)=z:=λp hp=>by
  obtain⟨x,_,rfl|rfl⟩:=jt hp
  .exact hf
  .exact a
 cases z with
 | true=>exact List.filter_eq_self.2 this
 | false=>exact nr.2 λp hp=>this p hp▸fg
theorem qp(f g:Str)(l:CI):(lk f g l).map List.tail=l:=by
 cases l with
 | nil=>rfl
 | cons t r=>
  rw[lk,eJ,eI];show t::r.map (λx=>x)=_;rw[List.map_id']
structure Ww(c:CH):Prop where
 pre:kG c.es
 kinds:∀m:Nat,m<c.es.length->c.ks.getD m Str.empty∈(["leaf","one","all"]:AT)
def CH.tO(c:CH):BB:=(List.range c.rows.length).map λi=>(c.rows.getD i (.bx "" 0)).nf ((i:Nat)+1:Int)
def xW(es:BN):BN:=(List.range es.length).map λ(m:Nat)=>((dM es m).length:Int)
noncomputable def fK:DO:=[("leaf",0),("one",0),("all",0),("in",1),("out",2),("on",3)]
def yA(pw:Str)(mb:Int):RW->Prop
 | .bx _ _=>mb=-1
 | .md n k _ _ _=>k∈bu/\((mb=-1/\n=0)\/(mb ≠ -1/\1<=n/\(n:Int)<=mb+1))
 | .io n w _=>w∈(["in","out"]:AT)/\mb ≠ -1/\(n:Int)=mb/\∃a c,fK.lookup pw=some a/\fK.lookup w=some c/\a<=c
 | .wy n _=>mb ≠ -1/\(n:Int)=mb/\∃a,fK.lookup pw=some a/\a<=3
def rv(m:Int):RW->Int
 | .md n _ _ _ _=>n
 | _=>m
def C6:Str->Int->Do->Prop
 | _,_,[]=>True
 | pw,mb,r::l=>yA pw mb r/\C6 r.word (rv mb r) l
theorem QZ:∀{l:Do} {pw:Str} {mb:Int},C6 pw mb l->∀j r,l[j]? = some r->yA (if j=0 then pw else(l.getD (j-1) (.bx "" 0)).word) ((l.take j).foldl rv mb) r
 | a::l,pw,mb,h,0,r,e=>by
  cases e;exact h.1
 | a::l,pw,mb,h,j+1,r,e=>by
  have:=QZ h.2 j r e;cases j with
  | zero=>exact this
  | succ j=>
   exact this
theorem Q0:∀{l:DO} {pw:Str} {t:Do},(∀x,C6 x (-1) t)->C6 pw (-1) (l.map (λp=>.bx p.1 p.2)++t)
 | [],pw,t,h=>h pw
 | p::l,pw,t,h=>#[rfl,Q0 h]
theorem I0{n:Nat}{w:Str}{mb:Int}{c:Int}(hw:w∈(["in","out"]:AT))(hm:mb ≠ -1)(b:(n:Int)=mb)(a:fK.lookup w=some c):∀{l:BB} {t:Do},C6 w mb t->C6 w mb (l.map (RW.io n w)++t)
 | [],t,h=>h
 | d::l,t,h=>#[#[hw,hm,b,c,c,a,a,WE ],I0 hw hm b a h]
variable{mb:Int}{pw:Str}
theorem Q5{n:Nat}{w:Str}{a c:Int}(hw:w∈(["in","out"]:AT))(hm:mb ≠ -1)(e:(n:Int)=mb)(f:fK.lookup w=some c){l:BB}{t:Do}(g:fK.lookup pw=some a)(b:a<=c)(h1:C6 pw mb t)(h:C6 w mb t):C6 pw mb (l.map (RW.io n w)++t):=by
 cases l with
 | nil=>exact h1
 | cons d l=>exact#[#[hw,hm,e,a,c,g,f,b],I0 hw hm e f h]
theorem Q6{n:Nat}{mb:Int}(hm:mb ≠ -1)(b:(n:Int)=mb):∀{l:List WY} {pw:Str} {t:Do},(∃a,fK.lookup pw=some a/\a<=3)->(∀x,C6 x mb t)->C6 pw mb (l.map (RW.wy n)++t)
 | [],pw,t,_,h=>h pw
 | w::l,pw,t,c,h=>#[#[hm,b,c],Q6 hm b #[3,rfl,WE ] h]
theorem TU{c:CH}(h:Ww c){m:Nat}(hm:m<c.es.length){t:Do}(h1:(mb=-1/\(dM c.es m).length=0)\/(mb ≠ -1/\1<=(dM c.es m).length/\((dM c.es m).length:Int)<=mb+1))(j:∀x,C6 x ((dM c.es m).length:Int) t):C6 pw mb (c.mr m++t):=by
 have g:=(h.kinds m hm);have d:fK.lookup (c.ks.getD m Str.empty)=some 0:=by
  simp only[d3,eA,fb]at g;obtain e|e|e:=g<;>rw[e]<;>decide +kernel
 have b:((dM c.es m).length:Int) ≠ -1:=by lia
 unfold CH.mr;rw[g4,eB,eB];refine#[#[g,h1],?_];have hw:∀{pw:Str} {a:Int},fK.lookup pw=some a->a<=3->C6 pw _ ((c.ws.filter λw=>decide (w.src=(m:Int))).map _++t):=λf k=>Q6 b rfl #[_,f,k] j;have i:∀{pw:Str} {a:Int},fK.lookup pw=some a->a<=2->C6 pw _ ((c.os.getD m []).map (RW.io _ "out")++((c.ws.filter _).map _++t)):=λf l=>Q5 (c:=2) Wp b rfl Wp f l (hw f Wl) (hw (a:=2) Wp WA);exact Q5 (c:=1) Wp b rfl Wp d WA (i d WA) (i (a:=1) Wp WA)
theorem Q7(h:kG es){m:Nat}(hm:m+1<es.length):1<=(dM es ((m+1:Nat):Int)).length/\(dM es ((m+1:Nat):Int)).length<=(dM es m).length+1:=by
 have hp:=h.2 m hm;have e:=rM h.1 (m:=((m+1:Nat))) Wl Wl;rw[i1]at e;generalize es.getD _ 0=x at hp e;have a:0<=x:=by
  obtain z|z:=hp
  .lia
  .exact(Aq h.1 Wl Wl z).1
 rw[e,cq Wl,gv];obtain z|z:=hp
 .rw[z];lia
 .obtain⟨pre,ep,_⟩:=rN h.1 (m+1) Wl Wl Wl z;rw[ep,fv,gv];lia
theorem vx(h:lU es)(h0:0<es.length):es.getD 0 0=-1/\dM es ((0:Nat):Int)=[]:=by
 have a:=h.at (k:=((0:Nat))) Wl Wl;rw[i1]at a;have e:es.getD 0 0=-1:=by lia
 have:=rM h (m:=((0:Nat))) Wl Wl;rw[i1,di e]at this;exact#[e,this]
theorem C7{c:CH}(h:Ww c):∀(k m:Nat),m+k=c.es.length->∀x,C6 x (if m=0 then -1 else((dM c.es ((m-1:Nat):Int)).length:Int)) ((List.range' m k).flatMap c.mr)
 | 0,m,e,x=>trivial
 | k+1,m,e,x=>by
  rw[List.range'_succ,i0];refine TU h Wl ?_ λy=>?_
  .cases m with
   | zero=>exact .inl #[rfl,by rw[(vx h.pre.1 Wl).2];rfl]
   | succ m=>
    rw[cq WE,kx];have:=Q7 h.pre (m:=m) Wl;exact .inr #[Wl,this.1,Wl]
  .have:=C7 h k (m+1) Wl y;simp_all
def Q8{c:CH}(h:Ww c):C6 "" (-1) c.rows:=by
 have:=C7 h c.es.length 0 (Nat.zero_add _);rw[di rfl,<- List.range_eq_range']at this;exact Q0 this
noncomputable def z0:RW:=.bx "" 0
noncomputable def idx(F:Nat->RW->L3.D)(l:Do):BB:=(List.range l.length).map λi=>F i (l.getD i (.bx "" 0))
def Q9(F:Nat->RW->L3.D)(r:RW)(l:Do):idx F (r::l)=F 0 r::idx (λi=>F (i+1)) l:=by
 unfold idx;rw[gv,List.range_succ_eq_map,eJ,eI];rfl
theorem AK{p:L3.D->Bool}{p':RW->Bool}{g:L3.D->T}{g':RW->T}:∀(l:Do) (F:Nat->RW->L3.D),(∀i,∀r∈l,p (F i r)=p' r)->(∀i,∀r∈l,p' r=true->g (F i r)=g' r)->((idx F l).filter p).map g=(l.filter p').map g'
 | [],F,_,_=>rfl
 | r::l,F,h1,f=>by
  have d:=AK l _ (λi q b=>h1 (i+1) q (ee _ b)) (λi q b=>f _ q (ee _ b));have a:=h1 0 r d6;have c:=f 0 r d6;rw[Q9,List.filter_cons,List.filter_cons,a];cases e:p' r with
  | true=>rw[di rfl,di rfl,eJ,eJ,d,c e]
  | false=>rw[cq WE,cq WE,d]
theorem uw{F:Nat->RW->L3.D}{l:Do}{d:L3.D}(h:d∈idx F l):∃i r,i<l.length/\r∈l/\r=l.getD i (.bx "" 0)/\d=F i r:=by
 obtain⟨i,hi,rfl⟩:=ew.1 h;have hi:=gC.1 hi;refine#[i,_,hi,?_,rfl,rfl];simp_all
noncomputable def RW.Uq:RW->Bool
 | .bx _ _=>true
 | _=>false
def RW.Uu:RW->Bool
 | .md _ _ _ _ _=>true
 | _=>false
theorem TM(h:r.Ok bn ns):decide (r.word="box")=r.Uq:=by
 cases r with
 | bx n k=>exact eD rfl
 | md n k x st z=>
  refine eu λe=>?_;have e:k="box":=e;have:=h.2.1;rw[e]at this;exact absurd this Wp
 | io n w d=>
  refine eu λe=>?_;have e:w="box":=e;have:=h.2.1;rw[e]at this;exact absurd this Wp
 | wy n w=>exact eu (show ¬ ("on":Str)="box" by decide +kernel)
theorem AO(h:r.Ok bn ns):decide (r.word∈bu)=r.Uu:=by
 cases r with
 | bx n k=>exact eu (show ¬ ("box":Str)∈bu by decide +kernel)
 | md n k x st z=>exact eD h.2.1
 | io n w d=>
  refine eu λe=>?_;have e:w∈bu:=e;have:=h.2.1;simp at this;obtain rfl|rfl:=this<;>exact absurd e Wp
 | wy n w=>exact eu (show ¬ ("on":Str)∈bu by decide +kernel)
def CH.md(c:CH)(m:Nat):RW:=.md (dM c.es m).length (c.ks.getD m Str.empty) (c.ns.getD m Str.empty) (if c.ks.getD m Str.empty="one" then c.ns.getD (c.ss.getD m 0).toNat Str.empty else "") (c.ss.getD m 0)
def TK(c:CH):c.rows.filter RW.Uq=c.br:=by
 unfold CH.rows;rw[hF,List.filter_eq_self.2,nr.2,e6]
 .intro r a;obtain⟨m,_,a⟩:=List.mem_flatMap.1 a;obtain rfl|a:=d3.1 a
  .exact fg
  obtain a|a:=eg.1 a
  .obtain a|a:=eg.1 a
   .obtain⟨d,_,rfl⟩:=ew.1 a;exact fg
   .obtain⟨d,_,rfl⟩:=ew.1 a;exact fg
  .obtain⟨d,_,rfl⟩:=ew.1 a;exact fg
 .intro r a;obtain⟨p,_,rfl⟩:=ew.1 a;rfl
def ux{f:α->RW}{p:RW->Bool}(h:∀a,p (f a)=false)(l:List α):(l.map f).filter p=[]:=by
 rw[nr];intro r b;obtain⟨a,_,rfl⟩:=ew.1 b;rw[h];exact fg
def TC(c:CH):c.rows.filter RW.Uu=(List.range c.es.length).map c.md:=by
 unfold CH.rows;have e:c.br.filter RW.Uu=[]:=ux (λ_=>rfl) _;rw[hF,e,List.nil_append,List.filter_flatMap];have:∀m,(c.mr m).filter RW.Uu=[c.md m]:=λm=>by
  unfold CH.mr;rw[lh rfl,hF,hF,ux (λ_=>rfl),ux (λ_=>rfl),ux (λ_=>rfl)];rfl
 generalize List.range _=l
 induction l with
 | nil=>rfl
 | cons m l a=>rw[i0,a,this];rfl
theorem yS{f:Str->α}(l:AT):(List.range l.length).map (λm=>f (l.getD m Str.empty))=l.map f:=by
 refine l3 λi=>?_;rw[fT,fT];by_cases h:i<l.length
 .rw[hU h,gc h];show some (f _)=some _;rw[eM,gc h];rfl
 simp_all
def Wx(h:r.Ok bn ns):(r.nf i).j6=true:=by
 show(true&&(true&&(true&&(r.cn.j6&&true))))=true;rw[uv h];rfl
def gD(w:Str)(st:EU):RW->EU
 | .md _ _ _ _ _=>st++[[]]
 | .io _ v d=>if v=w then st.set (st.length-1) (st.getD (st.length-1) []++[d]) else st
 | _=>st
theorem Ra{w:Str}{n:Nat}:∀(l:BB) (st:EU) (a:BB),(l.map (RW.io n w)).foldl (gD w) (st++[a])=st++[a++l]
 | [],st,a=>by simp
 | d::l,st,a=>by
  have e:gD w (st++[a]) (.io n w d)=st++[a++[d]]:=by
   show(if w=w then _ else _)=_;simp
  rw[eJ,ip,e,Ra l st _,eB];rfl
theorem Rb{w v:Str}{n:Nat}(h:v≠w):∀(l:BB) (st:EU),(l.map (RW.io n v)).foldl (gD w) st=st
 | [],st=>rfl
 | d::l,st=>by
  show(l.map _).foldl _ (if v=w then _ else st)=st;exact cq h▸Rb h l st
theorem Rc{w:Str}{n:Nat}:∀(l:List WY) (st:EU),(l.map (RW.wy n)).foldl (gD w) st=st
 | [],st=>rfl
 | d::l,st=>Rc l st
theorem YK{w:Str}:∀(l:DO) (st:EU),(l.map λp=>RW.bx p.1 p.2).foldl (gD w) st=st
 | [],st=>rfl
 | d::l,st=>YK l st
noncomputable def CH.dl(c:CH)(b:Bool):EU:=if b then c.is else c.os
theorem NV(c:CH)(b:Bool)(m:Nat)(st:EU):(c.mr m).foldl (gD (if b then "in" else "out")) st=st++[(c.dl b).getD m []]:=by
 unfold CH.mr;rw[ip,hY,hY];show((c.ws.filter _).map _).foldl _ (((c.os.getD m []).map _).foldl _ (((c.is.getD m []).map _).foldl _ (st++[[]])))=_;cases b with
 | true=>
  rw[di rfl,Ra,Rb Wp,Rc];rfl
 | false=>
  rw[cq WE,Rb (v:="in") Wp,Ra,Rc];rfl
theorem Rf(c:CH)(b:Bool):∀n,((List.range n).flatMap c.mr).foldl (gD (if b then "in" else "out")) []=(List.range n).map λm=>(c.dl b).getD m []
 | 0=>rfl
 | n+1=>by
  rw[oI,kA,hY,Rf c b n,fx];rw[i0,List.flatMap_nil,e6,NV];rfl
def gW(st:BB×Int):RW->BB×Int
 | .md _ _ _ _ _=>(st.1,st.2+1)
 | .wy _ w=>(st.1++[.tup [.int st.2,.str w.sg,.tup w.qs,.tup w.ds,.int w.tg,.str w.md]],st.2)
 | _=>st
theorem Rg{v:Str}{n:Nat}:∀(l:BB) (st:BB×Int),(l.map (RW.io n v)).foldl gW st=st
 | [],st=>rfl
 | d::l,st=>Rg l st
theorem YL:∀(l:DO) (st:BB×Int),(l.map λp=>RW.bx p.1 p.2).foldl gW st=st
 | [],st=>rfl
 | d::l,st=>YL l st
theorem YM{n:Nat}{m:Int}:∀(l:List WY) (st:BB),(∀w∈l,w.src=m)->(l.map (RW.wy n)).foldl gW (st,m)=(st++l.map WY.d,m)
 | [],st,_=>by simp
 | w::l,st,h=>by
  show(l.map _).foldl gW (st++[.tup _],m)=_;rw[YM l _ λx a=>h x (ee _ a),eB,<- h w d6];rfl
theorem Rh(c:CH):∀n:Nat,((List.range n).flatMap c.mr).foldl gW ([],-1)=(((List.range n).flatMap λ(m:Nat)=>c.ws.filter λw=>decide (w.src=(m:Int))).map WY.d,(n:Int)-1)
 | 0=>rfl
 | n+1=>by
  rw[oI,kA,hY,Rh c n,kA];rw[i0,List.flatMap_nil,e6,i0];unfold CH.mr;rw[ip,hY,hY];show((c.ws.filter _).map _).foldl _ (((c.os.getD n []).map _).foldl _ (((c.is.getD n []).map _).foldl _ (_,(n:Int)-1+1)))=_;rw[Rg,Rg,show n-1+1=(n:Int) by lia,YM _ _ (λw hw=>ed (ij.1 hw).2)];simp
theorem Ja:∀(l:List WY) (n:Int),(l.Pairwise λa c=>a.src<=c.src)->(∀w∈l,w.src<=n)->l=(l.filter λw=>decide (w.src<n))++l.filter λw=>decide (w.src=n)
 | [],_,_,_=>rfl
 | w::l,n,hp,d=>by
  obtain⟨h1,f⟩:=List.pairwise_cons.1 hp;have hw:=d w d6;by_cases h:w.src<n
  .rw[lh (p:=λw:WY=>decide (w.src<n)) (eD h),hP Wl,g4,<- Ja l n f λx b=>d x (ee _ b)]
  .have e:w.src=n:=by lia
   have a:(w::l).filter (λw=>decide (w.src<n))=[]:=nr.2 λx b z=>by
    have z:=ed z;obtain rfl|b:=d3.1 b
    .exact h z
    .have:=h1 x b;lia
   have c:(w::l).filter (λw=>decide (w.src=n))=w::l:=List.filter_eq_self.2 λx b=>eD (by
    obtain rfl|b:=d3.1 b
    .exact e
    .have:=h1 x b;have:=d x (ee _ b);lia)
   rw[a,c];rfl
theorem C8:∀(n:Nat) (l:List WY),(l.Pairwise λa c=>a.src<=c.src)->(∀w∈l,0<=w.src/\w.src<n)->((List.range n).flatMap λ(m:Nat)=>l.filter λw=>decide (w.src=(m:Int)))=l
 | 0,l,_,b=>by
  cases l with
  | nil=>rfl
  | cons w l=>
   have:=b w d6;lia
 | n+1,l,hp,b=>by
  have e:=Ja l n hp λw hw=>by
   have:=b w hw;lia
  have g:=C8 n _ (hp.filter _) λw hw=>by
   obtain⟨h1,i⟩:=ij.1 hw;exact#[(b w h1).1,ed i]
  rw[oI,kA,i0,List.flatMap_nil,e6];refine Eq.trans (congrArg (· ++ _) ?_) e.symm;refine Eq.trans ?_ g;have go:∀r:Cc,(∀m∈r,m<n)->(r.flatMap λ(m:Nat)=>l.filter λw=>decide (w.src=(m:Int)))=r.flatMap λ(m:Nat)=>(l.filter λw=>decide (w.src<(n:Int))).filter λw=>decide (w.src=(m:Int)):=λr f=>by
   induction r with
   | nil=>rfl
   | cons m r d=>
    rw[i0,i0,d λx h=>f x (ee _ h),List.filter_filter];congr 1;refine List.filter_congr λw _=>?_;have:=f m d6;by_cases z:w.src=(m:Int)
    .rw[eD z,eD Wl];rfl
    .rw[eu z];rfl
  exact go _ λm hm=>gC.1 hm
theorem Ri{w:Str}:∀(l:Do) (mb:Int) (st:EU),(mb ≠ -1->0<st.length)->l.foldl rv mb ≠ -1->0<(l.foldl (gD w) st).length
 | [],mb,st,h,z=>h z
 | r::l,mb,st,h,z=>by
  refine Ri l _ _ ?_ z;cases r with
  | md n k x a y=>
   intro _;show 0<(st++[[]]).length;simp
  | bx n k=>exact h
  | wy n v=>exact h
  | io n v d=>
   intro q;have:=h q;show 0<(if v=w then _ else st).length;split
   .rw[nT];exact this
   .exact this
theorem FH{w:Str}:∀(l:Do) (st:EU),(l.foldl (gD w) st).length<=st.length+l.length
 | [],st=>ea _
 | r::l,st=>by
  have:=FH (w:=w) l (gD w st r);have e:(gD w st r).length<=st.length+1:=by
   cases r with
   | md n k x a y=>
    show(st++[[]]).length<=_;simp
   | bx n k=>exact h7 _
   | wy n v=>exact h7 _
   | io n v d=>
    show(if v=w then _ else st).length<=_;split
    .rw[nT];simp
    simp
  simp;lia
theorem Rj{w:Str}:∀(l:Do) (st:EU) (n:Nat),(∀p∈st,p.length<=n)->∀p∈l.foldl (gD w) st,p.length<=n+l.length
 | [],st,n,h=>h
 | r::l,st,n,h=>λp hp=>by
  have:=Rj l _ _ (λq a=>by
   cases r with
   | bx _ _=>exact l2 (h q a)
   | wy _ _=>exact l2 (h q a)
   | md _ _ _ _ _=>
    obtain a|a:=eg.1 a
    .exact l2 (h q a)
    simp_all
   | io _ v d=>
    have a:q∈(if v=w then st.set _ _ else st):=a;split at a
    .obtain a|rfl:=v3 a
     .exact l2 (h q a)
     .rw[fv,eM];cases e:st[st.length-1]? with
      | none=>exact Nat.le_add_left _ _
      | some y=>exact oP (h y (fw e))
    .exact l2 (h q a)) p hp
  grind
noncomputable def tT(l:BB):T:=.lst (l.map T.sh)
def Wy(l:EU):T.d7 (.lst (l.map tT))=.lst (l.map .lst):=by
 rw[T.d7];congr 1
 induction l with
 | nil=>rfl
 | cons p l a=>
  rw[eJ,T.dO,a,eJ];congr 1;exact cC _
noncomputable def Lk:L3.D->BB
 | .lst ds=>ds
 | _=>[]
variable{nb:Nat}
def FI{d:L3.D}(h:N1 nb d):d.j6=true:=by
 obtain⟨x,rfl,_⟩|⟨k,t,rfl,_,⟨_,_,rfl,_⟩⟩|⟨x,t,rfl,_,⟨_,_,rfl,_⟩⟩:=h<;>rfl
theorem FJ:∀(l:Do) (st:BB×Int),(l.foldl gW st).1.length<=st.1.length+l.length
 | [],st=>ea _
 | r::l,st=>by
  have:=FJ l (gW st r);have e:(gW st r).1.length<=st.1.length+1:=by
   cases r with
   | md n k x a y=>exact h7 _
   | bx n k=>exact h7 _
   | io n v d=>exact h7 _
   | wy n v=>
    show(st.1++[_]).length<=_;simp
  simp;lia
noncomputable def Rk:AT->EO
 | []=>[]
 | x::r=>if x∈r then Rk r else Rk r++[((.inr x:Key),L3.D.int r.length)]
def AQ(l:AT):EO:=Rk l.reverse
noncomputable def pz(l:AT)(x:Str):Int:=if x="" then -1 else(l.idxOf x:Nat)
noncomputable def pk(l:AT)(x:Str):Bool:=decide (x="") || decide (x∈l)
def Rm(a c:EO)(k:Key):jE (a++c) k=(jE a k).or (jE c k):=by
 unfold jE;rw[List.find?_append];cases a.find? _<;>rfl
theorem Jb(x:Str):∀r:AT,jE (Rk r) (.inr x)=if x∈r then some (.int (r.reverse.idxOf x:Nat)) else none
 | []=>rfl
 | y::r=>by
  have b:=Jb x r;unfold Rk;rw[nz];by_cases c:y∈r
  .rw[di c,b];by_cases a:x∈r
   .rw[di a,di (ee _ a),List.idxOf_append,di (List.mem_reverse.2 a)]
   .rw[cq a,cq λz=>?_];simp_all
  .rw[cq c,Rm,b];by_cases a:x∈r
   .rw[di a,di (ee _ a),List.idxOf_append,di (List.mem_reverse.2 a)];rfl
   .rw[cq a];by_cases e:x=y
    .subst e;rw[di d6,List.idxOf_append,cq (λz=>a (List.mem_reverse.1 z))];unfold jE;simp
    .rw[cq _]
     .unfold jE;rw[List.find?_cons_of_neg (by simpa using λz:y=x=>e z.symm)];rfl
     simp_all
def AU(l:AT)(x:Str):jE (AQ l) (.inr x)=if x∈l then some (.int (l.idxOf x:Nat)) else none:=by simp[AQ,Jb]
def Rn(l:AT)(x:Str):AQ (l++[x])=if x∈l then AQ l else AQ l++[((.inr x:Key),L3.D.int l.length)]:=by
 unfold AQ;rw[List.reverse_append];show Rk (x::l.reverse)=_;rw[Rk];simp
theorem Jc:∀r:AT,(Rk r).length<=r.length
 | []=>ea _
 | x::r=>by
  have:=Jc r;unfold Rk;split
  .simp;lia
  simp_all
def Wz(l:AT):(AQ l).length<=l.length:=by
 have:=Jc l.reverse
 rwa [sx]at this
theorem FL:∀r:AT,∀p∈Rk r,∃n:Nat,p.2=.int n
 | [],_,h=>by cases h
 | x::r,p,h=>by
  unfold Rk at h;split at h
  .exact FL r p h
  .obtain h|h:=eg.1 h
   .exact FL r p h
   .rw[eC.1 h];exact#[ _,rfl]
inductive ia
 | call (n:Str)
 | put (b n:Str) (k:Int)
 | say (x n:Str) (k:Int)
def YN(n:Str)(k:Int):L3.D:=.tup [.str n,.int k]
def WB(l:AT)(n:Str)(k:Int):L3.D:=.tup [.int (pz l n),.int k]
def ia.d:ia->L3.D
 | .call n=>.tup [.str "call",.str n]
 | .put b n k=>.tup [.str "put",.str b,YN n k]
 | .say x n k=>.tup [.str "say",.str x,YN n k]
def ia.ok(l:AT):ia->Bool
 | .call _=>true
 | .put b n _=>pk l b&&pk l n
 | .say _ n _=>pk l n
def ia.n(l:AT):ia->L3.D
 | .call n=>.tup [.str "call",.str n]
 | .put b n k=>.tup [.str "put",.int (pz l b),WB l n k]
 | .say x n k=>.tup [.str "say",.str x,WB l n k]
inductive ic
 | i6 (w x:Str)
 | num (w n:Str) (k:Int) (n2:Str) (k2:Int)
def ic.d:ic->L3.D
 | .i6 w x=>.tup [.str w,.str x]
 | .num w n k n2 k2=>.tup [.str w,YN n k,YN n2 k2]
def ic.Ok:ic->Prop
 | .i6 w _=>w∈(["open","shut"]:AT)
 | .num w _ _ _ _=>w∉(["open","shut"]:AT)
def ic.ok(bs ms:AT):ic->Bool
 | .i6 _ x=>pk ms x
 | .num _ n _ n2 _=>pk bs n&&pk bs n2
def ic.n(bs ms:AT):ic->L3.D
 | .i6 w x=>.tup [.str w,.int (pz ms x)]
 | .num w n k n2 k2=>.tup [.str w,WB bs n k,WB bs n2 k2]
structure lu where
 sg:Str
 as:List ic
 ds:List ia
 tg:Str
 md:Str
def lu.d(w:lu):L3.D:=.tup [.str w.sg,.lst (w.as.map ic.d),.lst (w.ds.map ia.d),.str w.tg,.str w.md]
def lu.ok(bs ms:AT)(w:lu):Bool:=w.as.all (ic.ok bs ms)&&(w.ds.all (ia.ok bs)&&pk ms w.tg)
def lu.n(bs ms:AT)(w:lu):L3.D:=.tup [.str w.sg,.tup (w.as.map (ic.n bs ms)),.tup (w.ds.map (ia.n bs)),.int (pz ms w.tg),.str w.md]
structure lu.Ok(w:lu):Prop where
 a:∀q∈w.as,q.Ok
 al:w.as.length<=1000
 dl:w.ds.length<=1000
inductive gP
 | bx (n:Str) (k:Int)
 | md (w x st:Str)
 | dd (w:Str) (d:ia)
 | wy (w:lu)
structure dQ where
 r:Int
 bl:Nat
 c:gP
def gP.w:gP->Str
 | .bx _ _=>"box"
 | .md w _ _=>w
 | .dd w _=>w
 | .wy _=>"on"
def gP.d:gP->L3.D
 | .bx n k=>.tup [.str n,.int k]
 | .md _ x st=>.tup [.str x,.str st]
 | .dd _ d=>d.d
 | .wy w=>w.d
def gP.ok(bs ms:AT):gP->Bool
 | .bx _ _=>true
 | .md _ _ st=>pk ms st
 | .dd _ d=>d.ok bs
 | .wy w=>w.ok bs ms
def gP.n(bs ms:AT):gP->L3.D
 | .bx n k=>.tup [.str n,.int k]
 | .md _ x st=>.tup [.str x,.int (pz ms st)]
 | .dd _ d=>d.n bs
 | .wy w=>w.n bs ms
def gP.Ok:gP->Prop
 | .bx _ _=>True
 | .md w _ _=>w∈bu
 | .dd w _=>w∈(["in","out"]:AT)
 | .wy w=>w.Ok
def dQ.d(q:dQ):L3.D:=.tup [.int q.r,.int q.bl,.str q.c.w,q.c.d]
def dQ.n(bs ms:AT)(q:dQ):L3.D:=.tup [.int q.r,.int q.bl,.str q.c.w,q.c.n bs ms]
def qq(l:AT)(d:ia):(d.n l).j6=true:=by cases d<;>rfl
def AV(bs ms:AT)(a:ic):(a.n bs ms).j6=true:=by cases a<;>rfl
def Jd(bs ms:AT)(w:lu):(w.n bs ms).j6=true:=by
 have h1:D.bP (w.as.map _)=true:=b9 (AV bs ms) _;have a:D.bP (w.ds.map _)=true:=b9 (qq bs) _;show(true&&(D.bP _&&(D.bP _&&(true&&(true&&true)))))=true;rw[h1,a];rfl
theorem WC(bs ms:AT)(c:gP):(c.n bs ms).j6=true:=by
 cases c with
 | bx=>rfl
 | md=>rfl
 | dd w d=>exact qq bs d
 | wy w=>exact Jd bs ms w
open Classical in
def inv[Inhabited α](f:α->L3.D)(d:L3.D):α:=if h:∃a,f a=d then h.choose else default
def AW[Inhabited α]{f:α->L3.D}(i:∀a c,f a=f c->a=c)(a:α):inv f (f a)=a:=by
 unfold inv;have h:∃c,f c=f a:=#[a,rfl];rw[dif_pos h];exact i _ _ h.choose_spec
def Je[Inhabited α]{f:α->L3.D}(i:∀a c,f a=f c->a=c){p:α->Bool}{l:List α}(h:∀d∈l.map f,true=true->p (inv f d)=true):l.all p=true:=fR.2 λa b=>by
 have:=h _ (ew.2 #[a,b,rfl]) rfl
 rwa [AW i]at this
def Jf[Inhabited α]{f:α->L3.D}(i:∀a c,f a=f c->a=c)(g:α->T)(l:List α):((l.map f).filter λ_=>true).map (λd=>g (inv f d))=l.map g:=by
 rw[fG,eI];exact hB λa _=>congrArg g (AW i a)
theorem FN{p:α->Bool}{l:List α}{a:α}(h:a∈l)(n:p a=false):l.all p=false:=by
 cases q:l.all p with
 | false=>rfl
 | true=>rw[fR.1 q a h]at n;cases n
instance:Inhabited ia:=#[.call ""]
instance:Inhabited ic:=#[.i6 "" ""]
instance:Inhabited gP:=#[.bx "" 0]
instance:Inhabited lu:=#[#["",[],[],"",""]]
instance:Inhabited dQ:=#[#[0,0,default]]
theorem qu:∀a c:ia,a.d=c.d->a=c:=by
 have h:¬ ("put":Str)="say":=by decide +kernel
 intro a c e;cases a<;>cases c<;>simp[ia.d,YN]at e
 .rw[e]
 .obtain⟨rfl,rfl,rfl⟩:=e;rfl
 .exact absurd e.1 h
 .exact absurd e.1.symm h
 simp_all
def uy:∀a c:ic,a.d=c.d->a=c:=by
 intro a c e;cases a<;>cases c<;>simp[ic.d,YN]at e
 .obtain⟨rfl,rfl⟩:=e;rfl
 .obtain⟨rfl,⟨rfl,rfl⟩,rfl,rfl⟩:=e;rfl
noncomputable def gP.Uq:gP->Bool
 | .bx _ _=>true
 | _=>false
def gP.Uu:gP->Bool
 | .md _ _ _=>true
 | _=>false
def gP.nm:gP->Str
 | .bx n _=>n
 | .md _ x _=>x
 | _=>""
def Ep(fs:List dQ):AT:=(fs.filter (·.c.Uq)).map (·.c.nm)
def C9(fs:List dQ):AT:=(fs.filter (·.c.Uu)).map (·.c.nm)
def Uv(fs:List dQ)(q:dQ):Bool:=q.c.ok (Ep fs) (C9 fs)
def LW(fs:List dQ):Int:=match fs.find? λq=>!Uv fs q with
 | some q=>q.r
 | none=>0
structure YQ(fs:List dQ):Prop where
 ok:∀q∈fs,q.c.Ok
 l:fs.length<=5000
 bl:(Ep fs).length<=1000
 ml:(C9 fs).length<=1000
theorem WD{c:gP}(h:c.Ok):decide (c.w="box")=c.Uq:=by
 cases c with
 | bx=>exact eD rfl
 | md w x st=>
  have h:w∈bu:=h;exact eu λz=>by rw[show w="box" from z]at h;exact absurd h Wp
 | dd w d=>
  have h:w∈(["in","out"]:AT):=h;exact eu λz=>by rw[show w="box" from z]at h;exact absurd h Wp
 | wy w=>exact eu (show ¬ ("on":Str)="box" by decide +kernel)
theorem WG{c:gP}(h:c.Ok):decide (c.w∈bu)=c.Uu:=by
 cases c with
 | bx=>exact eu (show("box":Str)∉bu by decide +kernel)
 | md w x st=>exact eD h
 | dd w d=>
  have h:w∈(["in","out"]:AT):=h;refine eu λz=>?_;have z:w∈bu:=z;simp at h;obtain rfl|rfl:=h<;>exact absurd z Wp
 | wy w=>exact eu (show("on":Str)∉bu by decide +kernel)
variable{fs:List dQ}
def Ro{p:L3.D->Bool}{p':dQ->Bool}{g:L3.D->T}{g':dQ->T}(hp:∀q∈fs,p q.d=p' q)(b:∀q∈fs,p' q=true->g q.d=g' q):((fs.map dQ.d).filter p).map g=(fs.filter p').map g':=by
 rw[List.filter_map,eI,List.filter_congr ‹_›];exact hB λq a=>b q (ij.1 a).1 (ij.1 a).2
def map_inj{f:α->L3.D}(i:∀a c,f a=f c->a=c){l m:List α}(h:l.map f=m.map f):l=m:=(List.map_inj_right i).1 h
def WH:∀a c:lu,a.d=c.d->a=c:=by
 rintro⟨a1,a2,a3,a4,a5⟩ ⟨c1,c2,i,h,g⟩ e;simp[lu.d]at e;obtain⟨rfl,f,b,rfl,rfl⟩:=e;rw[map_inj uy f,map_inj qu b]
theorem Jg:∀a c:dQ,a.c.Ok->c.c.Ok->a.d=c.d->a=c:=by
 rintro⟨a1,a2,a3⟩ ⟨c1,c2,k⟩ f g e;have f:a3.Ok:=f;simp[dQ.d,L3.D.tup.injEq,List.cons.injEq,L3.D.str.injEq,L3.D.int.injEq,Int.ofNat_inj,and_true]at e;obtain⟨rfl,rfl,hw,hd⟩:=e;have j:=WD f;have i:=WG f;rw[hw,WD g]at j;rw[hw,WG g]at i;have b:∀{w:Str},w∈(["in","out"]:AT)->¬ w="on":=λh z=>by rw[z]at h;exact absurd h Wp
 cases a3<;>cases k<;>first|(cases j;done)|(cases i;done)|skip
 .simp only[gP.d,and_true]at hd;lia
 .simp only[gP.d,L3.D.tup.injEq,List.cons.injEq,L3.D.str.injEq,and_true]at hd;obtain⟨rfl,rfl⟩:=hd;cases (hw);rfl
 .cases (hw);rw[qu _ _ hd]
 .exact absurd hw (b f)
 .exact absurd hw.symm (b g)
 .rw[WH _ _ hd]
open Classical in
def FP(l:List dQ)(d:L3.D):dQ:=if h:∃a∈l,a.d=d then h.choose else default
def uz{l:List dQ}(h:∀q∈l,q.c.Ok){q:dQ}(b:q∈l):FP l q.d=q:=by
 unfold FP;have e:∃a∈l,a.d=q.d:=#[q,b,rfl];exact dif_pos e▸Jg _ _ (h _ e.choose_spec.1) (h _ b) e.choose_spec.2
theorem LX(h:∀q∈fs,q.c.Ok){i:Nat}{q:dQ}(e:(fs.map dQ.d)[i]? = some q.d)(b:q.c.Ok)(lt:∀u∈(fs.map dQ.d).take i,true=true->Uv fs (FP fs u)=true)(n:Uv fs q=false):LW fs=q.r:=by
 have hi:i<fs.length:=by
  have:=(gz.1 e).1;simp_all
 have e2:=by
  rw[fT,gc hi]at e;exact Jg _ _ (h _ WE) b (e5 e)
 have hf:fs.find? (λq=>!Uv fs q)=some q:=by
  rw[List.find?_eq_some_iff_getElem];refine#[by rw[n];rfl,i,hi,e2,λj a=>?_];have hm:fs[j]'(Nat.lt_trans a hi)∈fs:=oN _;have:=lt (fs[j]'(Nat.lt_trans a hi)).d (List.mem_take_iff_getElem.2 #[j,WJ,WE ]) rfl;rw[uz h hm]at this;simp_all
 unfold LW;rw[hf]
def KW(h:∀q∈fs,q.c.Ok)(a:∀d∈fs.map dQ.d,true=true->Uv fs (FP fs d)=true):fs.all (Uv fs)=true:=fR.2 λq b=>by
 have:=a q.d (ew.2 #[q,b,rfl]) rfl
 rwa [uz h b]at this
def WK(h:∀q∈fs,q.c.Ok)(g:dQ->L3.D):((fs.map dQ.d).filter λ_=>true).map (λd=>T.sh (g (FP fs d)))=(fs.map g).map T.sh:=by
 rw[fG,eI,eI];exact hB λq a=>by show T.sh _=_;rw[uz h a];rfl
def WL(bs ms:AT)(q:dQ):(q.n bs ms).j6=true:=by
 show(true&&(true&&(true&&((q.c.n bs ms).j6&&true))))=true;rw[WC];rfl
def yT(l:AT):(T.iO (AQ l)).clean=true:=by
 rw[T.clean];refine gG λd hd=>?_;obtain⟨b,a,rfl⟩:=ew.1 hd;obtain⟨n,e⟩:=FL l.reverse b a;rw[e];rfl
def dK(bn:AT)(d:L3.D):ia:=
 if (b8 d 0).toS="call" then .call (b8 d 1).toS
 else if (b8 d 0).toS="put" then .put (bn.getD (b8 d 1).Cq.toNat Str.empty) (YH bn (b8 (b8 d 2) 0).Cq) (b8 (b8 d 2) 1).Cq
 else .say (b8 d 1).toS (YH bn (b8 (b8 d 2) 0).Cq) (b8 (b8 d 2) 1).Cq
theorem Rp{α:Type}{f:α->T}{g:α->L3.D}:∀l:List α,(∀i∈l,(f i).d7=g i)->T.dO (l.map f)=l.map g
 | [],_=>rfl
 | i::l,h=>by rw[eJ,T.dO,Rp l λj a=>h j (ee _ a),h i d6,eJ]
theorem yU{α:Type}{f:α->T}:∀l:List α,(∀i∈l,(f i).clean=true)->T.c7 (l.map f)=true
 | [],_=>rfl
 | i::l,h=>by rw[eJ,T.c7,yU l λj a=>h j (ee _ a),h i d6];rfl
structure PT where
 c:CH
 xb:Str
 xn:Str
theorem oA(a:α)(l:List α):(List.range l.length).map (λi=>l.getD i a)=l:=by
 refine l3 λi=>?_;rw[fT];by_cases h:i<l.length
 .simp_all
 simp_all
def LY(l:AT):pz l "" = -1:=di rfl
theorem qv{x:Str}(h:pk l x=true)(n:x≠""):0<=pz l x/\pz l x<l.length:=by
 unfold pk at h;rw[eu n,Bool.false_or,fo]at h;unfold pz;rw[cq n];have:=List.idxOf_lt_length_of_mem h;lia
noncomputable def intOf(x:Str):Int:=(intText? x).getD 0
theorem Jh:∀(n:Nat) (l:Cc),l.length=n+1->(∀c∈l,gV c=true)->l.getD 0 0≠48->∃m:Nat,0<m/\m<10 ^ (n+1)/\(sI (m:Int)).cps.toList=l
 | 0,l,b,hd,h0=>by
  match l,b with
  | [c],_=>
   have a:=hd c d6;unfold gV at a;rw[et,fo,fo]at a;have h0:c≠48:=h0;refine#[c-48,Wl,Wl,?_];rw[oU,we Wl];have:∀k:Nat,k<10->[Nat.digitChar k].map Char.toNat=[k+48]:=by decide
   rw[this _ Wl,Nat.sub_add_cancel a.1]
 | n+1,l,b,hd,h0=>by
  obtain⟨l,c,rfl⟩:∃f c,l=f++[c]:=#[l.dropLast,l.getLast (by intro z;rw[z]at b;cases b),(uk _).symm];have b:l.length=n+1:=by rw[fv,hV]at b;lia
  obtain⟨m,m0,d,e⟩:=Jh n l b (λc a=>hd c (ft _ a)) (by
   rwa [eM,lj Wl,<- eM]at h0)
  have a:=hd c (eL _ d6);unfold gV at a;rw[et,fo,fo]at a;refine#[10*m+(c-48),Wl,by rw[Nat.pow_succ]at d ⊢;lia,?_];rw[oU]at e ⊢;rw[<- Nat.toDigits_append_toDigits WA m0 Wl,fx,e,we Wl];have:∀k:Nat,k<10->[Nat.digitChar k].map Char.toNat=[k+48]:=by decide
  rw[this _ Wl,Nat.sub_add_cancel a.1]
theorem Ji{x:Str}(h:gM x=true):∃m:Nat,0<m/\m<10 ^ 30/\x=sI m:=by
 unfold gM at h;simp only[et,fo,fR,jb,pd]at h;obtain⟨h1,d,c,b⟩:=h;obtain⟨m,m0,a,e⟩:=Jh (x.length-1) x.cps.toList (by rw[aK];lia) b c;exact#[m,m0,hz a (Nat.pow_le_pow_right WA Wl),(eN e).symm]
theorem Rq{x:Str}(h:gM x=true):0<intOf x/\(intOf x).natAbs<10 ^ 30/\sI (intOf x)=x:=by
 obtain⟨m,m0,a,rfl⟩:=Ji h;have e:intOf (sI m)=m:=by unfold intOf;rw[vU Wl];rfl
 rw[e];exact#[Wl,Wl,rfl]
theorem FQ{x:Str}(h:iW x=true):(intOf x).natAbs<10 ^ 30/\sI (intOf x)=x:=by
 have back:∀k:Int,k.natAbs<10 ^ 30->x=sI k->(intOf x).natAbs<10 ^ 30/\sI (intOf x)=x:=λk b e=>by
  subst e;have e:intOf (sI k)=k:=by unfold intOf;rw[vU b];rfl
  rw[e];exact#[b,rfl]
 unfold iW at h;rw[lr,fo]at h;obtain h|h:=h
 .exact back 0 WA (h.trans Wp)
 .obtain⟨m,m0,d,e⟩:=Ji h;unfold jr at e;split at e
  .rename_i hm;refine back (-(m:Int)) Wl (eN ?_);rw[nJ Wl,show((-(m:Int)).natAbs:Int)=m by lia,<- e];cases a:x.cps.toList with
   | nil=>rw[a]at hm;cases hm
   | cons c l=>
    rw[a]at hm;rw[show c=45 from e5 hm];rfl
  .exact back m Wl e
theorem Dc{c:Nat}:∀{l:Cc},c∈l->∃a r,l=a++c::r/\c∉a
 | d::l,h=>by
  by_cases e:c=d
  .exact#[[],l,by rw[e];rfl,WE]
  .obtain⟨a,r,e2,b⟩:=Dc (l:=l) ((d3.1 h).resolve_left e);exact#[d::a,r,by rw[e2];rfl,λz=>(d3.1 z).elim e b]
def WM{x:Str}{c:Nat}(h:c∈x.cps.toList):∃a r,x=a++#[(List.toArray [c])]++r/\c∉a.cps.toList/\part3 x #[(List.toArray [c])]=[a,#[(List.toArray [c])],r]:=by
 obtain⟨a,r,e,b⟩:=Dc h;have ex:x=(#[a.toArray]:Str)++#[(List.toArray [c])]++#[r.toArray]:=eN (by rw[e,aQ,aQ,eB];rfl);have b:c∉(#[a.toArray]:Str).cps.toList:=b;exact#[_,_,ex,b,by rw[ex];exact vS b]
def xH(x:Str):Str:=if kC "-" x=true then "-" else "+"
def xX(x:Str):Option (Str×Int):=if iW x=true then some ("",intOf x) else
 if aO ((part3 x (xH x)).getD 0 "")=true then
  if (part3 x (xH x)).getD 1 "" = "" then some ((part3 x (xH x)).getD 0 "",0)
  else if gM ((part3 x (xH x)).getD 2 "")=true then some ((part3 x (xH x)).getD 0 "",if xH x="+" then intOf ((part3 x (xH x)).getD 2 "") else -intOf ((part3 x (xH x)).getD 2 "")) else none
 else none
def gw(n:Str)(k:Int):Str:=if n="" then sI k else if k=0 then n else n++BQ k++sI (k.natAbs:Int)
def Rr(x:Str)(c:Nat):kC #[(List.toArray [c])] x=decide (c∈x.cps.toList):=by
 unfold kC;rw[uu]
variable{n:Str}
theorem AX{x:Str}(h:xX x=some (n,k)):gw n k=x/\k.natAbs<10 ^ 30/\(n="" \/ aO n=true):=by
 unfold xX at h;split at h
 .rename_i d;obtain⟨rfl,rfl⟩:=Prod.mk.inj (e5 h);obtain⟨a,b⟩:=FQ d;exact#[(di rfl).trans b,a,.inl rfl]
 split at h
 .rename_i d;have dash:("-":Str)=#[(List.toArray [45])]:=by decide +kernel
  have plus:("+":Str)=#[(List.toArray [43])]:=by decide +kernel
  obtain⟨c,i,hm⟩:∃c:Nat,(c=45/\45∈x.cps.toList\/c=43/\45∉x.cps.toList)/\xH x=#[(List.toArray [c])]:=by
   unfold xH;rw[dash,Rr];by_cases z:45∈x.cps.toList
   .exact#[45,.inl #[rfl,z],by rw[eD z];rfl]
   .exact#[43,.inr #[rfl,z],by rw[eu z];exact plus]
  rw[hm]at h d;by_cases g:c∈x.cps.toList
  .obtain⟨a,r,e,j,ep⟩:=WM g;rw[ep]at h d;have d:aO a=true:=d;split at h
   .rename_i z;have z:(#[(List.toArray [c])]:Str)="":=z;have:=congrArg Str.length z;cases this
   split at h
   .rename_i hf;obtain⟨f0,f1,f2⟩:=Rq (x:=r) hf;have f:([a,#[(List.toArray [c])],r]:AT).getD 2 "" = r:=rfl;rw[f]at h;obtain⟨rfl,rfl⟩:=Prod.mk.inj (e5 h);have na:¬ (([a,#[(List.toArray [c])],r]:AT).getD 0 "")="":=fJ d;obtain⟨rfl,_⟩|⟨rfl,_⟩:=i
    .rw[cq Wp];refine#[?_,Wl,.inr d];rw[gw,cq na,cq Wl,gO,cq Wl,show((-intOf r).natAbs:Int)=intOf r by lia,f2];exact e.symm
    .rw[di Wp];refine#[?_,f1,.inr d];rw[gw,cq na,cq Wl,gO,di f0,show((intOf r).natAbs:Int)=intOf r by lia,f2];exact e.symm
   .cases h
  .rw[AI g]at h d;rw[di (show([x,"",""]:AT).getD 1 "" = "" from rfl)]at h;obtain⟨rfl,rfl⟩:=Prod.mk.inj (e5 h);exact#[(cq (fJ d)).trans (di rfl),WA,.inr d]
 .cases h
noncomputable def ju:AT:=["<","<=","=","!="]
def mR:AT->Option ia
 | [w,n]=>if w="call" /\ aO n=true then some (.call n) else none
 | [w,n,t]=>if (w="put" \/ w="say")/\aO n=true then(xX t).map λp=>if w="put" then .put n p.1 p.2 else .say n p.1 p.2 else none
 | _=>none
def nY:AT->Option ic
 | [w,n]=>if w∈(["open","shut"]:AT)/\aO n=true then some (.i6 w n) else none
 | [s,w,t]=>if w∈ju then(xX s).bind λp=>(xX t).map λq=>.num w p.1 p.2 q.1 q.2 else none
 | _=>none
def ia.ws:ia->AT
 | .call n=>["call",n]
 | .put b n k=>["put",b,gw n k]
 | .say x n k=>["say",x,gw n k]
def ic.ws:ic->AT
 | .i6 w x=>[w,x]
 | .num w n k n2 k2=>[gw n k,w,gw n2 k2]
def WN(n:Str)(k:Int):Prop:=k.natAbs<10 ^ 30/\(n="" \/ aO n=true)
def ia.R:ia->Prop
 | .call n=>aO n=true
 | .put b n k=>aO b=true/\WN n k
 | .say x n k=>aO x=true/\WN n k
def ic.R:ic->Prop
 | .i6 w x=>w∈(["open","shut"]:AT)/\aO x=true
 | .num w n k n2 k2=>w∈ju/\WN n k/\WN n2 k2
variable{d:ia}
def Jj{ws:AT}(h:mR ws=some d):d.ws=ws/\d.R:=by
 unfold mR at h;split at h
 .split at h
  .rename_i b;cases e5 h;exact#[by rw[b.1];rfl,b.2]
  .cases h
 .split at h
  .rename_i w n t b;obtain⟨⟨m,k⟩,f,e⟩:=hW.1 h;obtain⟨a,c⟩:=AX f;subst e;by_cases hp:w="put"
   .rw[di hp];exact#[by rw[hp];show [("put":Str),n,gw m k]=_;rw[a],b.2,c]
   .rw[cq hp];exact#[by rw[b.1.resolve_left hp];show [("say":Str),n,gw m k]=_;rw[a],b.2,c]
  .cases h
 .cases h
def WO{ws:AT}{d:ic}(h:nY ws=some d):d.ws=ws/\d.R:=by
 unfold nY at h;split at h
 .split at h
  .rename_i b;cases e5 h;exact#[rfl,b]
  .cases h
 .split at h
  .rename_i s w t b;obtain⟨⟨m,k⟩,i,h⟩:=Option.bind_eq_some_iff.1 h;obtain⟨⟨f,k2⟩,g,e⟩:=hW.1 h;obtain⟨a,c⟩:=AX i;obtain⟨a2,c2⟩:=AX g;subst e;exact#[by show [gw m k,w,gw f k2]=_;rw[a,a2],b,c,c2]
  .cases h
 .cases h
instance:Inhabited ia:=#[.call ""]
instance:Inhabited ic:=#[.i6 "" ""]
def qx(p:AT):Option (Str×Str):=if gT p≠"to" then some ("","new") else match p with
 | [_,n]=>if aO n=true then some (n,"new") else none
 | [_,n,m]=>if m∈(["near","far"]:AT)/\aO n=true then some (n,m) else none
 | _=>none
def xY(n m:Str):CI:=if n="" then [] else ["to"::n::if m="new" then [] else [m]]
def lV:Str->AT->Bool
 | _,[]=>true
 | x,y::l=>decide (y∈iS x)&&lV y l
def isA(p:AT):Bool:=decide (gT p∈(["if","and"]:AT))
def xS(p:AT):Bool:=decide (gT p∈(["do","then"]:AT))
def gy(ps:CI):AT:=ps.getD (ps.length-1) []
def AY(ps:CI):Bool:=lV (gT (ps.getD 0 [])) ((ps.drop 1).map gT)&&(decide ((ps.getD 0 []).length=2)&&((ps.filter isA).all (λp=>(nY p.tail).isSome)&&((ps.filter xS).all (λp=>(mR p.tail).isSome)&&((qx (gy ps)).isSome&&aO ((ps.getD 0 []).getD 1 "")))))
def yV(ps:CI):lu:=#[(ps.getD 0 []).getD 1 "",(ps.filter isA).map λp=>(nY p.tail).getD default,(ps.filter xS).map λp=>(mR p.tail).getD default,((qx (gy ps)).getD ("","")).1,((qx (gy ps)).getD ("","")).2]
def lu.ps(w:lu):CI:=["on",w.sg]::(lk "if" "and" (w.as.map ic.ws)++lk "do" "then" (w.ds.map ia.ws)++xY w.tg w.md)
def lu.R(w:lu):Prop:=aO w.sg=true/\(∀q∈w.as,q.R)/\(∀d∈w.ds,d.R)/\((w.tg="" /\ w.md="new")\/(aO w.tg=true/\w.md∈(["new","near","far"]:AT)))
theorem AZ(h:p≠[]):gT p::p.tail=p:=by
 cases p with
 | nil=>exact absurd rfl h
 | cons a l=>rfl
def FT(t:CI):Prop:=t=[]\/∃p,t=[("to":Str)::p]
theorem FU(h:lV "to" l=true):l=[]:=by
 cases l with
 | nil=>rfl
 | cons y l=>
  unfold lV at h;rw[show iS "to" = [] by decide +kernel]at h;cases h
section
variable{l:CI}(hp:∀p∈l,p≠[])
theorem FW:∀{l:CI} {x:Str},(∀p∈l,p≠[])->x∈(["do","then"]:AT)->lV x (l.map gT)=true->∃(T:CI) (t:CI),l=T.map (("then":Str)::·)++t/\FT t
 | [],x,_,_,_=>#[[],[],rfl,.inl rfl]
 | p::l,x,hp,b,h=>by
  have e:=AZ (hp p d6);have h:(decide (gT p∈iS x)&&lV (gT p) (l.map gT))=true:=h;rw[et,fo]at h;have hf:iS x=(["then","to"]:AT):=by
   simp only[d3,eA,fb]at b;obtain rfl|rfl:=b<;>decide +kernel
  obtain⟨h1,a⟩:=h;rw[hf]at h1;simp only[d3,eA,fb]at h1;obtain z|z:=h1
  .rw[z]at a e;obtain⟨T,t,e2,c⟩:=FW (λq d=>hp q (ee _ d)) Wp a;exact#[p.tail::T,t,by rw[e2,<- e];rfl,c]
  .rw[z]at a e;have:=nN.1 (FU a);exact#[[],[p],by rw[this];rfl,.inr #[p.tail,by rw[e]]]
theorem Rt:∀{l:CI} {x:Str},(∀p∈l,p≠[])->x∈(["if","and"]:AT)->lV x (l.map gT)=true->∃(A D t:CI),l=A.map (("and":Str)::·)++lk "do" "then" D++t/\FT t
 | [],x,_,_,_=>#[[],[],[],rfl,.inl rfl]
 | p::l,x,hp,c,h=>by
  have e:=AZ (hp p d6);have d:∀q∈l,q≠[]:=λq f=>hp q (ee _ f);have h:(decide (gT p∈iS x)&&lV (gT p) (l.map gT))=true:=h;rw[et,fo]at h;have hf:iS x=(["and","do","to"]:AT):=by
   simp only[d3,eA,fb]at c;obtain rfl|rfl:=c<;>decide +kernel
  obtain⟨h1,a⟩:=h;rw[hf]at h1;simp only[d3,eA,fb]at h1;obtain z|z|z:=h1<;>rw[z]at a e
  .obtain⟨A,D,t,e2,b⟩:=Rt d Wp a;exact#[p.tail::A,D,t,by rw[e2,<- e];rfl,b]
  .obtain⟨T,t,e2,b⟩:=FW d Wp a;exact#[[],p.tail::T,t,by rw[e2,<- e];rfl,b]
  .have:=nN.1 (FU a);exact#[[],[],[p],by rw[this];rfl,.inr #[p.tail,by rw[e]]]
theorem TB(hp:∀p∈l,p≠[])(h:lV "on" (l.map gT)=true):∃(A D t:CI),l=lk "if" "and" A++lk "do" "then" D++t/\FT t:=by
 cases l with
 | nil=>exact#[[],[],[],rfl,.inl rfl]
 | cons p l=>
  have e:=AZ (hp p d6);have c:∀q∈l,q≠[]:=λq d=>hp q (ee _ d);have h:(decide (gT p∈iS "on")&&lV (gT p) (l.map gT))=true:=h;rw[et,fo,show iS "on" = (["if","do","to"]:AT) by decide +kernel]at h;obtain⟨h1,a⟩:=h;simp only[d3,eA,fb]at h1;obtain z|z|z:=h1<;>rw[z]at a e
  .obtain⟨A,D,t,e2,b⟩:=Rt c Wp a;exact#[p.tail::A,D,t,by rw[e2,<- e];rfl,b]
  .obtain⟨T,t,e2,b⟩:=FW c Wp a;exact#[[],p.tail::T,t,by rw[e2,<- e];rfl,b]
  .have:=nN.1 (FU a);exact#[[],[],[p],by rw[this];rfl,.inr #[p.tail,by rw[e]]]
end
def yW[Inhabited α]{F:AT->Option α}{W:α->AT}{R:α->Prop}(c:∀{ws a},F ws=some a->W a=ws/\R a){A:CI}(h:∀q∈A,(F q).isSome=true):(A.map λq=>(F q).getD default).map W=A/\∀a∈A.map λq=>(F q).getD default,R a:=by
 refine#[?_,λa d=>?_]
 .rw[eI];refine(hB λq b=>?_).trans (List.map_id A);obtain⟨v,hv⟩:=iv.1 (h q b);show W ((F q).getD default)=q;rw[hv];exact(c hv).1
 .obtain⟨q,b,rfl⟩:=ew.1 d;obtain⟨v,hv⟩:=iv.1 (h q b);rw[hv];exact(c hv).2
def WQ{m:Str}(h:qx ("to"::p)=some (n,m)):xY n m=[("to":Str)::p]/\aO n=true/\m∈(["new","near","far"]:AT):=by
 unfold qx at h;rw[cq (λz=>z rfl)]at h;split at h
 .rename_i x e;obtain⟨_,rfl⟩:=hR e;split at h
  .rename_i a;obtain⟨rfl,rfl⟩:=Prod.mk.inj (e5 h);exact#[(cq (fJ a)).trans (by rw[di rfl]),a,Wp]
  .cases h
 .rename_i x y e;obtain⟨_,rfl⟩:=hR e;split at h
  .rename_i a;obtain⟨rfl,rfl⟩:=Prod.mk.inj (e5 h);refine#[(cq (fJ a.2)).trans ?_,a.2,ee _ a.1];rw[cq];rintro rfl;exact absurd a.1 Wp
  .cases h
 .cases h
theorem WR{ps:CI}(hp:∀p∈ps,p≠[])(h0:gT (ps.getD 0 [])="on")(h:AY ps=true):(yV ps).ps=ps/\(yV ps).R:=by
 unfold AY at h;simp only[et,fo]at h;obtain⟨h1,e,o,k,j,F⟩:=h;cases ps with
 | nil=>exact absurd h0 Wp
 | cons p0 l=>
 have h0:gT p0="on":=h0;have e:p0.length=2:=e
 match p0,e with
 | [a,sg],_=>
 have h0:a="on":=h0;subst h0;obtain⟨A,D,t,rfl,g⟩:=TB (l:=l) (λp b=>hp p (ee _ b)) h1;have f:∀{q:Str->Bool},q "to" = false->t.filter (λp=>q (gT p))=[]:=λ{q} b=>by
  obtain rfl|⟨p,rfl⟩:=g
  .rfl
  .exact hP (p:=λp:AT=>q (gT p)) (show ¬ q "to" = true by rw[b];decide)
 have s:([("on":Str),sg]::(lk "if" "and" A++lk "do" "then" D++t)).filter isA=lk "if" "and" A:=by
  have d:¬ isA [("on":Str),sg]=true:=show ¬ decide (("on":Str)∈(["if","and"]:AT))=true by decide +kernel
  rw[hP d,hF,hF,show t.filter isA=[] from f (q:=λx=>decide (x∈(["if","and"]:AT))) Wp,show(lk "if" "and" A).filter isA=_ from jc (q:=λx=>decide (x∈(["if","and"]:AT))) (z:=true) Wp Wp A,show(lk "do" "then" D).filter isA=_ from jc (q:=λx=>decide (x∈(["if","and"]:AT))) (z:=false) Wp Wp D];simp
 have r:([("on":Str),sg]::(lk "if" "and" A++lk "do" "then" D++t)).filter xS=lk "do" "then" D:=by
  have d:¬ xS [("on":Str),sg]=true:=show ¬ decide (("on":Str)∈(["do","then"]:AT))=true by decide +kernel
  rw[hP d,hF,hF,show t.filter xS=[] from f (q:=λx=>decide (x∈(["do","then"]:AT))) Wp,show(lk "if" "and" A).filter xS=_ from jc (q:=λx=>decide (x∈(["do","then"]:AT))) (z:=false) Wp Wp A,show(lk "do" "then" D).filter xS=_ from jc (q:=λx=>decide (x∈(["do","then"]:AT))) (z:=true) Wp Wp D];simp
 rw[s]at o;rw[r]at k;have C:∀q∈A,(nY q).isSome=true:=λq b=>by
  rw[<- qp "if" "and" A]at b;obtain⟨p,hp,rfl⟩:=ew.1 b;exact fR.1 o p hp
 have B:∀q∈D,(mR q).isSome=true:=λq b=>by
  rw[<- qp "do" "then" D]at b;obtain⟨p,hp,rfl⟩:=ew.1 b;exact fR.1 k p hp
 obtain⟨bA,y⟩:=yW WO C;obtain⟨H,w⟩:=yW Jj B;have v:(yV ([("on":Str),sg]::(lk "if" "and" A++lk "do" "then" D++t))).as=A.map λq=>(nY q).getD default:=by
  show(([("on":Str),sg]::(lk "if" "and" A++lk "do" "then" D++t)).filter isA).map _=_;rw[s]
  conv=>rhs;rw[<- qp "if" "and" A]
  rw[eI];rfl
 have u:(yV ([("on":Str),sg]::(lk "if" "and" A++lk "do" "then" D++t))).ds=D.map λq=>(mR q).getD default:=by
  show(([("on":Str),sg]::(lk "if" "and" A++lk "do" "then" D++t)).filter xS).map _=_;rw[r]
  conv=>rhs;rw[<- qp "do" "then" D]
  rw[eI];rfl
 have E:∃n m,qx (gy ([("on":Str),sg]::(lk "if" "and" A++lk "do" "then" D++t)))=some (n,m)/\xY n m=t/\((n="" /\ m="new")\/(aO n=true/\m∈(["new","near","far"]:AT))):=by
  obtain rfl|⟨p,rfl⟩:=g
  .refine#["","new",?_,di rfl,.inl #[rfl,rfl]];have i:=ql (l:=[("on":Str),sg]::(lk "if" "and" A++lk "do" "then" D++[])) [] (Nat.succ_pos _);rw[e6]at i ⊢;refine di λz=>?_;have z:gT (([("on":Str),sg]::(lk "if" "and" A++lk "do" "then" D)).getD _ [])="to":=z;have no:∀p∈[("on":Str),sg]::(lk "if" "and" A++lk "do" "then" D),gT p≠"to":=λp hp=>by
    obtain rfl|hp:=d3.1 hp
    .show("on":Str)≠"to";decide +kernel
    obtain hp|hp:=eg.1 hp<;>obtain⟨x,_,rfl|rfl⟩:=jt hp
    .show("if":Str)≠"to";decide +kernel
    .show("and":Str)≠"to";decide +kernel
    .show("do":Str)≠"to";decide +kernel
    .show("then":Str)≠"to";decide +kernel
   exact no _ i z
  .have G:gy ([("on":Str),sg]::(lk "if" "and" A++lk "do" "then" D++[("to":Str)::p]))=("to":Str)::p:=by
    unfold gy;rw[<- g4,fv,hV,kx,eM,i5 (ea _),l5];rfl
   rw[G]at j ⊢;obtain⟨⟨n,m⟩,hv⟩:=iv.1 j;obtain⟨g1,g2,g3⟩:=WQ hv;exact#[n,m,hv,g1,.inr #[g2,g3]]
 obtain⟨n,m,g1,g2,g3⟩:=E;have c:(yV ([("on":Str),sg]::(lk "if" "and" A++lk "do" "then" D++t))).tg=n/\(yV ([("on":Str),sg]::(lk "if" "and" A++lk "do" "then" D++t))).md=m:=by
  unfold yV;rw[g1];exact#[rfl,rfl]
 refine#[?_,?_]
 .unfold lu.ps;rw[v,u,c.1,c.2,bA,H,g2];rfl
 .unfold lu.R;rw[v,u,c.1,c.2];exact#[F,y,w,g3]
def pF(ws:AT):CI:=ws.foldl pS []
theorem Ru:∀(ws:AT) (l:CI),l≠[]->(∀p∈l,p≠[])->(ws.foldl pS l).flatten=l.flatten++ws/\(∀p∈ws.foldl pS l,p≠[])/\ws.foldl pS l≠[]/\gT ((ws.foldl pS l).getD 0 [])=gT (l.getD 0 [])
 | [],l,h,hp=>#[(e6 _).symm,hp,h,rfl]
 | x::ws,l,h,hp=>by
  obtain⟨l,p,rfl⟩:∃n p,l=n++[p]:=#[l.dropLast,l.getLast h,(uk h).symm];have o:p≠[]:=hp p (eL _ d6);have step:∃m,pS (l++[p]) x=m/\m≠[]/\m.flatten=(l++[p]).flatten++[x]/\(∀p∈m,p≠[])/\gT (m.getD 0 [])=gT ((l++[p]).getD 0 []):=by
   by_cases g:x∈fk
   .refine#[_,di g,WE,WE,λq b=>?_,?_]
    .obtain b|b:=eg.1 b
     .exact hp q b
     .rw[eC.1 b];simp
    .rw[eM,lj (by rw[fv,hV];lia),<- eM]
   .have e:pS (l++[p]) x=l++[p++[x]]:=by
     rw[pS,cq g,fv,hV,kx,eM,i5 (ea _),l5];show(l++[p]).set l.length (p++[x])=_;simp
    refine#[_,e,WE,WE,λq b=>?_,?_]
    .obtain b|b:=eg.1 b
     .exact hp q (ft _ b)
     .rw[eC.1 b];simp
    .cases l with
     | nil=>
      cases p with
      | nil=>exact absurd rfl o
      | cons a r=>rfl
     | cons a r=>rfl
  obtain⟨m,e,m0,k,j,i⟩:=step;obtain⟨a,c,d,f⟩:=Ru ws m m0 j;rw[ip,e];exact#[by rw[a,k,eB];rfl,c,d,f.trans i]
def YR(r:AT):(pF ("on"::r)).flatten=("on":Str)::r/\(∀p∈pF ("on"::r),p≠[])/\pF ("on"::r)≠[]/\gT ((pF ("on"::r)).getD 0 [])="on":=by
 have e:pS [] "on" = [[("on":Str)]]:=di (show("on":Str)∈fk by decide +kernel);unfold pF;rw[ip,e];exact Ru r [[("on":Str)]] WE (λp hp=>by rw[eC.1 hp];simp)
def lZ:AT->Option gP
 | []=>none
 | w::r=>if w="box" /\ r.length=2 then(if aO (r.getD 0 "")=true/\iW (r.getD 1 "")=true then some (.bx (r.getD 0 "") (intOf (r.getD 1 ""))) else none)
  else if w="one" /\ r.length=2 then(if aO (r.getD 0 "")=true/\aO (r.getD 1 "")=true then some (.md w (r.getD 0 "") (r.getD 1 "")) else none)
  else if w∈(["leaf","all"]:AT)/\r.length=1 then(if aO (r.getD 0 "")=true then some (.md w (r.getD 0 "") "") else none)
  else if w∈(["in","out"]:AT) then(mR r).map (.dd w)
  else if w="on" then(if AY (pF (w::r))=true then some (.wy (yV (pF (w::r)))) else none)
  else none
def gP.ws:gP->AT
 | .bx n k=>["box",n,sI k]
 | .md w x st=>w::x::if st="" then [] else [st]
 | .dd w d=>w::d.ws
 | .wy w=>w.ps.flatten
def gP.R:gP->Prop
 | .bx n k=>aO n=true/\k.natAbs<10 ^ 30
 | .md w x st=>aO x=true/\((w="one" /\ aO st=true)\/(w∈(["leaf","all"]:AT)/\st=""))
 | .dd w d=>w∈(["in","out"]:AT)/\d.R
 | .wy w=>w.R
variable{ws:AT}
theorem A0{c:gP}(h:lZ ws=some c):c.ws=ws/\c.R:=by
 cases ws with
 | nil=>cases h
 | cons w r=>
 rw[lZ]at h;have two:∀{l:AT},l.length=2->∃a b,l=[a,b]:=λ{l} g=>match l,g with | [a,b],_=>#[a,b,rfl]
 have one:∀{l:AT},l.length=1->∃a,l=[a]:=λ{l} g=>match l,g with | [a],_=>#[a,rfl]
 by_cases h1:w="box" /\ r.length=2
 .rw[di h1]at h;obtain⟨rfl,g⟩:=h1;obtain⟨a,b,rfl⟩:=two g;by_cases f:aO a=true/\iW b=true
  .cases e5 ((di f).symm.trans h);obtain⟨k1,k2⟩:=FQ f.2;exact#[by show [("box":Str),a,sI (intOf b)]=_;rw[k2],f.1,k1]
  .cases (cq f).symm.trans h
 rw[cq h1]at h;by_cases n:w="one" /\ r.length=2
 .rw[di n]at h;obtain⟨rfl,g⟩:=n;obtain⟨a,b,rfl⟩:=two g;by_cases f:aO a=true/\aO b=true
  .cases e5 ((di f).symm.trans h);exact#[by show("one":Str)::a::(if b="" then [] else [b])=_;rw[cq (fJ f.2)],f.1,.inl #[rfl,f.2]]
  .cases (cq f).symm.trans h
 rw[cq n]at h;by_cases m:w∈(["leaf","all"]:AT)/\r.length=1
 .rw[di m]at h;obtain⟨hw,g⟩:=m;obtain⟨a,rfl⟩:=one g;by_cases f:aO a=true
  .cases e5 ((di f).symm.trans h);exact#[by show w::a::(if ("":Str)="" then [] else [("":Str)])=_;rw[di rfl],f,.inr #[hw,rfl]]
  .cases (cq f).symm.trans h
 rw[cq m]at h;by_cases k:w∈(["in","out"]:AT)
 .rw[di k]at h;obtain⟨d,hd,e⟩:=hW.1 h;subst e;obtain⟨a,b⟩:=Jj hd;exact#[by show w::d.ws=_;rw[a],k,b]
 rw[cq k]at h;by_cases j:w="on"
 .rw[di j]at h;subst j;by_cases i:AY (pF ("on"::r))=true
  .cases e5 ((di i).symm.trans h);obtain⟨f1,f2,o,f4⟩:=YR r;obtain⟨a,b⟩:=WR f2 f4 i;exact#[by show((yV (pF ("on"::r))).ps).flatten=_;rw[a,f1],b]
  .cases (cq i).symm.trans h
 rw[cq j]at h;cases h
noncomputable def iH(x:Str):Str:=Txt.lstripChars x " "
def xZ(x:Str):AT:=Txt.split (iH x) " "
def mS(x:Str):Nat:=x.length-(iH x).length
def l0(x:Str):Option gP:=lZ (xZ x)
theorem qy(x:Str):Txt.mul " " (mS x:Int)++iH x=x/\(iH x).length<=x.length:=by
 obtain⟨n,d⟩:∃n,n=(x.cps.toList.takeWhile (λc=>(" ":Str).cps.contains c)).length:=#[_,rfl];have b:x.cps.toList.takeWhile (λc=>(" ":Str).cps.contains c)=x.cps.toList.take n:=by
  rw[d];exact(List.prefix_iff_eq_take.1 (List.takeWhile_prefix _))
 have nl:n<=x.cps.toList.length:=by rw[d];exact(List.takeWhile_prefix _).length_le
 have e:=mP b nl;have rl:(iH x).length=x.length-n:=by
  rw[<- aK,<- aK,iH,e,oT]
 have i:n<=x.length:=by rw[<- aK];exact nl
 have bn:mS x=n:=by unfold mS;lia
 refine#[eN ?_,Wl];rw[aQ,bn,qm,iH,e];have g:x.cps.toList.take n=List.replicate n 32:=by
  refine List.eq_replicate_iff.2 #[by rw[hJ];lia,λc f=>?_];rw[<- b]at f;have:=fR.1 List.all_takeWhile c f;have a:∀c:Nat,(" ":Str).cps.contains c=true->c=32:=λc h=>by
   have:(" ":Str).cps=(List.toArray [32]):=by decide +kernel
   rw[this]at h;simpa using h
  exact a c this
 rw[<- g,List.take_append_drop]
def LZ(x:Str):Txt.mul " " (mS x:Int)++Str.join " " (xZ x)=x:=by
 have e:=nC (iH x) " ";rw[show Str.join " " (xZ x)=iH x from ?_]
 .exact(qy x).1
 .exact e
def WT{x:Str}{c:gP}(h:l0 x=some c):Txt.mul " " (mS x:Int)++Str.join " " c.ws=x/\c.R:=by
 obtain⟨a,b⟩:=A0 h;exact#[by rw[a];exact LZ x,b]
theorem WU{x:Str}(h:gM x=true):intText? x=some (intOf x)/\x.length<=640:=by
 obtain⟨_,b,c⟩:=Rq h;have e:=vU b;have l:=vR b;rw[c]at e l;exact#[e,Wl]
theorem Jk{x:Str}(h:iW x=true):intText? x=some (intOf x)/\x.length<=640:=by
 obtain⟨b,c⟩:=FQ h;have e:=vU b;have l:=vR b;rw[c]at e l;exact#[e,Wl]
def Rw(x:Str):L3.D:=YN ((xX x).getD ("",0)).1 ((xX x).getD ("",0)).2
def Tx(x:Str):((xH x).length==0)=false:=by
 unfold xH;split<;>rfl
theorem FY(x:Str)(y:Str):∃a m c,part3 x y=[a,m,c]/\a.length<=x.length/\c.length<=x.length:=by
 have sub:∀i j,(Builtin.Str.strSub x i j).length<=x.length:=λi j=>by
  rw[<- aK,<- aK,tw,hJ,oT];lia
 unfold part3;split
 .exact#[_,_,_,rfl,sub _ _,sub _ _]
 .exact#[_,_,_,rfl,ea _,fc _]
def nt{b:Bool}(h:(!b)=true):b=false:=by cases b<;>first|rfl|cases h
def nf{b:Bool}(h:(!b)=false):b=true:=by cases b<;>first|rfl|cases h
def list1(h:l.length=1):∃a,l=[a]:=match l,h with | [a],_=>#[a,rfl]
def yX(h:l.length=2):∃a b,l=[a,b]:=match l,h with | [a,b],_=>#[a,b,rfl]
def YS(h:l.length=3):∃a b c,l=[a,b,c]:=match l,h with | [a,b,c],_=>#[a,b,c,rfl]
def N2(ws:AT):L3.D:=((mR ws).getD default).d
def Uw(ws:AT):L3.D:=((nY ws).getD default).d
def r4(p:AT):L3.D:=.tup [.str ((qx p).getD ("","")).1,.str ((qx p).getD ("","")).2]
variable{w:Str}
def Tu(h:¬ aO n=true):mR [w,n]=none:=cq λy=>h y.2
def De(h:aO n=true):mR [("call":Str),n]=some (.call n):=di #[rfl,h]
def Rx{t:Str}(h:aO n=false\/(xX t).isSome=false):mR [w,n,t]=none:=by
 unfold mR;dsimp only;obtain h|h:=h
 .exact cq λy=>by rw[y.2]at h;cases h
 .rw[Option.isSome_eq_false_iff,vT]at h;rw[h];split<;>rfl
def Df{t:Str}(h:¬ w∈(["put","say"]:AT)):mR [w,n,t]=none:=cq λy=>h (by simp only[d3,eA,fb];exact y.1)
def WV{t:Str}(h:w∈(["put","say"]:AT))(b:aO n=true)(a:(xX t).isSome=true):(mR [w,n,t]).isSome=true/\N2 [w,n,t]=.tup [.str w,.str n,Rw t]:=by
 simp only[d3,eA,fb]at h;obtain⟨p,hp⟩:=iv.1 a;have e:mR [w,n,t]=some (if w="put" then .put n p.1 p.2 else .say n p.1 p.2):=by
  unfold mR;dsimp only;rw[di #[h,b],hp];rfl
 refine#[by rw[e];rfl,?_];unfold N2 Rw;rw[e,hp];obtain rfl|rfl:=h
 .rw[di rfl];rfl
 .rw[cq Wp];rfl
def A1(b:¬ ws.length=2)(a:¬ ws.length=3):mR ws=none:=by
 unfold mR;split
 .exact absurd rfl b
 .exact absurd rfl a
 .rfl
variable{s:Str}
def Ry{t:Str}(h:(xX s).isSome=false\/(xX t).isSome=false):nY [s,w,t]=none:=by
 unfold nY;dsimp only;split
 .obtain h|h:=h<;>rw[Option.isSome_eq_false_iff,vT]at h<;>rw[h]
  .rfl
  .cases xX s<;>rfl
 .rfl
def WW{t:Str}(h:w∈ju)(c:(xX s).isSome=true)(b:(xX t).isSome=true):(nY [s,w,t]).isSome=true/\Uw [s,w,t]=.tup [.str w,Rw s,Rw t]:=by
 obtain⟨p,hp⟩:=iv.1 c;obtain⟨q,a⟩:=iv.1 b;have e:nY [s,w,t]=some (.num w p.1 p.2 q.1 q.2):=by
  unfold nY;dsimp only;rw[di h,hp,a];rfl
 refine#[by rw[e];rfl,?_];unfold Uw Rw;rw[e,hp,a];rfl
def Jl(b:¬ ws.length=2)(a:¬ ws.length=3):nY ws=none:=by
 unfold nY;split
 .exact absurd rfl b
 .exact absurd rfl a
 .rfl
theorem Dg(l:AT):qx ("to"::l)=match l with
  | [n]=>if aO n=true then some (n,"new") else none
  | [n,m]=>if m∈(["near","far"]:AT)/\aO n=true then some (n,m) else none
  | _=>none:=by
 unfold qx;rw[cq (λz=>z rfl)]
 match l with
 | []=>rfl
 | [n]=>rfl
 | [n,m]=>rfl
 | a::b::c::l=>rfl
def Ts(h:aO n=false):qx ["to",n]=none:=(Dg [n]).trans (cq (by rw[h];decide))
def A2(h:aO n=true):qx ["to",n]=some (n,("new":Str)):=(Dg [n]).trans (di h)
def FZ{m:Str}(h:¬ (m∈(["near","far"]:AT)/\aO n=true)):qx ["to",n,m]=none:=(Dg [n,m]).trans (cq h)
def A3{m:Str}(h:m∈(["near","far"]:AT))(a:aO n=true):qx ["to",n,m]=some (n,m):=(Dg [n,m]).trans (di #[h,a])
def gl_none(h1:¬ l.length=1)(a:¬ l.length=2):qx ("to"::l)=none:=by
 rw[Dg];split
 .exact absurd rfl h1
 .exact absurd rfl a
 .rfl
def w4(x:L3.D)(l:BB):cutD (x::l) (some 1) none=l:=by simp[cutD,HT.BJ]
def v5:L3.D->AT
 | .lst ds=>ds.map L3.D.toS
 | _=>[]
noncomputable def lT(p:AT):T:=.lst ((p.map L3.D.str).map T.sh)
noncomputable def lD(p:AT):L3.D:=.lst (p.map .str)
def oW(p:AT):v5 (lD p)=p:=by
 show(p.map L3.D.str).map L3.D.toS=p;rw[eI];exact List.map_id' p
def WX(l:CI):T.d7 (.lst (l.map lT))=.lst (l.map lD):=by
 rw[T.d7];congr 1
 induction l with
 | nil=>rfl
 | cons p l a=>
  rw[eJ,T.dO];congr 1;exact cC _
def L0(l:CI):T.clean (.lst (l.map lT))=true:=by
 rw[kh]
 induction l with
 | nil=>rfl
 | cons p l a=>
  rw[eJ,T.c7,a];exact Bool.and_eq_true_iff.2 #[bE (ji _),rfl]
theorem Rz:∀(ws:AT) (l:CI),l≠[]->(∀p∈l,p≠[]/\gT p∈fk)->∀p∈ws.foldl pS l,p≠[]/\gT p∈fk
 | [],l,_,hp=>hp
 | x::ws,l,h,hp=>by
  obtain⟨l,p,rfl⟩:∃f p,l=f++[p]:=#[l.dropLast,l.getLast h,(uk h).symm];have d:=hp p (eL _ d6);rw[ip];by_cases c:x∈fk
  .rw[pS,di c];refine Rz ws _ WE λq b=>?_;obtain b|b:=eg.1 b
   .exact hp q b
   .rw[eC.1 b];exact#[WE,c]
  .have e:pS (l++[p]) x=l++[p++[x]]:=by
    rw[pS,cq c,fv,hV,kx,eM,i5 (ea _),l5];show(l++[p]).set l.length (p++[x])=_;simp
   rw[e];refine Rz ws _ WE λq b=>?_;obtain b|b:=eg.1 b
   .exact hp q (ft _ b)
   .rw[eC.1 b];refine#[WE,?_];cases p with
    | nil=>exact absurd rfl d.1
    | cons a r=>exact d.2
def WZ{y:Str}(h:y∈fk):FG.lookup y=some (iS y)/\y≠"" /\ ∀x∈iS y,x∈fk:=by
 have:∀y∈fk,FG.lookup y=some (iS y)/\y≠"" /\ ∀x∈iS y,x∈fk:=by
  unfold fk;simp only[List.forall_mem_cons];refine#[?_,?_,?_,?_,?_,?_,λx a=>by cases a]<;>refine#[Wp,Wp,Wp]
 exact this y h
structure KU(n:Nat)(ps:CI):Prop where
 ne:∀p∈ps,∃x m,p=x::m
 fk:∀p∈ps,gT p∈fk
 on:gT (ps.getD 0 [])="on"
 p0:0<ps.length
 l:ps.length<=n
 w:∀p∈ps,∀w∈p,w.length<=sizeLine
theorem NU(h:∀w∈(("on":Str)::l),w.length<=sizeLine):KU (l.length+1) (pF ("on"::l)):=by
 obtain⟨f1,f2,a,f4⟩:=YR l;have e:pS [] "on" = [[("on":Str)]]:=di (show("on":Str)∈fk by decide +kernel);have g:∀p∈pF ("on"::l),p≠[]/\gT p∈fk:=by
  unfold pF;rw[ip,e];exact Rz l _ WE λp hp=>by rw[eC.1 hp];exact#[WE,show("on":Str)∈fk by decide +kernel]
 refine#[λp hp=>ui (f2 p hp),λp hp=>(g p hp).2,f4,sL.2 a,?_,λp hp w hw=>h w (f1▸List.mem_flatten.2 #[p,hp,hw])];have:=(AJ ("on"::l) []).2;rw[List.length_nil,gv]at this;unfold pF;lia
variable{ps:CI}
def To(ps:CI):((ps.map lD).filter λd=>isA (v5 d)).map (λd=>T.sh (Uw (v5 d).tail))=((yV ps).as.map ic.d).map T.sh:=by
 show _=(((ps.filter isA).map _).map _).map _;rw[List.filter_map,eI,eI,eI,show(λd=>isA (v5 d))∘lD=isA from funext λp=>by show isA (v5 (lD p))=_;rw[oW]];exact hB λp _=>by show T.sh (Uw (v5 (lD p)).tail)=_;rw[oW];rfl
def Th(ps:CI):((ps.map lD).filter λd=>xS (v5 d)).map (λd=>T.sh (N2 (v5 d).tail))=((yV ps).ds.map ia.d).map T.sh:=by
 show _=(((ps.filter xS).map _).map _).map _;rw[List.filter_map,eI,eI,eI,show(λd=>xS (v5 d))∘lD=xS from funext λp=>by show xS (v5 (lD p))=_;rw[oW]];exact hB λp _=>by show T.sh (N2 (v5 (lD p)).tail)=_;rw[oW];rfl
def RA{q:AT->Bool}{o:AT->Bool}(h:∀d∈ps.map lD,q (v5 d)=true->o (v5 d)=true):(ps.filter q).all o=true:=fR.2 λp hp=>by
 obtain⟨a,b⟩:=ij.1 hp;have:=h (lD p) (ew.2 #[p,a,rfl]);rw[oW]at this;exact this b
def A4{q:AT->Bool}{o:AT->Bool}(hp:p∈ps)(h1:q p=true)(a:o p=false):(ps.filter q).all o=false:=tI.2 #[p,ij.2 #[hp,h1],by rw[a];decide]
def lu.t(w:lu):T:=.tup [.sh (.str w.sg),.lst ((w.as.map ic.d).map T.sh),.lst ((w.ds.map ia.d).map T.sh),.sh (.str w.tg),.sh (.str w.md)]
def Jm{l:List α}{i:Nat}{d:α}(h:l[i]? = some d):l.drop i=d::l.drop (i+1):=by
 obtain⟨a,rfl⟩:=gz.1 h;exact ue a
def Tb{l:CI}{i:Nat}(h:i<l.length):l.getD i []∈l:=by
 rw[eM,gc h];exact oN h
def Ta(ws:AT):(Uw ws).j6=true:=by unfold Uw;cases (nY ws).getD default<;>rfl
def RB(ws:AT):(N2 ws).j6=true:=by unfold N2;cases (mR ws).getD default<;>rfl
def A5(x:Str):Int:=(fK.lookup x).getD 0
def ig(pw:Str)(mb:Int)(bl:Nat)(w:Str):Bool:=
 if w="box" then decide ((bl:Int)=0)&&decide (mb=-1)
 else if mb=-1 then decide ((bl:Int)=0)&&decide (w∈bu)
 else if w∈bu then decide ((1:Int)<=bl)&&decide ((bl:Int)<=mb+1)
 else decide ((bl:Int)=mb+1)&&decide (A5 pw<=A5 w)
instance:Inhabited lu:=#[#["",[],[],"",""]]
instance:Inhabited gP:=#[.bx "" 0]
def bt{p q:Prop}[Decidable p][Decidable q](h:(decide p&&decide q)=true):p/\q:=by
 rwa [et,fo,fo]at h
def bf{p q:Prop}[Decidable p][Decidable q](h:(decide p&&decide q)=false):¬ (p/\q):=λz=>by
 rw[eD z.1,eD z.2]at h;cases h
def gP.t:gP->T
 | .bx n k=>.sh (.tup [.str n,.int k])
 | .md _ x st=>.sh (.tup [.str x,.str st])
 | .dd _ d=>.sh d.d
 | .wy w=>w.t
def dQ.t(f:dQ):T:=.tup [.sh (.int f.r),.sh (.int f.bl),.sh (.str f.c.w),f.c.t]
theorem W0(c:gP):c.t.d7=c.d:=by
 cases c with
 | wy w=>
  show T.d7 (.tup [_,.lst _,.lst _,_,_])=_;rw[T.d7,T.dO,T.dO,T.dO,T.dO,T.dO,T.dO,cC,cC];rfl
 | _=>rfl
def qz(f:dQ):f.t.d7=f.d:=by
 unfold dQ.t;rw[T.d7,T.dO,T.dO,T.dO,T.dO,T.dO,W0];rfl
def W2(d:ia):d.d.j6=true:=by cases d<;>rfl
def W3(q:ic):q.d.j6=true:=by cases q<;>rfl
def yZ(w:lu):w.t.clean=true:=by
 have c:∀l:BB,D.bP l=true->(T.lst (l.map T.sh)).clean=true:=λl h=>bE h;show(true&&((T.lst ((w.as.map ic.d).map T.sh)).clean&&((T.lst ((w.ds.map ia.d).map T.sh)).clean&&(true&&(true&&true)))))=true;rw[c _ (b9 W3 _),c _ (b9 W2 _)];rfl
theorem y9(c:gP):c.t.clean=true:=by
 cases c with
 | wy w=>exact yZ w
 | dd w d=>cases d<;>rfl
 | _=>rfl
def za(f:dQ):f.t.clean=true:=by
 show(true&&(true&&(true&&(f.c.t.clean&&true))))=true;rw[y9];rfl
def L1(ws:AT):gP:=(lZ ws).getD default
def iD(x:Str):gP:=L1 (xZ x)
variable{b:Str}
def RC(h:aO a=true)(c:iW b=true):lZ ["box",a,b]=some (.bx a (intOf b)):=by
 rw[lZ,di #[rfl,rfl]];exact di #[h,c]
def Jo(h:aO a=false\/iW b=false):lZ ["box",a,b]=none:=by
 rw[lZ,di #[rfl,rfl]];exact cq λz=>h.elim (λy=>Bool.noConfusion (y.symm.trans z.1)) λy=>Bool.noConfusion (y.symm.trans z.2)
def RD(h:aO a=true)(c:aO b=true):lZ ["one",a,b]=some (.md "one" a b):=by
 rw[lZ,cq λz=>absurd z.1 Wp,di #[rfl,rfl]];exact di #[h,c]
def Jp(h:aO a=false\/aO b=false):lZ ["one",a,b]=none:=by
 rw[lZ,cq λz=>absurd z.1 Wp,di #[rfl,rfl]];exact cq λz=>h.elim (λy=>Bool.noConfusion (y.symm.trans z.1)) λy=>Bool.noConfusion (y.symm.trans z.2)
def Jq(hw:w∈(["leaf","all"]:AT)):lZ [w,a]=if aO a=true then some (.md w a "") else none:=by
 rw[lZ,cq λz=>absurd z.2 (show ¬ (1:Nat)=2 by decide),cq λz=>absurd z.2 (show ¬ (1:Nat)=2 by decide),di #[hw,rfl]];rfl
def RG(hw:w∈(["in","out"]:AT)):lZ (w::l)=(mR l).map (.dd w):=by
 have h:w≠"box" /\ w≠"one" /\ w∉(["leaf","all"]:AT):=by
  simp only[d3,eA,fb]at hw;obtain rfl|rfl:=hw<;>decide +kernel
 rw[lZ,cq λz=>h.1 z.1,cq λz=>h.2.1 z.1,cq λz=>h.2.2 z.1,di hw]
def RH:lZ ("on"::l)=if AY (pF ("on"::l))=true then some (.wy (yV (pF ("on"::l)))) else none:=by
 rw[lZ,cq λz=>absurd z.1 Wp,cq λz=>absurd z.1 Wp,cq λz=>absurd z.1 Wp,cq Wp,di rfl]
def v7(h1:¬ (w="box" /\ l.length=2))(d:¬ (w="one" /\ l.length=2))(c:¬ (w∈(["leaf","all"]:AT)/\l.length=1))(b:¬ w∈(["in","out"]:AT))(a:¬ w="on"):lZ (w::l)=none:=by
 rw[lZ,cq h1,cq d,cq c,cq b,cq a]
theorem KO{c:gP}(h:lZ (w::l)=some c):c.w=w:=by
 obtain⟨e,_⟩:=A0 h;cases c with
 | bx n k=>exact(hR e).1
 | md w x st=>exact(hR e).1
 | dd w d=>exact(hR e).1
 | wy v=>exact(hR (show("on":Str)::_=w::l from e)).1
theorem join_le{y:Str}:∀{l:AT} {w:Str},w∈l->w.length<=(Str.join y l).length
 | [a],w,h=>by
  rw[eC.1 h];exact ea _
 | a::c::l,w,h=>by
  rw[yQ,str_len,str_len];obtain rfl|h:=d3.1 h
  .lia
  .have:=join_le (y:=y) h;lia
theorem v8{y:Str}(b:1<=y.length):∀l:AT,l.length<=(Str.join y l).length+1
 | []=>fc _
 | [a]=>oP (fc _)
 | a::c::l=>by
  have:=v8 b (c::l);rw[yQ,str_len,str_len,gv];lia
def Dh(x y:Str):Txt.split x y≠[]:=by
 unfold Txt.split;split
 .simp
 split
 .simp
 .intro z;have:=congrArg List.length z;rw[PyProof.Rows.len_partsBetween]at this;cases this
def NO{x:Str}(h:w∈xZ x):w.length<=x.length:=by
 have:=join_le (y:=" ") h;rw[show Str.join " " (xZ x)=iH x from nC _ _]at this;exact er this (qy x).2
theorem S3(x:Str):(xZ x).length<=x.length+1:=by
 have:=v8 (y:=" ") (ea _) (xZ x);rw[show Str.join " " (xZ x)=iH x from nC _ _]at this;have:=(qy x).2;lia
def fO(x:Str):AT:=Txt.split x "\n"
def NN{x:Str}(h:w∈fO x):w.length<=x.length:=by
 have:=join_le (y:="\n") h
 rwa [show Str.join "\n" (fO x)=x from nC _ _]at this
def S1(x:Str):(fO x).length<=x.length+1:=by
 have:=v8 (y:="\n") (ea _) (fO x)
 rwa [show Str.join "\n" (fO x)=x from nC _ _]at this
def Jr(mb:Int)(x:Str):Int:=if (iD x).w∈bu then mS x else mb
def rq:Str->Int->AT->Bool
 | _,_,[]=>true
 | pw,mb,x::l=>(l0 x).isSome&&(ig pw mb (mS x) (iD x).w&&rq (iD x).w (Jr mb x) l)
def zb:Int->Str->Int->AT->Int
 | _,_,_,[]=>0
 | i,pw,mb,x::l=>if (l0 x).isSome=true/\ig pw mb (mS x) (iD x).w=true then zb (i+1) (iD x).w (Jr mb x) l else i
def xJ:Int->AT->List dQ
 | _,[]=>[]
 | i,x::l=>#[i,mS x,iD x]::xJ (i+1) l
theorem Di(x:Str):∀(l:AT) (i:Int),xJ i (l++[x])=xJ i l++[#[i+l.length,mS x,iD x]]
 | [],i=>by
  show [_]=[_];rw[show i+(([]:AT).length:Int)=i from Int.add_zero i]
 | a::l,i=>by
  show _::xJ (i+1) (l++[x])=_::(xJ (i+1) l++_);rw[Di x l,gv,show i+1+(l.length:Int)=i+((l.length+1:Nat):Int) by lia]
noncomputable def qA:AT:=["box","leaf","one","all","in","out","on"]
def z1{x:Str}(h:(l0 x).isSome=true):(iD x).w∈qA/\(iD x).R/\l0 x=some (iD x):=by
 obtain⟨c,a⟩:=iv.1 h;have e:iD x=c:=by unfold iD L1;rw[show lZ (xZ x)=some c from a];rfl
 rw[e];have r:=(WT a).2;refine#[?_,r,a];cases c with
 | bx n k=>exact show("box":Str)∈qA by decide +kernel
 | wy v=>exact show("on":Str)∈qA by decide +kernel
 | md w x st=>
  show w∈qA;obtain⟨e,_⟩|⟨e,_⟩:=r.2
  .rw[e];decide +kernel
  .simp only[d3,eA,fb]at e;obtain e|e:=e<;>rw[e]<;>decide +kernel
 | dd w d=>
  show w∈qA;have e:=r.1;simp only[d3,eA,fb]at e;obtain e|e:=e<;>rw[e]<;>decide +kernel
theorem A6:∀(l:AT) (i:Int),(xJ i l).length=l.length
 | [],_=>rfl
 | x::l,i=>congrArg (· + 1) (A6 l (i+1))
def RJ{bl:Nat}(h:w∈qA)(s:ig pw mb bl w=true):(mb=-1/\w∉bu)\/∃a,fK.lookup w=some a:=by
 simp only[qA,d3,eA,fb]at h;obtain rfl|rfl|rfl|rfl|rfl|rfl|rfl:=h
 .exact .inl #[(bt (show(decide ((bl:Int)=0)&&decide (mb=-1))=true from s)).2,Wp]
 .exact .inr #[0,Wp]
 .exact .inr #[0,Wp]
 .exact .inr #[0,Wp]
 .exact .inr #[1,Wp]
 .exact .inr #[2,Wp]
 .exact .inr #[3,Wp]
theorem RK{x:Str}(h:pk l x=true):YH l (pz l x)=x:=by
 by_cases e:x=""
 .rw[e,LY];exact di rfl
 .obtain⟨a,_⟩:=qv h e;unfold pk at h;rw[eu e,Bool.false_or,fo]at h;unfold YH;rw[cq Wl];unfold pz;rw[cq e,i1,eM,gc (List.idxOf_lt_length_of_mem h),List.getElem_idxOf];rfl
theorem Js{x:Str}(h:pk l x=true)(e:x≠""):l.getD (pz l x).toNat Str.empty=x:=by
 have:=RK h
 rwa [YH,cq (by have:=(qv h e).1;lia)]at this
section
variable{bs ms:AT}
theorem A7(h:WN n k)(o:pk bs n=true):vQ bs.length (WB bs n k)/\C2 bs (WB bs n k)=gw n k:=by
 obtain⟨a,b⟩:=h;refine#[#[_,k,rfl,?_,a],?_]
 .by_cases e:n=""
  .exact .inl (by rw[e];exact LY bs)
  .exact .inr (qv o e)
 .show(if pz bs n=-1 then sI k else if k=0 then bs.getD (pz bs n).toNat Str.empty else bs.getD (pz bs n).toNat Str.empty++BQ k++sI (k.natAbs:Int))=_;unfold gw;by_cases e:n=""
  .rw[e,LY,di rfl,di rfl]
  .have:=(qv o e).1;rw[cq Wl,cq e,Js o e]
theorem F0(h:d.R)(o:d.ok bs=true):N1 bs.length (d.n bs)/\dW bs (d.n bs)=d.ws:=by
 cases d with
 | call n=>exact#[.inl #[n,rfl,h],Wv bs n]
 | put b n k=>
  have o:(pk bs b&&pk bs n)=true:=o;rw[et]at o;obtain⟨a,c⟩:=A7 h.2 o.2;have nb:=fJ h.1;refine#[.inr (.inl #[_,_,rfl,qv o.1 nb,a]),(Uo bs _ _).trans ?_];rw[Js o.1 nb,c];rfl
 | say x n k=>
  obtain⟨a,c⟩:=A7 h.2 o;refine#[.inr (.inr #[x,_,rfl,h.1,a]),(T2 bs x _).trans ?_];rw[c];rfl
theorem RL{q:ic}(h:q.R)(o:q.ok bs ms=true):IJ bs.length ms.length (q.n bs ms)/\aW bs ms (q.n bs ms)=q.ws:=by
 cases q with
 | i6 w x=>
  have nx:=fJ h.2;obtain⟨a,c⟩:=qv o nx;have hw:=h.1;simp only[d3,eA,fb]at hw;refine#[.inl #[w,_,rfl,hw,a,c],?_];show [w,ms.getD (pz ms x).toNat Str.empty]=_;rw[Js o nx];rfl
 | num w n k n2 k2=>
  have o:(pk bs n&&pk bs n2)=true:=o;rw[et]at o;obtain⟨a,c⟩:=A7 h.2.1 o.1;obtain⟨a2,c2⟩:=A7 h.2.2 o.2;refine#[.inr #[w,_,_,rfl,h.1,a,a2],?_];show [C2 bs (WB bs n k),w,C2 bs (WB bs n2 k2)]=_;rw[c,c2];rfl
def lu.at(bs ms:AT)(m:Int)(w:lu):WY:=#[m,w.sg,w.as.map (ic.n bs ms),w.ds.map (ia.n bs),pz ms w.tg,w.md]
structure FC(nb nm:Nat)(w:WY):Prop where
 q:∀d∈w.qs,IJ nb nm d
 d:∀d∈w.ds,N1 nb d
 s:aO w.sg=true
 t:w.tg=-1/\w.md="new" \/ (0<=w.tg/\w.tg<nm)/\w.md∈(["new","near","far"]:AT)
theorem SU{w:lu}(m:Int)(h:w.R)(o:w.ok bs ms=true):FC bs.length ms.length (w.at bs ms m)/\wP bs ms (w.at bs ms m)=w.ps:=by
 obtain⟨h1,j,i,k⟩:=h;unfold lu.ok at o;rw[et,et,fR,fR]at o;obtain⟨f,c,b⟩:=o;refine#[#[λd hd=>?_,λd hd=>?_,h1,?_],?_]
 .obtain⟨q,a,rfl⟩:=ew.1 hd;exact(RL (j q a) (f q a)).1
 .obtain⟨q,a,rfl⟩:=ew.1 hd;exact(F0 (i q a) (c q a)).1
 .obtain⟨e,g⟩|⟨e,g⟩:=k
  .exact .inl #[by show pz ms w.tg=-1;rw[e];exact LY ms,g]
  .exact .inr #[qv b (fJ e),g]
 .unfold wP lu.ps;have e1:(w.at bs ms m).qs.map (aW bs ms)=w.as.map ic.ws:=by
   show(w.as.map _).map _=_;rw[eI];exact hB λq a=>(RL (j q a) (f q a)).2
  have e2:(w.at bs ms m).ds.map (dW bs)=w.ds.map ia.ws:=by
   show(w.ds.map _).map _=_;rw[eI];exact hB λq a=>(F0 (i q a) (c q a)).2
  have e3:yl ms (w.at bs ms m)=xY w.tg w.md:=by
   show(if pz ms w.tg=-1 then [] else [("to":Str)::ms.getD (pz ms w.tg).toNat Str.empty::y6 (w.at bs ms m)])=_;unfold xY;by_cases e:w.tg=""
   .rw[e,LY,di rfl,di rfl]
   .have:=(qv b e).1;rw[cq Wl,cq e,Js b e];rfl
  rw[e1,e2,e3];rfl
end
def Ux(mb:Int)(f:dQ):Int:=if f.c.w∈bu then f.bl else mb
def stK:Str->Int->List dQ->Prop
 | _,_,[]=>True
 | pw,mb,f::l=>ig pw mb f.bl f.c.w=true/\stK f.c.w (Ux mb f) l
def dQ.line(f:dQ):Str:=Txt.mul " " (f.bl:Int)++Str.join " " f.c.ws
def CH.BR(c:CH)(ms:AT)(m:Nat):Do:=.md (dM c.es m).length (c.ks.getD m Str.empty) (c.ns.getD m Str.empty) (YH ms (c.ss.getD m 0)) (c.ss.getD m 0) ::
 ((c.is.getD m []).map (.io (dM c.es m).length "in")++(c.os.getD m []).map (.io (dM c.es m).length "out")++(c.ws.filter λw=>decide (w.src=(m:Int))).map (.wy (dM c.es m).length))
def CH.gA(c:CH)(ms:AT):Do:=c.br++(List.range c.es.length).flatMap (c.BR ms)
def Mt(bs ms:AT)(f:dQ)(r:RW):Prop:=r.line bs ms=f.line/\r.nf f.r=f.n bs ms
structure Ga(bs ms:AT)(c:CH)(pw:Str)(mb:Int):Prop where
 nl:c.ns.length=c.es.length
 kl:c.ks.length=c.es.length
 sl:c.ss.length=c.es.length
 il:c.is.length=c.es.length
 ol:c.os.length=c.es.length
 pre:kG c.es
 nm:FR c.ns
 bk:∀q∈c.bs,aO q.1=true/\q.2.natAbs<10 ^ 30
 kd:∀m:Nat,m<c.es.length->c.ks.getD m Str.empty∈bu/\((c.ks.getD m Str.empty="one" /\ 0<=c.ss.getD m 0/\c.ss.getD m 0<ms.length)\/(c.ks.getD m Str.empty≠"one" /\ c.ss.getD m 0=-1))
 ii:∀l∈c.is,∀d∈l,N1 bs.length d
 oo:∀l∈c.os,∀d∈l,N1 bs.length d
 ww:∀w∈c.ws,FC bs.length ms.length w/\0<=w.src/\w.src<c.es.length
 ss:c.ws.Pairwise λa c=>a.src<=c.src
 e0:mb=-1->c.es=[]
 e1:mb ≠ -1->∃k:Nat,k+1=c.es.length/\((dM c.es k).length:Int)=mb/\(∃a,fK.lookup pw=some a)/\(A5 pw<=1->c.os.getD k []=[])/\(A5 pw<=2->∀w∈c.ws,w.src≠k)
def kj{l:List α}{a d:α}{i:Nat}(h:i<l.length):(l++[a]).getD i d=l.getD i d:=by
 rw[eM,lj h,<- eM]
def W4{l:List α}{a d:α}{n:Nat}(h:n=l.length):(l++[a]).getD n d=a:=by
 rw[h,eM,i5 (ea _),l5];rfl
theorem Jt{es:BN}(h:lU es):∀(i:Nat) {m:Int},0<=m->m<es.length->i<=(dM es m).length->∃x,(dM es x).length+i=(dM es m).length/\(x=m\/x∈dM es m)/\0<=x/\x<es.length
 | 0,m,h0,h1,_=>#[m,rfl,.inl rfl,h0,h1]
 | i+1,m,h0,h1,hi=>by
  have e:=rM h h0 h1;have hm:=h.at h0 h1;generalize es.getD m.toNat 0=y at e hm;by_cases f:y=-1
  .rw[e,di f]at hi;exact absurd hi (Nat.not_succ_le_zero i)
  .rw[cq f]at e;have g:(dM es m).length=(dM es y).length+1:=by rw[e,gv]
   obtain⟨x,a,b,c,d⟩:=Jt h i (m:=y) Wl Wl Wl;refine#[x,Wl,.inr ?_,c,d];rw[e];obtain rfl|b:=b
   .exact d6
   .exact ee _ b
theorem RM{bl:Nat}(h:kG es)(g:(es=[]/\bl=0)\/∃k:Nat,k+1=es.length/\1<=bl/\bl<=(dM es k).length+1):∃x,kG (es++[x])/\(dM (es++[x]) (es.length:Nat)).length=bl/\∀m:Nat,m<es.length->dM (es++[x]) m=dM es m:=by
 obtain⟨rfl,rfl⟩|⟨k,f,b1,b2⟩:=g
 .refine#[-1,#[QF,λk f=>?_],Wp,λm hm=>absurd hm (nR m)];have:k+1<1:=f;lia
 .obtain⟨x,a,b,c,d⟩:=Jt h.1 ((dM es k).length+1-bl) (m:=(k:Int)) Wl Wl Wl;have hp:=h.snoc f b;refine#[x,hp,?_,λm hm=>As h.1 Wl Wl];have e:=rM hp.1 (m:=((es.length:Nat):Int)) Wl (by rw[fv,hV];lia);rw[i1,W4 rfl,cq Wl,As h.1 c d]at e;rw[e,gv];lia
def W5{x:Str}(h:x∈bu):fK.lookup x=some 0:=by
 simp only[bu,d3,eA,fb]at h;obtain rfl|rfl|rfl:=h<;>decide +kernel
variable{bs ms:AT}{c:CH}
def rT{β:Type}{f g:Nat->List β}{n:Nat}{x:β}(h:∀m,m<n->f m=g m)(e:f n=g n++[x]):(List.range (n+1)).flatMap f=(List.range (n+1)).flatMap g++[x]:=by
 rw[oI,kA,kA,eB];have:(List.range n).flatMap f=(List.range n).flatMap g:=by
  rw[List.flatMap,List.flatMap,hB λm hm=>h m (gC.1 hm)]
 rw[this];congr 1;simp[e]
theorem NM(G:Ga bs ms c pw mb){f:dQ}(hf:f.c=.bx n k)(e:f.c.R)(a:ig pw mb f.bl f.c.w=true):∃d r,Ga bs ms d f.c.w (Ux mb f)/\d.gA ms=c.gA ms++[r]/\Mt bs ms f r/\d.bn=c.bn++[n]/\d.ns=c.ns:=by
 obtain⟨fr,bl,h⟩:=f;dsimp only at hf e a ⊢;subst hf;have a:(decide ((bl:Int)=0)&&decide (mb=-1))=true:=a;rw[et,fo,fo]at a;obtain⟨g,hm⟩:=a;obtain rfl:bl=0:=by lia
 have he:=G.e0 hm;have em:Ux mb (#[fr,0,.bx n k]:dQ)=mb:=cq (by show ¬ (("box":Str)∈bu);decide +kernel);refine#[{c with bs:=c.bs++[(n,k)]},.bx n k,?_,?_,#[rfl,rfl],fx ..,rfl]
 .rw[em];refine#[G.nl,G.kl,G.sl,G.il,G.ol,G.pre,G.nm,λq b=>?_,G.kd,G.ii,G.oo,G.ww,G.ss,G.e0,λz=>absurd hm z];obtain b|b:=eg.1 b
  .exact G.bk q b
  .rw[eC.1 b];exact e
 .unfold CH.gA;show(c.bs++[(n,k)]).map _++(List.range c.es.length).flatMap _=c.br++(List.range c.es.length).flatMap _++_;rw[he,fx];show c.br++[RW.bx n k]++[]=c.br++[]++[RW.bx n k];rw[e6,e6]
theorem NL(G:Ga bs ms c pw mb){f:dQ}{x st:Str}(hf:f.c=.md w x st)(j:f.c.R)(o:f.c.ok bs ms=true)(i:ig pw mb f.bl f.c.w=true):∃q r,Ga bs ms q f.c.w (Ux mb f)/\q.gA ms=c.gA ms++[r]/\Mt bs ms f r/\q.bn=c.bn/\q.ns=c.ns++[x]:=by
 obtain⟨fr,bl,B⟩:=f;dsimp only at hf j o i ⊢;subst hf;have j:aO x=true/\((w="one" /\ aO st=true)\/(w∈(["leaf","all"]:AT)/\st="")):=j;have o:pk ms st=true:=o;have hw:w∈bu:=by
  obtain⟨e,_⟩|⟨e,_⟩:=j.2
  .rw[e];decide +kernel
  .simp only[bu,d3,eA,fb]at e ⊢;obtain e|e:=e
   .exact .inl e
   .exact .inr (.inr e)
 have t:w≠"box":=λe=>by
  rw[e]at hw;exact absurd hw Wp
 have em:Ux mb (#[fr,bl,.md w x st]:dQ)=bl:=di hw;have A:(c.es=[]/\bl=0)\/∃k:Nat,k+1=c.es.length/\1<=bl/\bl<=(dM c.es k).length+1:=by
  have i:ig pw mb bl w=true:=i;unfold ig at i;rw[cq t]at i;by_cases z:mb=-1
  .rw[di z,et,fo]at i;exact .inl #[G.e0 z,by have:=i.1;lia]
  .rw[cq z,di hw,et,fo,fo]at i;obtain⟨k,k1,k2,_⟩:=G.e1 z;exact .inr #[k,k1,by have:=i.1;lia,by have:=i.2;lia]
 obtain⟨e,v,p2,u⟩:=RM G.pre A;have p:(c.es++[e]).length=c.es.length+1:=by rw[fv,hV]
 have up:∀{α:Type} {l:List α} (a:α),l.length=c.es.length->(l++[a]).length=(c.es++[e]).length:=λ{α l} a h=>by rw[p,fv,hV,h]
 have fl:∀w∈c.ws,w.src≠(c.es.length:Int):=λw hw z=>by
  have:=(G.ww w hw).2.2;lia
 have s:YH ms (pz ms st)=st:=RK o;refine#[#[c.bs,c.ns++[x],c.ks++[w],c.es++[e],c.ss++[pz ms st],c.is++[[]],c.os++[[]],c.ws],.md bl w x st (pz ms st),?_,?_,#[rfl,rfl],rfl,rfl]
 .rw[em];refine#[up x G.nl,up w G.kl,up _ G.sl,up [] G.il,up [] G.ol,v,λy n=>?_,G.bk,λm hm=>?_,λl g d hd=>?_,λl g d hd=>?_,λw hw=>?_,G.ss,λz=>by lia,λ_=>#[c.es.length,p.symm,by rw[p2],#[0,W5 hw],λ_=>W4 G.ol.symm,λ_=>fl]]
  .obtain n|n:=eg.1 n
   .exact G.nm y n
   .rw[eC.1 n];exact j.1
  .have hm:m<(c.es++[e]).length:=hm;show(c.ks++[w]).getD m Str.empty∈bu/\(((c.ks++[w]).getD m Str.empty="one" /\ 0<=(c.ss++[pz ms st]).getD m 0/\(c.ss++[pz ms st]).getD m 0<ms.length)\/((c.ks++[w]).getD m Str.empty≠"one" /\ (c.ss++[pz ms st]).getD m 0=-1));by_cases z:m<c.es.length
   .rw[kj (by rw[G.kl];exact z),kj (by rw[G.sl];exact z)];exact G.kd m z
   .have z:m=c.es.length:=by lia
    rw[W4 (z.trans G.kl.symm),W4 (z.trans G.sl.symm)];refine#[hw,?_];obtain⟨a,b⟩|⟨a,b⟩:=j.2
    .exact .inl #[a,qv o (fJ b)]
    .refine .inr #[λz=>?_,by rw[b];exact LY ms];rw[z]at a;exact absurd a Wp
  .obtain g|g:=eg.1 g
   .exact G.ii l g d hd
   .rw[eC.1 g]at hd;cases hd
  .obtain g|g:=eg.1 g
   .exact G.oo l g d hd
   .rw[eC.1 g]at hd;cases hd
  .have:=G.ww w hw;exact#[this.1,this.2.1,by show w.src<((c.es++[e]).length:Int);rw[p];have:=this.2.2;lia]
 .unfold CH.gA;show c.br++(List.range (c.es++[e]).length).flatMap (CH.BR #[c.bs,c.ns++[x],c.ks++[w],c.es++[e],c.ss++[pz ms st],c.is++[[]],c.os++[[]],c.ws] ms)=c.br++(List.range c.es.length).flatMap (c.BR ms)++[RW.md bl w x st (pz ms st)];rw[p,oI,kA,eB c.br];have e1:(List.range c.es.length).flatMap (CH.BR #[c.bs,c.ns++[x],c.ks++[w],c.es++[e],c.ss++[pz ms st],c.is++[[]],c.os++[[]],c.ws] ms)=(List.range c.es.length).flatMap (c.BR ms):=by
   rw[List.flatMap,List.flatMap,hB λm hm=>?_];have hm:=gC.1 hm;unfold CH.BR;dsimp only;rw[u m hm,kj (by rw[G.kl];exact hm),kj (by rw[G.nl];exact hm),kj (by rw[G.sl];exact hm),kj (by rw[G.il];exact hm),kj (by rw[G.ol];exact hm)]
  have e2:CH.BR #[c.bs,c.ns++[x],c.ks++[w],c.es++[e],c.ss++[pz ms st],c.is++[[]],c.os++[[]],c.ws] ms c.es.length=[RW.md bl w x st (pz ms st)]:=by
   unfold CH.BR;dsimp only;rw[p2,W4 G.kl.symm,W4 G.nl.symm,W4 G.sl.symm,W4 G.il.symm,W4 G.ol.symm,s,nr.2 λw hw=>by rw[eu (fl w hw)];decide];rfl
  rw[e1,i0,e2];rfl
def zd{l:List α}{i:Nat}{v d:α}(h:i<l.length):(l.set i v).getD i d=v:=by
 rw[eM,List.getElem?_set_self h];rfl
def ze{l:List α}{i m:Nat}{v d:α}(h:i≠m):(l.set i v).getD m d=l.getD m d:=by
 rw[eM,eM,ti h]
def RN{l:List (List α)}{k:Nat}{d:α}(c:k<l.length){P:α->Prop}(h:∀x∈l,∀y∈x,P y)(hd:P d):∀x∈l.set k (l.getD k []++[d]),∀y∈x,P y:=λx b y a=>by
 obtain b|rfl:=v3 b
 .exact h x b y a
 .obtain a|a:=eg.1 a
  .rw[eM,gc c]at a;exact h _ (oN c) y a
  .rw[eC.1 a];exact hd
theorem NJ(G:Ga bs ms c pw mb){f:dQ}(hf:f.c=.dd w d)(s:f.c.R)(t:f.c.ok bs ms=true)(a:ig pw mb f.bl f.c.w=true):∃j r,Ga bs ms j f.c.w (Ux mb f)/\j.gA ms=c.gA ms++[r]/\Mt bs ms f r/\j.bn=c.bn/\j.ns=c.ns:=by
 obtain⟨fr,bl,y⟩:=f;dsimp only at hf s t a ⊢;subst hf;obtain⟨hw,hd⟩:w∈(["in","out"]:AT)/\d.R:=s;obtain⟨n1,n2⟩:=F0 hd (show d.ok bs=true from t);have l:w≠"box" /\ w∉bu:=by
  simp only[d3,eA,fb]at hw;obtain rfl|rfl:=hw<;>decide +kernel
 have em:Ux mb (#[fr,bl,.dd w d]:dQ)=mb:=cq l.2;have a:ig pw mb bl w=true:=a;unfold ig at a;rw[cq l.1]at a;by_cases z:mb=-1
 .rw[di z,et,fo,fo]at a;exact absurd a.2 l.2
 rw[cq z,cq l.2,et,fo,fo]at a;obtain⟨v,b⟩:=a;obtain⟨k,k1,k2,_,q,k5⟩:=G.e1 z;have o:bl=(dM c.es k).length+1:=by lia
 have mt:Mt bs ms #[fr,bl,.dd w d] (.io (dM c.es k).length w (d.n bs)):=by
  rw[o];refine#[?_,rfl];show Txt.mul " " _++Str.join " " (w::dW bs (d.n bs))=Txt.mul " " _++Str.join " " (w::d.ws);rw[n2];rfl
 have i:k<c.is.length:=by rw[G.il];lia
 have e:k<c.os.length:=by rw[G.ol];lia
 have wn:(∀w∈c.ws,w.src≠k)->(c.ws.filter λw=>decide (w.src=(k:Int)))=[]:=λh=>nr.2 λw hw=>by rw[eu (h w hw)];decide
 simp only[d3,eA,fb]at hw;obtain rfl|rfl:=hw
 .have u:A5 ("in":Str)=1:=by decide +kernel
  rw[u]at b;refine#[{c with is:=c.is.set k (c.is.getD k []++[d.n bs])},_,?_,?_,mt,rfl,rfl]
  .rw[em];exact#[G.nl,G.kl,G.sl,(nT ..).trans G.il,G.ol,G.pre,G.nm,G.bk,G.kd,RN i G.ii n1,G.oo,G.ww,G.ss,G.e0,λ_=>#[k,k1,k2,#[1,show fK.lookup ("in":Str)=some 1 by decide +kernel],λ_=>q b,λ_=>k5 Wl]]
  .unfold CH.gA;show c.br++(List.range c.es.length).flatMap _=_;rw[<- k1];refine(congrArg (c.br ++ ·) (rT (g:=c.BR ms) (x:=.io (dM c.es k).length "in" (d.n bs)) (λm hm=>?_) ?_)).trans (eB ..).symm
   .unfold CH.BR;dsimp only;rw[ze Wl]
   .unfold CH.BR;dsimp only;rw[zd i,q b,wn (k5 Wl)];simp
 .have p:A5 ("out":Str)=2:=by decide +kernel
  rw[p]at b;refine#[{c with os:=c.os.set k (c.os.getD k []++[d.n bs])},_,?_,?_,mt,rfl,rfl]
  .rw[em];exact#[G.nl,G.kl,G.sl,G.il,(nT ..).trans G.ol,G.pre,G.nm,G.bk,G.kd,G.ii,RN e G.oo n1,G.ww,G.ss,G.e0,λ_=>#[k,k1,k2,#[2,show fK.lookup ("out":Str)=some 2 by decide +kernel],λh=>absurd (show(2:Int)<=1 from p▸(show A5 ("out":Str)<=1 from h)) WA,λ_=>k5 b]]
  .unfold CH.gA;show c.br++(List.range c.es.length).flatMap _=_;rw[<- k1];refine(congrArg (c.br ++ ·) (rT (g:=c.BR ms) (x:=.io (dM c.es k).length "out" (d.n bs)) (λm hm=>?_) ?_)).trans (eB ..).symm
   .unfold CH.BR;dsimp only;rw[ze Wl]
   .unfold CH.BR;dsimp only;rw[zd e,wn (k5 b)];simp
theorem NI(G:Ga bs ms c pw mb){f:dQ}{v:lu}(hf:f.c=.wy v)(n:f.c.R)(o:f.c.ok bs ms=true)(d:ig pw mb f.bl f.c.w=true):∃e r,Ga bs ms e f.c.w (Ux mb f)/\e.gA ms=c.gA ms++[r]/\Mt bs ms f r/\e.bn=c.bn/\e.ns=c.ns:=by
 obtain⟨fr,bl,t⟩:=f;dsimp only at hf n o d ⊢;subst hf;have i:("on":Str)≠"box" /\ ("on":Str)∉bu:=by decide +kernel
 have em:Ux mb (#[fr,bl,.wy v]:dQ)=mb:=cq i.2;have d:ig pw mb bl "on" = true:=d;unfold ig at d;rw[cq i.1]at d;by_cases z:mb=-1
 .rw[di z,et,fo,fo]at d;exact absurd d.2 i.2
 rw[cq z,cq i.2,et,fo,fo]at d;obtain⟨p,s⟩:=d;obtain⟨k,k1,k2,_,_,_⟩:=G.e1 z;have j:bl=(dM c.es k).length+1:=by lia
 obtain⟨n1,n2⟩:=SU (k:Int) (show v.R from n) (show v.ok bs ms=true from o);have l:A5 ("on":Str)=3:=by decide +kernel
 refine#[{c with ws:=c.ws++[v.at bs ms k]},.wy (dM c.es k).length (v.at bs ms k),?_,?_,?_,rfl,rfl]
 .rw[em];refine#[G.nl,G.kl,G.sl,G.il,G.ol,G.pre,G.nm,G.bk,G.kd,G.ii,G.oo,λw hw=>?_,?_,G.e0,λ_=>#[k,k1,k2,#[3,show fK.lookup ("on":Str)=some 3 by decide +kernel],λh=>absurd (show(3:Int)<=1 from l▸(show A5 ("on":Str)<=1 from h)) WA,λh=>absurd (show(3:Int)<=2 from l▸(show A5 ("on":Str)<=2 from h)) WA]]
  .obtain hw|hw:=eg.1 hw
   .exact G.ww w hw
   .rw[eC.1 hw];exact#[n1,by show(0:Int)<=k;lia,by show(k:Int)<c.es.length;lia]
  .refine List.pairwise_append.2 #[G.ss,List.pairwise_singleton _ _,λa q b p=>?_];rw[eC.1 p];have:=(G.ww a q).2.2;show a.src<=k;lia
 .unfold CH.gA;show c.br++(List.range c.es.length).flatMap _=_;rw[<- k1];refine(congrArg (c.br ++ ·) (rT (g:=c.BR ms) (x:=.wy (dM c.es k).length (v.at bs ms k)) (λm hm=>?_) ?_)).trans (eB ..).symm
  .unfold CH.BR;dsimp only;rw[hF,hP (by show ¬ decide ((k:Int)=m)=true;rw[eu Wl];decide),List.filter_nil,e6]
  .unfold CH.BR;dsimp only;rw[hF,lh (by show decide ((k:Int)=k)=true;exact eD rfl),List.filter_nil,fx];simp
 .rw[j];refine#[?_,rfl];show Txt.mul " " _++Str.join " " (wP bs ms (v.at bs ms k)).flatten=Txt.mul " " _++Str.join " " v.ps.flatten;rw[n2];rfl
def oa(bs ms:AT):List dQ->Do->Prop
 | [],[]=>True
 | f::l,r::rs=>Mt bs ms f r/\oa bs ms l rs
 | _,_=>False
theorem gather:∀(l:List dQ) (c:CH) (pw:Str) (mb:Int),Ga bs ms c pw mb->stK pw mb l->(∀f∈l,f.c.R/\f.c.ok bs ms=true)->∃i t s rs,Ga bs ms i t s/\i.gA ms=c.gA ms++rs/\oa bs ms l rs/\i.bn=c.bn++Ep l/\i.ns=c.ns++C9 l
 | [],c,pw,mb,G,_,_=>#[c,pw,mb,[],G,(e6 _).symm,trivial,(e6 _).symm,(e6 _).symm]
 | f::l,c,pw,mb,G,m,h=>by
  obtain⟨o,p⟩:=h f d6;have st:∃i r,Ga bs ms i f.c.w (Ux mb f)/\i.gA ms=c.gA ms++[r]/\Mt bs ms f r/\i.bn=c.bn++Ep [f]/\i.ns=c.ns++C9 [f]:=by
   have nil:∀{l:AT},l=l++[]:=λ{l}=>(e6 l).symm;cases j:f.c with
   | bx n k=>
    obtain⟨i,r,a,b,d,e,g⟩:=NM G j o m.1;rw[j]at a;refine#[i,r,a,b,d,?_,?_]
    .rw[e];unfold Ep;rw[lh (by rw[j];rfl)];show _=_++[f.c.nm];rw[j];rfl
    .rw[g];unfold C9;rw[hP (by rw[j];exact Bool.noConfusion)];exact nil
   | md w x st=>
    obtain⟨i,r,a,b,d,e,g⟩:=NL G j o p m.1;rw[j]at a;refine#[i,r,a,b,d,?_,?_]
    .rw[e];unfold Ep;rw[hP (by rw[j];exact Bool.noConfusion)];exact nil
    .rw[g];unfold C9;rw[lh (by rw[j];rfl)];show _=_++[f.c.nm];rw[j];rfl
   | dd w d=>
    obtain⟨i,r,a,b,d,e,g⟩:=NJ G j o p m.1;rw[j]at a;refine#[i,r,a,b,d,?_,?_]
    .rw[e];unfold Ep;rw[hP (by rw[j];exact Bool.noConfusion)];exact nil
    .rw[g];unfold C9;rw[hP (by rw[j];exact Bool.noConfusion)];exact nil
   | wy v=>
    obtain⟨i,r,a,b,d,e,g⟩:=NI G j o p m.1;rw[j]at a;refine#[i,r,a,b,d,?_,?_]
    .rw[e];unfold Ep;rw[hP (by rw[j];exact Bool.noConfusion)];exact nil
    .rw[g];unfold C9;rw[hP (by rw[j];exact Bool.noConfusion)];exact nil
  obtain⟨c1,r,a,b,d,e,g⟩:=st;obtain⟨i,t,s,rs,a2,b2,d2,e2,g2⟩:=gather l c1 _ _ a m.2 λq u=>h q (ee _ u);have cons:∀(q:dQ->Bool),(((f::l).filter q).map (·.c.nm))=(([f].filter q).map (·.c.nm))++((l.filter q).map (·.c.nm)):=λq=>by
   rw[<- fx,<- hF];rfl
  exact#[i,t,s,r::rs,a2,by rw[b2,b,eB];rfl,#[d,d2],by rw[e2,e,eB];exact congrArg _ (cons _).symm,by rw[g2,g,eB];exact congrArg _ (cons _).symm]
def Iy:Ga bs ms #[[],[],[],[],[],[],[],[]] "" (-1):=#[rfl,rfl,rfl,rfl,rfl,#[λk b=>absurd b (nR k),λk b=>absurd b (nR _)],λx c=>by(cases c),λq d=>by(cases d),λm hm=>absurd hm (nR m),λl a=>by(cases a),λl a=>by(cases a),λw hw=>by(cases hw),.nil,λ_=>rfl,λz=>absurd rfl z]
theorem v9{α β:Type}{P:β->Prop}{f:β->α}:∀(l:List α),(∀a∈l,∃q,a=f q/\P q)->∃qs:List β,l=qs.map f/\∀q∈qs,P q
 | [],_=>by simp
 | a::l,h=>by
  obtain⟨q,e,g⟩:=h a d6;obtain⟨qs,e2,d⟩:=v9 l λb i=>h b (ee _ i);refine#[q::qs,by rw[e,e2];rfl,λx c=>?_];obtain rfl|c:=d3.1 c
  .exact g
  simp_all
theorem NH(a:k.natAbs<10 ^ 30):Wd k=true:=by
 unfold Wd;grind
theorem Ju{a:Int}(c:a=-1\/(0<=a/\a<nb))(b:k.natAbs<10 ^ 30):Fw nb a k=true:=by
 unfold Fw xG;rw[NH b];simp_all
def Jv{n:Nat}(h:0<=k/\k<n):xG k n=true:=by
 unfold xG;rw[eD h.1,eD h.2];rfl
theorem YV{d:L3.D}(h:N1 nb d):∃q:Iz,d=Eo q/\kn q/\kq nb q=true:=by
 have sm:∀{x:Str},aO x=true->x.length<=1000:=λh=>by
  have:=(eW h).2.1;lia
 obtain⟨n,rfl,b⟩|⟨k,t,rfl,g,⟨a,c,rfl,f,e⟩⟩|⟨n,t,rfl,b,⟨a,c,rfl,f,e⟩⟩:=h
 .exact#[.call n,rfl,sm b,b]
 .refine#[.put k a c,rfl,trivial,?_];show(xG k nb&&Fw nb a c)=true;rw[Jv g,Ju f e];rfl
 .refine#[.say n a c,rfl,sm b,?_];show(aO n&&Fw nb a c)=true;rw[b,Ju f e];rfl
theorem NG{nm:Nat}{d:L3.D}(h:IJ nb nm d):∃q:YD,d=Wf q/\Wg q/\rx nm nb q=true:=by
 obtain⟨w,k,rfl,hw,e⟩|⟨w,s,t,rfl,hw,⟨a,c,rfl,g,f⟩,⟨a2,c2,rfl,b,i⟩⟩:=h
 .refine#[.i6 w k,rfl,?_,Jv e];show w∈(["open","shut"]:AT);simp_all
 .refine#[.num w a c a2 c2,rfl,?_,?_]
  .show ¬ w∈(["open","shut"]:AT);simp at hw;obtain rfl|rfl|rfl|rfl:=hw<;>decide +kernel
  .show(decide _&&(Fw nb a c&&Fw nb a2 c2))=true;rw[eD hw,Ju g f,Ju b i];rfl
theorem YW{nm:Nat}{w:WY}(h:xl nb nm w)(a:0<=w.src/\w.src<nm):∃q:Wh,w.d=Wi q/\q.Ok nm nb/\q.src=w.src/\∀x∈q.dl,kn x/\kq nb x=true:=by
 obtain⟨al,f,b⟩:=v9 _ λd hd=>NG (h.q d hd);obtain⟨dl,c,hd⟩:=v9 _ λd hd=>YV (h.d d hd);refine#[#[ _,_,al,dl,w.tg,w.md],?_,#[Jv a,#[by have:=(eW h.s).2.1;show w.sg.length<=1000;lia,h.s],?_,?_,b],rfl,hd]
 .show L3.D.tup _=L3.D.tup _;rw[f,c]
 .obtain⟨_,e⟩|⟨_,e⟩:=h.t
  .rw[e];simp
  .exact e
 .show(w.tg=-1/\w.md="new")\/(w.tg ≠ -1/\xG _ nm=true);obtain e|⟨e,_⟩:=h.t
  .exact .inl e
  .exact .inr #[Wl,Jv e]
theorem RP(l:EU)(h:∀x∈l,∀d∈x,N1 nb d):∃qs:List (List Iz),l.map L3.D.tup=qs.map (λl=>L3.D.tup (l.map Eo))/\qs.length=l.length/\∀x∈qs,∀q∈x,kn q/\kq nb q=true:=by
 obtain⟨qs,e,b⟩:=v9 l λx a=>v9 x λd hd=>YV (h x a d hd);refine#[qs,?_,?_,b]
 .rw[e,eI];rfl
 simp_all
theorem F2{f:Int->α}(l:BN):(List.range l.length).map (λm=>f (l.getD m 0))=l.map f:=by
 refine l3 λi=>?_;simp;by_cases h:i<l.length
 .simp_all
 simp_all
structure N3(c:CH):Prop extends Ww c where
 nl:c.ns.length=c.es.length
 kl:c.ks.length=c.es.length
 sl:c.ss.length=c.es.length
 il:c.is.length=c.es.length
 ol:c.os.length=c.es.length
 e1:c.es.length<=49
 n:FR c.ns
 bk:∀q∈c.bs,aO q.1=true/\q.2.natAbs<10 ^ 30
 bl:c.bs.length<=1000
 one:∀m:Nat,m<c.es.length->(c.ks.getD m Str.empty="one" /\ 0<=c.ss.getD m 0/\c.ss.getD m 0<c.ns.length)\/(c.ks.getD m Str.empty≠"one" /\ c.ss.getD m 0=-1)
 is:∀l∈c.is,∀d∈l,N1 c.bn.length d
 os:∀l∈c.os,∀d∈l,N1 c.bn.length d
 wn:∀w∈c.ws,xl c.bn.length c.ns.length w/\0<=w.src/\w.src<c.es.length
 ws:c.ws.Pairwise λa c=>a.src<=c.src
 wl:c.ws.length<=100
 rl:c.rows.length<=4964
theorem nK(h:N3 c):∀r∈c.rows,r.Ok c.bn c.ns:=by
 intro r f;have k:=h.nl;obtain f|f:=eg.1 f
 .obtain⟨p,hp,rfl⟩:=ew.1 f;exact h.bk p hp
 .obtain⟨m,hm,f⟩:=List.mem_flatMap.1 f;have hm:=gC.1 hm;have hd:(dM c.es m).length<=50:=by
   have o:(dM c.es (m:Int)).length<=c.es.length+1:=Au _ _ _;have:=h.e1;lia
  have j:∀{l:EU},c.is.length=c.es.length->∀d,d∈l.getD m []->∃x∈l,d∈x:=λ{l} _ d hd=>by
   rw[eM]at hd;cases e:l[m]? with
   | none=>rw[e]at hd;cases hd
   | some x=>rw[e]at hd;exact#[x,fw e,hd]
  obtain rfl|f:=d3.1 f
  .refine#[hd,(h.kinds m hm),h.n _ (Fy Wl),?_];obtain⟨a,b,d⟩|⟨a,b⟩:=h.one m hm
   .exact .inl #[a,#[b,d],di a]
   .exact .inr #[a,cq a,b]
  obtain f|f:=eg.1 f
  .obtain f|f:=eg.1 f
   .obtain⟨d,g,rfl⟩:=ew.1 f;obtain⟨x,i,hd2⟩:=j h.il d g;exact#[hd,Wp,h.is x i d hd2]
   .obtain⟨d,g,rfl⟩:=ew.1 f;obtain⟨x,i,hd2⟩:=j h.il d g;exact#[hd,Wp,h.os x i d hd2]
  .obtain⟨w,hw,rfl⟩:=ew.1 f;exact#[hd,(h.wn w (ij.1 hw).1).1]
theorem RQ(h:N3 c)(b:Bool):c.rows.foldl (gD (if b then "in" else "out")) []=c.dl b:=by
 unfold CH.rows CH.br;rw[hY,YK,Rf];have a:(c.dl b).length=c.es.length:=by
  cases b with
  | true=>exact h.il
  | false=>exact h.ol
 refine l3 λi=>?_;rw[fT];by_cases hi:i<c.es.length
 .rw[hU hi,gc Wl];show some ((c.dl b).getD i [])=_;rw[eM,gc Wl];rfl
 .rw[List.getElem?_eq_none (by rw[gx];lia),List.getElem?_eq_none Wl];rfl
def YX(s:c.ws.Pairwise λa c=>a.src<=c.src)(h:∀w∈c.ws,0<=w.src/\w.src<c.es.length):(c.rows.foldl gW ([],-1)).1=c.ws.map WY.d:=by
 unfold CH.rows CH.br;rw[hY,YL,Rh];show List.map WY.d _=_;rw[C8 _ _ s h]
def RT(h:N3 c):D.bP c.tO=true:=gG λd hd=>by
 obtain⟨i,r,_,a,_,rfl⟩:=uw (F:=λi r=>r.nf ((i:Nat)+1:Int)) hd;exact Wx (nK h r a)
def CH.W6(c:CH):BB:=c.tO.filter λd=>decide ((b8 d 2).toS∈bu)
def qB(h:N3 c){g:L3.D->T}{g':RW->T}(b:∀i r,g (r.nf i)=g' r):T.lst ((c.W6.filter λ_=>true).map g)=.lst ((List.range c.es.length).map λm=>g' (c.md m)):=by
 rw[fG];unfold CH.W6;have:=AK (p:=λd=>decide ((b8 d 2).toS∈bu)) (g:=g) (p':=RW.Uu) (g':=g') c.rows (λi r=>r.nf ((i:Nat)+1:Int)) (λi r a=>AO (nK h r a)) (λi r _ _=>b _ r);rw[TC,eI]at this;exact congrArg T.lst this
theorem qD(h:N3 c){d:L3.D}(hd:d∈c.W6):∃(i:Int) (n:Nat) (k x:Str) (z:Int),d=.tup [.int i,.int (n:Nat),.str k,.tup [.str x,.int z]]:=by
 obtain⟨h1,b⟩:=ij.1 hd;obtain⟨i,r,_,a,_,rfl⟩:=uw (F:=λi r=>r.nf ((i:Nat)+1:Int)) h1;have z:r.Uu=true:=(AO (nK h r a))▸b;cases r with
 | bx n k=>cases z
 | io n w d=>cases z
 | wy n w=>cases z
 | md n k x st y=>exact#[_,n,k,x,y,rfl]
def mT(es:BN):Bool:=(List.range es.length).all λm=>decide ((dM es (m:Int)).length<=12)
def F3(ks:AT)(es ss:BN):Bool:=decide (0<es.length)&&(mT es&&(LQ ks es&&Fx ks es ss))
def CH.lk(c:CH):Bool:=F3 c.ks c.es c.ss&&(mO c.ns&&CY c.bs)
def CH.t(c:CH):T:=.ins "Chart" (mL (c.bs.map Ft) (c.ns.map .str) (.ins "Tree" (qg c.ks c.es c.ss)) (c.is.map .tup) (c.os.map .tup) (c.ws.map WY.d))
def uA{l:EU}(h:∀x∈l,∀d∈x,N1 nb d):D.bP (l.map L3.D.tup)=true:=gG λd hd=>by
 obtain⟨x,a,rfl⟩:=ew.1 hd;exact show D.bP x=true from gG λd hd=>FI (h x a d hd)
def Jw(h:N3 c):D.bP (c.ws.map WY.d)=true:=gG λd hd=>by
 obtain⟨w,hw,rfl⟩:=ew.1 hd;obtain⟨a,b,e⟩:=h.wn w hw;have bl:c.bn.length=c.bs.length:=d4 ..;obtain⟨q,eq,_⟩:=YW a #[b,h.nl▸e];rw[eq];show(true&&(true&&(D.bP (q.al.map Wf)&&(D.bP (q.dl.map Eo)&&(true&&(true&&true))))))=true;rw[b9 (f:=Wf) (λq=>by cases q<;>rfl) q.al,b9 (f:=Eo) (λq=>by cases q<;>rfl) q.dl];rfl
def RV(h:N3 c):c.t.clean=true:=
 AH (b9 (λ_=>rfl) c.bs) (ji _) (sW _ _ _) (uA h.is) (uA h.os) (Jw h)
def gP.Sm:gP->Prop
 | .wy v=>v.as.length+v.ds.length<=40
 | _=>True
theorem F4:∀{l:AT} {i:Int} {pw:Str} {mb:Int},rq pw mb l=true->stK pw mb (xJ i l)/\∀f∈xJ i l,f.c.R
 | [],_,_,_,_=>#[trivial,λf hf=>by cases hf]
 | y::l,i,pw,mb,h=>by
  have h:((l0 y).isSome&&(ig pw mb (mS y) (iD y).w&&rq (iD y).w (Jr mb y) l))=true:=h;rw[et,et]at h;obtain⟨h1,e,d⟩:=h;obtain⟨a,b⟩:=F4 (i:=i+1) d;refine#[#[e,a],λf hf=>?_];obtain rfl|hf:=d3.1 hf
  .exact(z1 h1).2.1
  .exact b f hf
theorem Jx{bs ms:AT}:∀{l:List dQ} {rs:Do},oa bs ms l rs->rs.length=l.length
 | [],[],_=>rfl
 | f::l,r::rs,h=>congrArg (· + 1) (Jx h.2)
theorem Jy{bs ms:AT}:∀{l:List dQ} {rs:Do},oa bs ms l rs->∀r∈rs,∃f∈l,Mt bs ms f r
 | [],[],_,r,c=>by cases c
 | f::l,d::rs,h,r,c=>by
  obtain rfl|c:=d3.1 c
  .exact#[f,d6,h.1]
  .obtain⟨g,a,b⟩:=Jy h.2 r c;exact#[g,ee _ a,b]
theorem RX{bs ms:AT}:∀{l:AT} {i:Int} {rs:Do},oa bs ms (xJ i l) rs->(xJ i l).map (dQ.n bs ms)=(List.range rs.length).map λ(j:Nat)=>(rs.getD j (.bx "" 0)).nf (i+j)
 | [],_,[],_=>rfl
 | y::l,i,r::rs,h=>by
  have a:=RX h.2;show _::(xJ (i+1) l).map _=_;rw[a,gv,List.range_succ_eq_map,eJ,eI];refine congr (congrArg List.cons ?_) (hB λj _=>?_)
  .rw[show i+((0:Nat):Int)=i from Int.add_zero i];exact h.1.2.symm
  .show _=(rs.getD j (.bx "" 0)).nf (i+((j+1:Nat):Int));rw[show i+((j+1:Nat):Int)=i+1+(j:Int) by lia]
theorem RZ{bs ms:AT}:∀{l:List dQ} {rs:Do},oa bs ms l rs->rs.map (RW.line bs ms)=l.map dQ.line
 | [],[],_=>rfl
 | f::l,r::rs,h=>by rw[eJ,eJ,RZ h.2,h.1.1]
theorem SS(h:∀m:Nat,m<c.es.length->(c.ks.getD m Str.empty="one" /\ 0<=c.ss.getD m 0)\/(c.ks.getD m Str.empty≠"one" /\ c.ss.getD m 0=-1)):c.gA c.ns=c.rows:=by
 unfold CH.gA CH.rows;refine congrArg (c.br ++ ·) ?_;rw[List.flatMap,List.flatMap,hB λm hm=>?_];unfold CH.BR CH.mr YH;obtain⟨a,b⟩|⟨a,b⟩:=h m (gC.1 hm)
 .rw[di a,cq Wl]
 .rw[cq a,di b]
structure Fd(l:List dQ)(c:CH):Prop where
 v:N3 c
 b:c.bn=Ep l
 n:c.ns=C9 l
 ln:c.rows.map (RW.line c.bn c.ns)=l.map dQ.line
structure Uz(x:Str):Prop where
 ll:(fO x).length<=49
 sm:∀f∈xJ 1 (fO x),f.c.Sm
def rV(x:Str):List dQ:=xJ 1 (fO x)
def W7(x:Str):Bool:=(rV x).all (Uv (rV x))
def uB(x:Str):(rV x).length=(fO x).length:=A6 _ _
def uC(p:α->Bool)(f:α->Str)(l:List α):((l.filter p).map f).length<=l.length:=by
 rw[d4];exact List.length_filter_le _ _
theorem R0{x:Str}(hp:Uz x)(r:rq "" (-1) (fO x)=true)(u:W7 x=true):∃c,Fd (rV x) c/\(rV x).map (dQ.n c.bn c.ns)=c.tO:=by
 obtain⟨st,y⟩:=F4 (i:=1) r;obtain⟨c,pw,mb,rs,G,l,mt,e1,e2⟩:=gather (bs:=Ep (rV x)) (ms:=C9 (rV x)) (rV x) _ "" (-1) Iy st λf hf=>#[y f hf,fR.1 u f hf];have e1:c.bn=Ep (rV x):=e1;have e2:c.ns=C9 (rV x):=e2;have l:c.gA (C9 (rV x))=rs:=l;have o:=SS (c:=c) λm hm=>(G.kd m hm).2.imp (λa=>#[a.1,a.2.1]) id;rw[e2,l]at o;subst o;rw[<- e1,<- e2]at G mt;have b:=hp.ll;have rl:c.rows.length<=49:=by rw[Jx mt,uB];exact b
 have wl:c.ws.length<=49:=by
  have:=FJ c.rows ([],-1);rw[YX G.ss λw hw=>(G.ww w hw).2,d4]at this;exact er (er this (Nat.le_of_eq (Nat.zero_add _))) rl
 have nl:c.ns.length<=49:=by rw[e2];exact er (uC _ _ _) (by rw[uB];exact b)
 have bl:c.bs.length<=49:=by
  have:c.bn.length<=49:=by rw[e1];exact er (uC _ _ _) (by rw[uB];exact b)
  rwa [show c.bn.length=c.bs.length from d4 ..]at this
 refine#[c,#[#[#[G.pre,λm hm=>(G.kd m hm).1],G.nl,G.kl,G.sl,G.il,G.ol,G.nl▸nl,G.nm,G.bk,Wl,λm hm=>(G.kd m hm).2,G.ii,G.oo,λw hw=>?_,G.ss,Wl,Wl],e1,e2,RZ mt],?_]
 .obtain⟨g,s0,s1⟩:=G.ww w hw;refine#[#[?_,g.q,g.d,g.s,g.t],s0,s1];have e:((w.src.toNat:Nat):Int)=w.src:=Int.toNat_of_nonneg s0;have p:RW.wy (dM c.es (w.src.toNat:Nat)).length w∈c.rows:=eL _ (List.mem_flatMap.2 #[w.src.toNat,gC.2 Wl,ee _ (eL _ (ew.2 #[w,ij.2 #[hw,eD e.symm],rfl]))]);obtain⟨⟨fr,z,h⟩,hf,_,en⟩:=Jy mt _ p;have sm:=hp.sm _ hf;have en:L3.D.tup [.int fr,.int _,.str "on",.tup [.str w.sg,.tup w.qs,.tup w.ds,.int w.tg,.str w.md]]=.tup [.int fr,.int z,.str h.w,h.n c.bn c.ns]:=en;simp only[L3.D.tup.injEq,List.cons.injEq,and_true]at en;obtain⟨_,_,A,en⟩:=en;cases h with
  | wy v=>
   simp only[gP.n,lu.n,L3.D.tup.injEq,List.cons.injEq,and_true]at en;rw[en.2.1,en.2.2.1,d4,d4];exact sm
  | bx n k=>simp[gP.n]at en
  | md w x st=>simp[gP.n]at en
  | dd w d=>cases d<;>simp[gP.n,ia.n]at en
 .refine(RX mt).trans (hB λj _=>?_);rw[Int.add_comm]
open Classical in
def tP(x:Str):CH:=if h:∃c,Fd (rV x) c/\(rV x).map (dQ.n c.bn c.ns)=c.tO then h.choose else#[[],[],[],[],[],[],[],[]]
def R3{x:Str}(hp:Uz x)(a:rq "" (-1) (fO x)=true)(b:W7 x=true):Fd (rV x) (tP x)/\(rV x).map (dQ.n (tP x).bn (tP x).ns)=(tP x).tO:=by
 unfold tP;rw[dif_pos (R0 hp a b)];exact(R0 hp a b).choose_spec
def Er(x:Str):Ex:=if rq "" (-1) (fO x)=false then("BadRow",some [("row",.int (zb 1 "" (-1) (fO x)))]) else if W7 x=false then("NoName",some [("row",.int (LW (rV x)))]) else(if F3 (tP x).ks (tP x).es (tP x).ss=false then "BadTree" else if mO (tP x).ns=false then "BadName" else "BadBox",none)
def all2{P:Str->Prop}{c:Str}(h1:P a)(d:P c):∀x∈[a,c],P x:=λx b=>by
 simp only[d3,eA,fb]at b;obtain rfl|rfl:=b
 .exact h1
 .exact d
def R4{P:Str->Prop}{c d:Str}(h1:P a)(f:P c)(e:P d):∀x∈[a,c,d],P x:=λx b=>by
 simp only[d3,eA,fb]at b;obtain rfl|rfl|rfl:=b
 .exact h1
 .exact f
 .exact e
def Dk(h:aO n=true):∃c l,(gw n k).cps.toList=c::l/\97<=c:=by
 obtain⟨c,l,e,a,_⟩:=IU h;unfold gw;rw[cq (fJ h)];split
 .exact#[c,l,e,a]
 .exact#[c,l++(BQ k).cps.toList++(sI (k.natAbs:Int)).cps.toList,by rw[aQ,aQ,e];rfl,a]
def wc(h:k.natAbs<10 ^ 30):intOf (sI k)=k:=by
 unfold intOf;rw[vU h];rfl
theorem A8(h:WN n k):xX (gw n k)=some (n,k):=by
 obtain⟨b,rfl|a⟩:=h
 .rw[show gw "" k=sI k from di rfl,xX,di (QJ b),wc b]
 .obtain⟨c,l,e,d⟩:=Dk (k:=k) a;have dash:("-":Str)=#[(List.toArray [45])]:=by decide +kernel
  have plus:("+":Str)=#[(List.toArray [43])]:=by decide +kernel
  have nn:iW (gw n k)=false:=FE e d;unfold xX;rw[cq (by rw[nn];exact fg)];by_cases h0:k=0
  .have ex:gw n k=n:=(cq (fJ a)).trans (di h0);have ep:part3 (gw n k) (xH (gw n k))=[n,"",""]:=by
    rw[ex];unfold xH;split
    .rw[dash];exact AI (IW a WA)
    .rw[plus];exact AI (IW a WA)
   rw[ep,h0];exact(di a).trans (di rfl)
  .have ex:gw n k=n++BQ k++sI (k.natAbs:Int):=(cq (fJ a)).trans (cq h0);have em:xH (gw n k)=BQ k:=by
    unfold xH;rw[dash,Rr,gO,ex];by_cases z:k<0
    .rw[di (eD ((C5 a h0).2 z)),cq Wl]
    .rw[cq (by rw[eu (λy=>z ((C5 a h0).1 y))];exact fg),di Wl];exact plus
   have ep:part3 (gw n k) (xH (gw n k))=[n,BQ k,sI (k.natAbs:Int)]:=by
    rw[em,ex,gO];exact vS (IW a (by split<;>decide))
   have hf:gM (sI (k.natAbs:Int))=true:=FD Wl b;have ne:¬ BQ k="":=λz=>by
    have:=congrArg (λx:Str=>x.cps.toList.length) z;rw[gO]at this;cases this
   rw[ep,em];refine(di a).trans ((cq ne).trans ((di hf).trans ?_));show some (n,if BQ k="+" then intOf (sI (k.natAbs:Int)) else -intOf (sI (k.natAbs:Int)))=_;rw[wc Wl,plus,gO];by_cases z:0<k
   .rw[di z,di rfl,show((k.natAbs:Nat):Int)=k by lia]
   .rw[cq z,cq WA,show -((k.natAbs:Nat):Int)=k by lia]
theorem F5(h:d.R):mR d.ws=some d:=by
 cases d with
 | call n=>exact di #[rfl,h]
 | put b n k=>
  refine(di #[.inl rfl,h.1]).trans ?_;rw[A8 h.2];exact congrArg some (di rfl)
 | say x n k=>
  refine(di #[.inr rfl,h.1]).trans ?_;rw[A8 h.2];exact congrArg some (cq (show ¬ ("say":Str)="put" by decide +kernel))
variable{q:ic}
theorem R5(h:q.R):nY q.ws=some q:=by
 cases q with
 | i6 w x=>exact di h
 | num w n k n2 k2=>
  refine(di h.1).trans ?_;rw[A8 h.2.1,A8 h.2.2];rfl
def We(x:Str):Prop:=x≠"" /\ x.length<=53/\∀c∈x.cps.toList,33<=c/\c<128
noncomputable def fS{x:Str}(h:x∈(["box","leaf","one","all","in","out","on","if","and","do","then","to","new","near","far","put","call","say","open","shut","<","<=","=","!="]:AT)):We x:=(show ∀y∈(["box","leaf","one","all","in","out","on","if","and","do","then","to","new","near","far","put","call","say","open","shut","<","<=","=","!="]:AT),y≠"" /\ y.length<=53/\∀c∈y.cps.toList,33<=c/\c<128 by decide +kernel) x h
theorem kH{x:Str}(h:aO x=true):We x:=#[fJ h,by have:=(eW h).2.1;lia,λc a=>by have:=(eW h).2.2.2 c a;lia]
def R6{x:Str}(h:x.cps.toList≠[]):x≠"":=λz=>h (by rw[z];rfl)
theorem R7(k:Int):(sI k).cps.toList≠[]:=by
 by_cases h0:k<0
 .rw[nJ h0];exact hq _ _
 .obtain⟨m,rfl⟩:=i9 (show 0<=k by lia);exact IQ m
theorem R8(h:k.natAbs<10 ^ 30):We (sI k):=#[R6 (R7 k),er (vR h) WA,λc a=>by have:=mQ k c a;lia]
theorem Dl(h:WN n k):We (gw n k)/\gw n k∉fk:=by
 obtain⟨d,rfl|b⟩:=h
 .rw[show gw "" k=sI k from di rfl];refine#[R8 d,?_];cases e:(sI k).cps.toList with
  | nil=>exact absurd e (R7 k)
  | cons c l=>
   have a:c∈(sI k).cps.toList:=by rw[e];exact d6
   have:=mQ k c a;exact YJ a Wl
 .obtain⟨c,l,e,a⟩:=Dk (k:=k) b;refine#[#[R6 (by rw[e];exact hq _ _),?_],?_]
  .unfold gw;rw[cq (fJ b)];split
   .exact(kH b).2
   .have i:=(eW b).2.1;have g:(sI (k.natAbs:Int)).length<=30:=C4 d;have f:(BQ k).length=1:=by rw[gO];rfl
    refine#[by rw[<- aK,aQ,aQ,fv,fv,aK,aK,aK];lia,λc a=>?_];rw[aQ,aQ,eg,eg,gO]at a;rcases a with(a|a)|a
    .exact(kH b).2.2 c a
    .have:c=if 0<k then 43 else 45:=eC.1 a
     split at this<;>lia
    .have:=mQ _ c a;lia
  .by_cases h0:k=0
   .rw[show gw n k=n from(cq (fJ b)).trans (di h0)];exact vZ b
   .rw[show gw n k=n++BQ k++sI (k.natAbs:Int) from(cq (fJ b)).trans (cq h0)];refine YJ (c:=if 0<k then 43 else 45) ?_ (by split<;>decide);rw[aQ,aQ,gO];exact ft _ (eL _ (eC.2 rfl))
theorem R9(h:d.R):∀x∈d.ws,We x/\x∉fk:=by
 cases d with
 | call n=>exact all2 #[fS Wp,Wp] #[kH h,vZ h]
 | put b n k=>exact R4 #[fS Wp,Wp] #[kH h.1,vZ h.1] (Dl h.2)
 | say b n k=>exact R4 #[fS Wp,Wp] #[kH h.1,vZ h.1] (Dl h.2)
theorem YY(h:q.R):∀x∈q.ws,We x/\x∉fk:=by
 cases q with
 | i6 w x=>
  have hw:=h.1;simp only[d3,eA,fb]at hw;refine all2 ?_ #[kH h.2,vZ h.2];obtain rfl|rfl:=hw<;>exact#[fS Wp,Wp]
 | num w n k n2 k2=>
  have hw:=h.1;simp only[ju,d3,eA,fb]at hw;refine R4 (Dl h.2.1) ?_ (Dl h.2.2);obtain rfl|rfl|rfl|rfl:=hw<;>exact#[fS Wp,Wp]
theorem Jz:∀{l:AT} {x:Str},xV x l->lV x l=true
 | [],_,_=>rfl
 | y::l,x,h=>by
  show(decide (y∈iS x)&&lV y l)=true;rw[eD h.1,Jz h.2];rfl
variable{w:lu}
def Dm(n m:Str):∀x∈(["on","if","and","do","then"]:AT),xV x ((xY n m).map gT):=λx a=>by
 have e:∀x∈(["on","if","and","do","then"]:AT),("to":Str)∈iS x:=by decide +kernel
 unfold xY;split
 .trivial
 .exact#[e x a,trivial]
def W8(A D:CI)(n m:Str):xV "on" ((lk "if" "and" A++lk "do" "then" D++xY n m).map gT):=by
 have hd:∀x∈(["on","if","and"]:AT),xV x ((lk "do" "then" D).map gT++(xY n m).map gT):=λx b=>by
  have e:∀x∈(["on","if","and"]:AT),("do":Str)∈iS x/\x∈(["on","if","and","do","then"]:AT):=by decide +kernel
  exact QY (Dm n m x (e x b).2) (e x b).1 Wp Wp λy a=>Dm n m y (by
   simp only[d3,eA,fb]at a;obtain rfl|rfl:=a<;>decide +kernel)
 rw[fx,fx,eB];exact QY (hd _ Wp) Wp Wp Wp λy a=>hd y (by
  simp only[d3,eA,fb]at a;obtain rfl|rfl:=a<;>decide +kernel)
def Sb(h:w.R):∀p∈w.ps,xy p/\∀x∈p,We x:=by
 obtain⟨h1,v,u,t⟩:=h;have d:∀{f g:Str} {l:CI},f∈fk->g∈fk->We f->We g->(∀q∈l,∀x∈q,We x/\x∉fk)->∀p∈lk f g l,xy p/\∀x∈p,We x:=λ{f g l} hf s wf o j p hp=>by
  obtain⟨x,b,rfl|rfl⟩:=jt hp
  .exact#[#[f,x,rfl,hf,λy c=>(j x b y c).2],λy c=>(d3.1 c).elim (λe=>e▸wf) λc=>(j x b y c).1]
  .exact#[#[g,x,rfl,s,λy c=>(j x b y c).2],λy c=>(d3.1 c).elim (λe=>e▸o) λc=>(j x b y c).1]
 intro p hp;obtain rfl|hp:=d3.1 hp
 .exact#[#["on",[w.sg],rfl,Wp,λx b=>by rw[eC.1 b];exact vZ h1],all2 (fS Wp) (kH h1)]
 obtain hp|hp:=eg.1 hp
 .obtain hp|hp:=eg.1 hp
  .refine d Wp Wp (fS Wp) (fS Wp) (λq k=>?_) p hp;obtain⟨a,m,rfl⟩:=ew.1 k;exact YY (v a m)
  .refine d Wp Wp (fS Wp) (fS Wp) (λq k=>?_) p hp;obtain⟨a,m,rfl⟩:=ew.1 k;exact R9 (u a m)
 .unfold xY at hp;split at hp
  .cases hp
  .rename_i r;rw[eC.1 hp];obtain⟨n,hm⟩:=t.resolve_left λz=>r z.1;have i:∀x∈(if w.md="new" then [] else [w.md]),We x/\x∉fk:=λx b=>by
    split at b
    .cases b
    .rw[eC.1 b];simp only[d3,eA,fb]at hm;obtain e|e|e:=hm<;>rw[e]<;>exact#[fS Wp,Wp]
   refine#[#["to",_,rfl,Wp,λx b=>?_],λx b=>?_]
   .exact(d3.1 b).elim (λe=>e▸vZ n) λb=>(i x b).2
   .obtain rfl|b:=d3.1 b
    .exact fS Wp
    .exact(d3.1 b).elim (λe=>e▸kH n) λb=>(i x b).1
def YZ(h:w.R):pF w.ps.flatten=w.ps:=by
 unfold pF;rw[QV _ [] λp hp=>(Sb h p hp).1];rfl
def Sd{q:Str->Bool}{z y:Bool}(h1:q "on" = false)(e:q "to" = false)(d:q "if" = z)(c:q "and" = z)(b:q "do" = y)(a:q "then" = y):w.ps.filter (λp=>q (gT p))=(if z then lk "if" "and" (w.as.map ic.ws) else [])++if y then lk "do" "then" (w.ds.map ia.ws) else []:=by
 have no:∀{p:AT} (l:CI),q (gT p)=false->(p::l).filter (λp=>q (gT p))=l.filter (λp=>q (gT p)):=λl h=>hP (p:=λp=>q (gT p)) (by rw[h];exact fg);have t:(xY w.tg w.md).filter (λp=>q (gT p))=[]:=by
  unfold xY;split
  .rfl
  .exact no [] e
 unfold lu.ps;rw[no (p:=[("on":Str),w.sg]) _ h1,hF,hF,jc d c,jc b a,t,e6]
def zK:w.ps.filter isA=lk "if" "and" (w.as.map ic.ws):=by
 refine(Sd (q:=λx=>decide (x∈(["if","and"]:AT))) (z:=true) (y:=false) Wp Wp Wp Wp Wp Wp).trans ?_;exact e6 _
def zv:w.ps.filter xS=lk "do" "then" (w.ds.map ia.ws):=Sd (q:=λx=>decide (x∈(["do","then"]:AT))) (z:=false) (y:=true) Wp Wp Wp Wp Wp Wp
def Se{l:CI}{o:AT->Bool}(h:∀q∈l,o q=true):(lk f g l).all (λp=>o p.tail)=true:=fR.2 λp hp=>by
 obtain⟨x,a,rfl|rfl⟩:=jt hp<;>exact h x a
def Sf[Inhabited α]{l:List α}{F:AT->Option α}{W:α->AT}(h:∀a∈l,F (W a)=some a):((lk f g (l.map W)).map λp=>(F p.tail).getD default)=l:=by
 have:((lk f g (l.map W)).map λp=>(F p.tail).getD default)=((lk f g (l.map W)).map List.tail).map λq=>(F q).getD default:=by rw[eI];rfl
 rw[this,qp,eI];refine(hB λa b=>?_).trans (List.map_id' l);show(F (W a)).getD default=a;rw[h a b];rfl
theorem Dn{l m:List α}{d:α}(h:m≠[]):(l++m).getD ((l++m).length-1) d=m.getD (m.length-1) d:=by
 have:=sL.2 h;rw[eM,eM,i5 (by rw[fv];lia),fv];congr 2;lia
def Sg(h:w.R):qx (gy w.ps)=some (w.tg,w.md):=by
 have c:=h.2.2.2;unfold gy;by_cases e:w.tg=""
 .have a:xY w.tg w.md=[]:=di e;have em:w.md="new":=by
   obtain z|z:=c
   .exact z.2
   .exact absurd e (fJ z.1)
  have hp:w.ps≠[]:=hq _ _;have hm:=ql [] (sL.2 hp);have nt:gT (w.ps.getD (w.ps.length-1) [])≠"to":=by
   generalize w.ps.getD (w.ps.length-1) []=p at hm;unfold lu.ps at hm;rw[a,e6]at hm;obtain rfl|hm:=d3.1 hm
   .exact show ¬ ("on":Str)="to" by decide +kernel
   obtain hm|hm:=eg.1 hm
   .obtain⟨x,_,rfl|rfl⟩:=jt hm
    .exact show ¬ ("if":Str)="to" by decide +kernel
    .exact show ¬ ("and":Str)="to" by decide +kernel
   .obtain⟨x,_,rfl|rfl⟩:=jt hm
    .exact show ¬ ("do":Str)="to" by decide +kernel
    .exact show ¬ ("then":Str)="to" by decide +kernel
  unfold qx;rw[di nt,e,em]
 .have a:xY w.tg w.md=[("to":Str)::w.tg::if w.md="new" then [] else [w.md]]:=cq e;obtain⟨b,hm⟩:=c.resolve_left λz=>e z.1;have d:w.ps.getD (w.ps.length-1) []=("to":Str)::w.tg::if w.md="new" then [] else [w.md]:=by
   unfold lu.ps;rw[a,<- g4,Dn (hq _ _)];rfl
  rw[d];by_cases z:w.md="new"
  .rw[di z,A2 b,z]
  .rw[cq z];refine A3 ?_ b;simp only[d3,eA,fb]at hm ⊢;exact hm.resolve_left z
def SO(h:w.R):AY w.ps=true/\yV w.ps=w:=by
 have f:=h.2.1;have e:=h.2.2.1;have e0:w.ps.getD 0 []=[("on":Str),w.sg]:=rfl;constructor
 .unfold AY;rw[e0,zK,zv,Sg h];have a1:=Jz (W8 (w.as.map ic.ws) (w.ds.map ia.ws) w.tg w.md);have a2:(lk "if" "and" (w.as.map ic.ws)).all (λp=>(nY p.tail).isSome)=true:=Se (o:=λq=>(nY q).isSome) λq c=>by
   obtain⟨a,b,rfl⟩:=ew.1 c;show(nY a.ws).isSome=true;rw[R5 (f a b)];rfl
  have a3:(lk "do" "then" (w.ds.map ia.ws)).all (λp=>(mR p.tail).isSome)=true:=Se (o:=λq=>(mR q).isSome) λq c=>by
   obtain⟨a,b,rfl⟩:=ew.1 c;show(mR a.ws).isSome=true;rw[F5 (e a b)];rfl
  rw[a2,a3];show(lV "on" ((lk "if" "and" (w.as.map ic.ws)++lk "do" "then" (w.ds.map ia.ws)++xY w.tg w.md).map gT)&&(true&&(true&&(true&&(true&&aO w.sg)))))=true;rw[a1,h.1];rfl
 .unfold yV;rw[e0,zK,zv,Sg h,Sf λa b=>R5 (f a b),Sf λd hd=>F5 (e d hd)];rfl
theorem Sh{c:gP}(h:c.R):lZ c.ws=some c:=by
 cases c with
 | bx n k=>exact(RC h.1 (QJ h.2)).trans (by rw[wc h.2])
 | md w x st=>
  obtain⟨rfl,f⟩|⟨hw,rfl⟩:=h.2
  .show lZ (("one":Str)::x::if st="" then [] else [st])=_;rw[cq (fJ f)];exact RD h.1 f
  .exact(Jq hw).trans (di h.1)
 | dd w d=>exact(RG h.1).trans (by rw[F5 h.2];rfl)
 | wy v=>
  have e:v.ps.flatten=("on":Str)::(v.ps.flatten).tail:=rfl;obtain⟨a,b⟩:=SO (w:=v) h;show lZ v.ps.flatten=_;rw[e,RH,<- e,YZ h,di a,b]
theorem sX{c:gP}(h:c.R):∀x∈c.ws,We x:=by
 cases c with
 | bx n k=>exact R4 (fS Wp) (kH h.1) (R8 h.2)
 | md w x st=>
  obtain⟨rfl,b⟩|⟨hw,rfl⟩:=h.2
  .show ∀y∈("one":Str)::x::(if st="" then [] else [st]),We y;rw[cq (fJ b)];exact R4 (fS Wp) (kH h.1) (kH b)
  .refine all2 ?_ (kH h.1);simp only[d3,eA,fb]at hw;obtain rfl|rfl:=hw<;>exact fS Wp
 | dd w d=>
  intro x a;obtain rfl|a:=d3.1 a
  .have hw:=h.1;simp only[d3,eA,fb]at hw;obtain rfl|rfl:=hw<;>exact fS Wp
  .exact(R9 h.2 x a).1
 | wy v=>
  intro x a;obtain⟨p,hp,a⟩:=List.mem_flatten.1 a;exact(Sb (w:=v) h p hp).2 x a
theorem NF{n:Nat}(h0:ws≠[])(h1:∀x∈ws,32∉x.cps.toList)(a:(Str.join " " ws).cps.toList.head? ≠ some 32):xZ (Txt.mul " " (n:Int)++Str.join " " ws)=ws/\mS (Txt.mul " " (n:Int)++Str.join " " ws)=n:=by
 have e:iH (Txt.mul " " (n:Int)++Str.join " " ws)=Str.join " " ws:=yR a;refine#[?_,?_]
 .unfold xZ;rw[e,g9];exact rS h0 h1
 .unfold mS;rw[e,<- aK,aQ,qm,fv,iw,aK];lia
def L5(h0:ws≠[])(h:∀x∈ws.head?,x≠"" /\ 32∉x.cps.toList):(Str.join " " ws).cps.toList.head? ≠ some 32:=by
 rw[g9];have no:∀{x:Str} (t:Cc),x≠""->32∉x.cps.toList->(x.cps.toList++t).head? ≠ some 32:=λ{x} t h1 b z=>by
  cases e:x.cps.toList with
  | nil=>exact h1 (eN e)
  | cons c l=>
   rw[e]at z b;have:c=32:=e5 z;exact b (by rw[this];exact d6)
 cases ws with
 | nil=>exact absurd rfl h0
 | cons a l=>
  obtain⟨h1,b⟩:=h a rfl;cases l with
  | nil=>
   have:=no [] h1 b;rw[e6]at this;exact this
  | cons e l=>
   rw[fH];exact no _ h1 b
theorem JA{x:Str}(h:We x):32∉x.cps.toList:=λz=>by
 have:=h.2.2 32 z;lia
def JB{n:Nat}{w:Str}{r:AT}(h0:We w)(h:∀x∈r,x="" \/ We x):xZ (Txt.mul " " (n:Int)++Str.join " " (w::r))=w::r/\mS (Txt.mul " " (n:Int)++Str.join " " (w::r))=n:=by
 refine NF (hq _ _) (λx a=>?_) (L5 (hq _ _) λx a=>?_)
 .obtain rfl|a:=d3.1 a
  .exact JA h0
  .obtain rfl|a:=h x a
   .exactλz=>by cases z
   .exact JA a
 .cases (e5 a:w=x);exact#[h0.1,JA h0]
theorem jL{c:gP}:∃x r,c.ws=c.w::x::r:=by
 cases c with
 | bx n k=>exact#[n,[sI k],rfl]
 | md w x st=>exact#[x,_,rfl]
 | dd w d=>cases d<;>exact#[_,_,rfl]
 | wy v=>exact#[v.sg,_,rfl]
def Dp{c:gP}(h:c.R)(n:Nat):l0 (Txt.mul " " (n:Int)++Str.join " " c.ws)=some c/\mS (Txt.mul " " (n:Int)++Str.join " " c.ws)=n/\iD (Txt.mul " " (n:Int)++Str.join " " c.ws)=c:=by
 obtain⟨x,r,e⟩:=jL (c:=c);have hw:=sX h;rw[e]at hw;obtain⟨a,b⟩:=JB (n:=n) (hw _ d6) (λy d=>.inr (hw y (ee _ d)));rw[<- e]at a b;have f:l0 (Txt.mul " " (n:Int)++Str.join " " c.ws)=some c:=by unfold l0;rw[a,Sh h]
 exact#[f,b,by unfold iD L1;rw[a,Sh h];rfl]
theorem Dq(h:("":Str)∈ws):lZ ws=none:=by
 cases e:lZ ws with
 | none=>rfl
 | some c=>
  obtain⟨a,b⟩:=A0 e;exact absurd rfl (sX b "" (a▸h)).1
theorem Si:mR (d.ws++[("x9":Str)])=none:=by
 cases d with
 | call n=>exact Df Wp
 | put b n k=>exact A1 (ws:=[("put":Str),b,gw n k,("x9":Str)]) (show ¬ 4=2 by decide) (show ¬ 4=3 by decide)
 | say b n k=>exact A1 (ws:=[("say":Str),b,gw n k,("x9":Str)]) (show ¬ 4=2 by decide) (show ¬ 4=3 by decide)
theorem Y0(h:q.R):nY (q.ws++[("x9":Str)])=none:=by
 cases q with
 | i6 w x=>
  refine cq λz=>?_;obtain⟨c,l,e,a,_⟩:=IU h.2;simp only[ju,d3,eA,fb]at z;have cps:∀y∈ju,(y.cps.toList.getD 0 0)<97:=by decide +kernel
  have:=cps x (by simpa only [ju,List.mem_cons,List.not_mem_nil,or_false] using z);rw[e]at this;exact absurd (show c<97 from this) Wl
 | num w n k n2 k2=>exact Jl (ws:=[gw n k,w,gw n2 k2,("x9":Str)]) (show ¬ 4=2 by decide) (show ¬ 4=3 by decide)
def F6(l:CI)(p:AT):gy (l++[p])=p:=by
 unfold gy;rw[Dn (hq _ _)];rfl
def OB(h:w.R):AY (pF (w.ps.flatten++[("x9":Str)]))=false:=by
 have hp:w.ps≠[]:=hq _ _;have e1:pF (w.ps.flatten++[("x9":Str)])=w.ps.dropLast++[w.ps.getLast hp++[("x9":Str)]]:=by
  have e2:pF (w.ps.flatten++[("x9":Str)])=pS (pF w.ps.flatten) "x9":=by
   unfold pF;rw[hY];rfl
  rw[e2,YZ h];have e3:=uk hp;generalize w.ps.getLast hp=p at e3 ⊢;generalize w.ps.dropLast=l at e3 ⊢;rw[<- e3];unfold pS;rw[cq Wp,fv,hV,kx,List.set_append_right _ _ (ea _),l5,eM,i5 (ea _),l5];rfl
 have hm:=List.getLast_mem hp;have h0:w.ps.getLast hp=[("on":Str),w.sg]->w.ps.dropLast=[]:=λz=>by
  have r:w.ps=[("on":Str),w.sg]::w.ps.tail:=rfl;cases e:w.ps.tail with
  | nil=>rw[r,e];rfl
  | cons a l=>
   exfalso;have c:w.ps.getLast hp∈w.ps.tail:=by
    have:w.ps.getLast hp=w.ps.tail.getLast (by rw[e];exact hq _ _):=by
     rw[List.getLast_tail]
    rw[this];exact List.getLast_mem _
   rw[z]at c;have c:([("on":Str),w.sg]:AT)∈lk "if" "and" (w.as.map ic.ws)++lk "do" "then" (w.ds.map ia.ws)++xY w.tg w.md:=c;have no:∀{f:Str} {x:AT},("on":Str)≠f->([("on":Str),w.sg]:AT)≠f::x:=λn e=>n (hR e).1;obtain c|c:=eg.1 c
   .obtain c|c:=eg.1 c
    .obtain⟨x,_,e|e⟩:=jt c
     .exact no Wp e
     .exact no Wp e
    .obtain⟨x,_,e|e⟩:=jt c
     .exact no Wp e
     .exact no Wp e
   .unfold xY at c;split at c
    .cases c
    .exact no Wp (eC.1 c)
 rw[e1];generalize w.ps.getLast hp=p at hm h0 ⊢;generalize w.ps.dropLast=l at h0 ⊢;have m:p++[("x9":Str)]∈l++[p++[("x9":Str)]]:=eL _ d6;have k:isA (p++[("x9":Str)])=true->nY (p++[("x9":Str)]).tail=none->AY (l++[p++[("x9":Str)]])=false:=λa b=>by
  unfold AY;rw[A4 (o:=λp=>(nY p.tail).isSome) m a (by rw[b];rfl),h9,gm,gm]
 have j:xS (p++[("x9":Str)])=true->mR (p++[("x9":Str)]).tail=none->AY (l++[p++[("x9":Str)]])=false:=λa b=>by
  unfold AY;rw[A4 (o:=λp=>(mR p.tail).isSome) m a (by rw[b];rfl),h9,gm,gm,gm]
 obtain rfl|hm:=d3.1 hm
 .rw[h0 rfl];unfold AY;show(_&&(decide ((3:Nat)=2)&&_))=false;rw[eu WA,h9,gm]
 obtain hm|hm:=eg.1 hm
 .obtain hm|hm:=eg.1 hm
  .obtain⟨x,g,rfl|rfl⟩:=jt hm<;>obtain⟨q,i,rfl⟩:=ew.1 g
   .exact k (show isA ["if"]=true by decide +kernel) (Y0 (h.2.1 q i))
   .exact k (show isA ["and"]=true by decide +kernel) (Y0 (h.2.1 q i))
  .obtain⟨x,g,rfl|rfl⟩:=jt hm<;>obtain⟨d,hd,rfl⟩:=ew.1 g
   .exact j (show xS ["do"]=true by decide +kernel) Si
   .exact j (show xS ["then"]=true by decide +kernel) Si
 .unfold xY at hm;split at hm
  .cases hm
  .cases eC.1 hm;have:(qx (gy (l++[(("to":Str)::w.tg::if w.md="new" then [] else [w.md])++[("x9":Str)]]))).isSome=false:=by
    rw[F6];split
    .show(qx [("to":Str),w.tg,("x9":Str)]).isSome=false;rw[FZ λy=>absurd y.1 Wp];rfl
    .show(qx [("to":Str),w.tg,w.md,("x9":Str)]).isSome=false;rw[gl_none (l:=[w.tg,w.md,("x9":Str)]) (show ¬ 3=1 by decide) (show ¬ 3=2 by decide)];rfl
   unfold AY;rw[this,h9,gm,gm,gm,gm]
theorem OA{c:gP}(h:c.R):lZ (c.ws++[("x9":Str)])=none:=by
 cases c with
 | bx n k=>exact v7 (w:="box") (l:=[n,sI k,("x9":Str)]) (λz=>absurd z.2 (show ¬ 3=2 by decide)) (λz=>absurd z.2 (show ¬ 3=2 by decide)) (λz=>absurd z.2 (show ¬ 3=1 by decide)) Wp Wp
 | md w x st=>
  obtain⟨rfl,a⟩|⟨hw,rfl⟩:=h.2
  .show lZ (("one":Str)::x::(if st="" then [] else [st])++[("x9":Str)])=none;rw[cq (fJ a)];exact v7 (w:="one") (l:=[x,st,("x9":Str)]) (λz=>absurd z.2 (show ¬ 3=2 by decide)) (λz=>absurd z.2 (show ¬ 3=2 by decide)) (λz=>absurd z.2 (show ¬ 3=1 by decide)) Wp Wp
  .show lZ [w,x,("x9":Str)]=none;simp only[d3,eA,fb]at hw;obtain rfl|rfl:=hw
   .exact v7 (λz=>absurd z.1 Wp) (λz=>absurd z.1 Wp) (λz=>absurd z.2 (show ¬ 2=1 by decide)) Wp Wp
   .exact v7 (λz=>absurd z.1 Wp) (λz=>absurd z.1 Wp) (λz=>absurd z.2 (show ¬ 2=1 by decide)) Wp Wp
 | dd w d=>
  show lZ (w::(d.ws++[("x9":Str)]))=none;rw[RG h.1,Si];rfl
 | wy v=>
  have e:v.ps.flatten++[("x9":Str)]=("on":Str)::((v.ps.flatten++[("x9":Str)]).tail):=rfl;show lZ (v.ps.flatten++[("x9":Str)])=none;rw[e,RH,<- e,OB h];exact cq WA
def A9(a c d:Str):a++c++d=a++(c++d):=eN (by rw[aQ,aQ,aQ,aQ,eB])
def oX(a:Str):a++"" = a:=eN (by rw[aQ];exact e6 _)
def pj:AT->Str
 | []=>""
 | w::l=>" " ++ w++pj l
theorem wj:∀l m:AT,pj (l++m)=pj l++pj m
 | [],m=>eN (by rw[aQ];rfl)
 | w::l,m=>by
  show " " ++ w++pj (l++m)=" " ++ w++pj l++pj m;rw[wj l m,A9 _ (pj l)]
theorem qE:∀(l:AT) (a:Str),Str.join " " (a::l)=a++pj l
 | [],a=>(oX a).symm
 | e::l,a=>by
  have b:=qE l e;refine eN ?_;rw[g9]at b ⊢;rw[fH,b,aQ,aQ];show _=_++(" " ++ e++pj l).cps.toList;rw[g9,aQ,aQ];rfl
noncomputable def FV:Int:=10 ^ (30:Int).toNat-1
def zc(c d:Int):Int:=1+c / d % FV
theorem oY(c d:Int):0<zc c d/\(zc c d).natAbs<10 ^ 30:=by
 have e:FV=((10 ^ 30:Nat):Int)-1:=by decide +kernel
 have f:2<=(10 ^ 30:Nat):=by decide +kernel
 unfold zc;rw[e];generalize (10 ^ 30:Nat)=z at f;have a:=fD (c / d) (show((z:Int)-1)≠0 by lia);have b:=f6 (c / d) (show 0<((z:Int)-1) by lia);generalize c / d % ((z:Int)-1)=r at a b;lia
def kI(c:Int)(x:Str):Str×Int:=if c % 6=0 then(x,0) else if c % 6=1 then("",zc c 6) else if c % 6=2 then(x,zc c 6) else if c % 6=3 then(x,-zc c 6) else if c % 6=4 then("",0) else("",-zc c 6)
noncomputable def dF(ns:AT)(c:Int):Str:=ns.getD (c % 6).toNat Str.empty
def rz(ns:AT)(c:Int):ia:=if c / 6 % 3=0 then .call (dF ns c) else if c / 6 % 3=1 then .put (dF ns c) (kI (c / 18) (dF ns (c / 3))).1 (kI (c / 18) (dF ns (c / 3))).2 else .say (dF ns c) (kI (c / 18) (dF ns (c / 3))).1 (kI (c / 18) (dF ns (c / 3))).2
def rp(w:Str)(p q:Str×Int):ic:=.num w p.1 p.2 q.1 q.2
def Y4(ns:AT)(c:Int):List ic:=if c % 5=0 then [] else if c % 5=1 then [.i6 "open" (dF ns c)] else if c % 5=2 then [rp "<=" (kI (c / 5) (dF ns (c / 2))) (kI (c / 7) (dF ns (c / 3))),.i6 "shut" (dF ns c)] else if c % 5=3 then [rp "<" (kI (c / 5) (dF ns (c / 2))) (kI (c / 7) (dF ns (c / 3)))] else [rp "=" (kI (c / 5) (dF ns (c / 2))) ("",0),rp "!=" (kI (c / 7) (dF ns (c / 3))) (kI (c / 5) (dF ns (c / 2)))]
def Sj(ns:AT)(c:Int):List ia:=if c % 3=0 then [] else if c % 3=1 then [rz ns c] else [rz ns c,rz ns (c / 5)]
def j1(ns:AT)(c:Int):lu:=#[dF ns (c / 3),Y4 ns (c / 4),Sj ns c,if c / 3 % 4=0 then "" else dF ns (c / 2),if c / 3 % 4=2 then "near" else if c / 3 % 4=3 then "far" else "new"]
def wk(ns:AT)(f c:Int):gP:=if f=0 then .md "leaf" (dF ns c) "" else if f=1 then .md "all" (dF ns c) "" else if f=2 then .md "one" (dF ns c) (dF ns (c / 6)) else if f=3 then .dd "in" (rz ns c) else if f=4 then .dd "out" (rz ns c) else if f=6 then .bx (dF ns c) (if c / 6 % 2=0 then zc c 12 else -zc c 12) else .wy (j1 ns c)
structure oZ(ns:AT):Prop where
 l:ns.length=6
 n:∀x∈ns,aO x=true
theorem bT(h:oZ ns)(c:Int):aO (dF ns c)=true:=by
 have a:=fD c (show(6:Int)≠0 by decide);have b:=f6 c (show(0:Int)<6 by decide);exact h.n _ (Fy (by have:=h.l;lia))
def rW{x:Str}(h:aO x=true)(c:Int):WN (kI c x).1 (kI c x).2:=by
 obtain⟨a,b⟩:=oY c 6;have n:(-zc c 6).natAbs<10 ^ 30:=by rw[Int.natAbs_neg];exact b
 unfold kI;split
 .exact#[show(0:Int).natAbs<10 ^ 30 by decide +kernel,.inr h]
 split
 .exact#[b,.inl rfl]
 split
 .exact#[b,.inr h]
 split
 .exact#[n,.inr h]
 split
 .exact#[Wp,.inl rfl]
 .exact#[n,.inl rfl]
def ly(h:oZ ns)(c:Int):(rz ns c).R:=by
 unfold rz;split
 .exact bT h c
 split
 .exact#[bT h c,rW (bT h _) _]
 .exact#[bT h c,rW (bT h _) _]
def Sn(h:oZ ns)(c:Int):(∀q∈Y4 ns c,q.R)/\(Y4 ns c).length<=2:=by
 have t:=λa b=>rW (bT h a) b;have all1:∀{q:ic},q.R->(∀r∈[q],r.R)/\[q].length<=2:=λd=>#[λr f=>eC.1 f▸d,h7 1];have all2:∀{q p:ic},q.R->p.R->(∀r∈[q,p],r.R)/\[q,p].length<=2:=λd hp=>#[λr f=>(d3.1 f).elim (λe=>e▸d) λe=>eC.1 e▸hp,ea _];unfold Y4;split
 .exact#[λq d=>(by cases d),fc _]
 split
 .exact all1 #[Wp,bT h c]
 split
 .exact all2 #[Wp,t _ _,t _ _] #[Wp,bT h c]
 split
 .exact all1 #[Wp,t _ _,t _ _]
 .exact all2 #[Wp,t _ _,#[Wp,.inl rfl]] #[Wp,t _ _,t _ _]
theorem lz(h:oZ ns)(f c:Int):(wk ns f c).R/\(wk ns f c).Sm:=by
 unfold wk;split
 .exact#[#[bT h c,.inr #[Wp,rfl]],trivial]
 split
 .exact#[#[bT h c,.inr #[Wp,rfl]],trivial]
 split
 .exact#[#[bT h c,.inl #[rfl,bT h _]],trivial]
 split
 .exact#[#[Wp,ly h c],trivial]
 split
 .exact#[#[Wp,ly h c],trivial]
 split
 .refine#[#[bT h c,?_],trivial];have:=(oY c 12).2;split
  .exact this
  .rwa [Int.natAbs_neg]
 .have d:=Sn h (c / 4);have hd:(∀q∈Sj ns c,q.R)/\(Sj ns c).length<=2:=by
   unfold Sj;split
   .exact#[λq b=>(by cases b),fc _]
   split
   .exact#[λr a=>eC.1 a▸ly h c,h7 1]
   .exact#[λr a=>(d3.1 a).elim (λe=>e▸ly h c) λe=>eC.1 e▸ly h _,ea _]
  refine#[#[bT h _,d.1,hd.1,?_],show(Y4 ns (c / 4)).length+(Sj ns c).length<=40 by lia];show((if c / 3 % 4=0 then("":Str) else dF ns (c / 2))="" /\ (if c / 3 % 4=2 then("near":Str) else if c / 3 % 4=3 then("far":Str) else("new":Str))=("new":Str))\/(aO (if c / 3 % 4=0 then("":Str) else dF ns (c / 2))=true/\(if c / 3 % 4=2 then("near":Str) else if c / 3 % 4=3 then("far":Str) else("new":Str))∈(["new","near","far"]:AT));by_cases z:c / 3 % 4=0
  .rw[di z,cq Wl,cq Wl];exact .inl #[rfl,rfl]
  .rw[cq z];refine .inr #[bT h _,?_];split
   .decide +kernel
   split<;>decide +kernel
theorem la{c:Str}{m n:Nat}(h:a.length<=m)(k:c.length<=n):(a++c).length<=m+n:=by
 rw[<- aK,aQ,fv,aK,aK];lia
theorem cz{c:Str}{m n:Nat}(h:a.length<=m)(k:c.length<=n)(s:m+n<=10000):a.length+c.length<=sizeLine:=by
 rw[fA];lia
def qF{x:Str}(h:aO x=true):x.length<=12:=(eW h).2.1
def w7(c d:Int):(sI (zc c d)).length<=31:=vR (oY c d).2
theorem Y5(h:0<k):"-" ++ sI k=sI (-k):=eN (by
 rw[aQ,nJ (show -k<0 by lia),show((-k).natAbs:Int)=k by lia];rfl)
theorem tm_at{c:Int}{x:Str}(d:aO x=true):mw [L3.D.str x,.str (sI (zc c 6)),.str (x++"+" ++ sI (zc c 6)),.str (x++"-" ++ sI (zc c 6)),.str "0",.str ("-" ++ sI (zc c 6))] (c % 6)=some (.str (gw (kI c x).1 (kI c x).2)):=by
 have a:=fD c (show(6:Int)≠0 by decide);have b:=f6 c (show(0:Int)<6 by decide);obtain⟨s0,_⟩:=oY c 6;have nx:=fJ d;have num:∀k:Int,gw "" k=sI k:=λk=>di rfl;unfold kI;generalize c % 6=r at a b ⊢;generalize zc c 6=z at s0 ⊢;have nm:∀k:Int,k≠0->gw x k=x++BQ k++sI (k.natAbs:Int):=λk e=>(cq nx).trans (cq e);obtain rfl|rfl|rfl|rfl|rfl|rfl:r=0\/r=1\/r=2\/r=3\/r=4\/r=5:=by lia
 .exact congrArg (λy=>some (L3.D.str y)) ((cq nx).trans (di rfl)).symm
 .exact congrArg (λy=>some (L3.D.str y)) (num z).symm
 .refine congrArg (λy=>some (L3.D.str y)) (((nm z Wl).trans ?_).symm);rw[show((z.natAbs:Nat):Int)=z by lia,BQ,di s0]
 .refine congrArg (λy=>some (L3.D.str y)) (((nm (-z) Wl).trans ?_).symm);rw[show(((-z).natAbs:Nat):Int)=z by lia,BQ,cq Wl]
 .exact congrArg (λy=>some (L3.D.str y)) ((num 0).trans Wp).symm
 .exact congrArg (λy=>some (L3.D.str y)) ((num (-z)).trans (Y5 s0).symm).symm
def wm(h:WN n k):(gw n k).length<=53:=(Dl h).1.2.1
theorem mU(h:oZ ns)(c:Int):mw (ns.map L3.D.str) (c % 6)=some (.str (dF ns c)):=by
 have a:=fD c (show(6:Int)≠0 by decide);have b:=f6 c (show(0:Int)<6 by decide);exact zY Str.empty a (by have:=h.l;lia)
def rD(a c:Str):Str.join " " [a,c]=a++" " ++ c:=by
 rw[qE];show a++(" " ++ c++"")=_;rw[oX,A9]
def mM(a c d:Str):Str.join " " [a,c,d]=a++" " ++ c++" " ++ d:=by
 rw[qE];show a++(" " ++ c++(" " ++ d++""))=_;simp only[oX,A9]
variable{t:Str}
theorem Oy(c:Int)(e:t=gw (kI (c / 18) (dF ns (c / 3))).1 (kI (c / 18) (dF ns (c / 3))).2):mw [L3.D.str ("call " ++ dF ns c),.str ("put " ++ dF ns c++" " ++ t),.str ("say " ++ dF ns c++" " ++ t)] (c / 6 % 3)=some (.str (Str.join " " (rz ns c).ws)):=by
 have a:=fD (c / 6) (show(3:Int)≠0 by decide);have b:=f6 (c / 6) (show(0:Int)<3 by decide);unfold rz;generalize c / 6 % 3=r at a b ⊢;generalize dF ns c=n;obtain rfl|rfl|rfl:r=0\/r=1\/r=2:=by lia
 .refine congrArg (λy=>some (L3.D.str y)) ?_;show _=Str.join " " [("call":Str),n];rw[rD,show(("call":Str)++" ")="call " by decide +kernel]
 .refine congrArg (λy=>some (L3.D.str y)) ?_;show _=Str.join " " [("put":Str),n,gw (kI (c / 18) (dF ns (c / 3))).1 (kI (c / 18) (dF ns (c / 3))).2];rw[mM,<- e,show(("put":Str)++" ")="put " by decide +kernel]
 .refine congrArg (λy=>some (L3.D.str y)) ?_;show _=Str.join " " [("say":Str),n,gw (kI (c / 18) (dF ns (c / 3))).1 (kI (c / 18) (dF ns (c / 3))).2];rw[mM,<- e,show(("say":Str)++" ")="say " by decide +kernel]
def l6(ns:AT)(c:Int):Str:=pj (lk "if" "and" ((Y4 ns c).map ic.ws)).flatten
theorem Ow(c:Int){o u:Str}(e:o=gw (kI (c / 5) (dF ns (c / 2))).1 (kI (c / 5) (dF ns (c / 2))).2)(d:u=gw (kI (c / 7) (dF ns (c / 3))).1 (kI (c / 7) (dF ns (c / 3))).2):mw [L3.D.str "",.str (" if open " ++ dF ns c),.str (" if " ++ o++" <= " ++ u++" and shut " ++ dF ns c),.str (" if " ++ o++" < " ++ u),.str (" if " ++ o++" = 0 and " ++ u++" != " ++ o)] (c % 5)=some (.str (l6 ns c)):=by
 have a:=fD c (show(5:Int)≠0 by decide);have b:=f6 c (show(0:Int)<5 by decide);have e1:(" if open ":Str)=" " ++ "if" ++ (" " ++ "open")++" ":=by decide +kernel
 have e2:(" if ":Str)=" " ++ "if" ++ " ":=by decide +kernel
 have e3:(" <= ":Str)=" " ++ "<=" ++ " ":=by decide +kernel
 have i:(" and shut ":Str)=" " ++ "and" ++ (" " ++ "shut")++" ":=by decide +kernel
 have h:(" < ":Str)=" " ++ "<" ++ " ":=by decide +kernel
 have g:(" = 0 and ":Str)=" " ++ "=" ++ (" " ++ gw "" 0)++(" " ++ "and")++" ":=by decide +kernel
 have f:(" != ":Str)=" " ++ "!=" ++ " ":=by decide +kernel
 unfold l6 Y4;generalize c % 5=r at a b ⊢;generalize dF ns c=n;obtain rfl|rfl|rfl|rfl|rfl:r=0\/r=1\/r=2\/r=3\/r=4:=by lia
 .rfl
 .refine congrArg (λy=>some (L3.D.str y)) ?_;show _=pj ["if","open",n];rw[e1];simp only[pj,oX,A9]
 .refine congrArg (λy=>some (L3.D.str y)) ?_;show _=pj ["if",gw _ _,"<=",gw _ _,"and","shut",n];rw[e2,e3,i,e,d];simp only[pj,oX,A9]
 .refine congrArg (λy=>some (L3.D.str y)) ?_;show _=pj ["if",gw _ _,"<",gw _ _];rw[e2,h,e,d];simp only[pj,oX,A9]
 .refine congrArg (λy=>some (L3.D.str y)) ?_;show _=pj ["if",gw _ _,"=",gw "" 0,"and",gw _ _,"!=",gw _ _];rw[e2,g,f,e,d];simp only[pj,oX,A9]
theorem F7(h:oZ ns)(c:Int):(Str.join " " (rz ns c).ws).length<=100:=by
 have a:=ly h c;have b:∀{l:AT},(∀x∈l,x.length<=53)->l.length<=3->(Str.join " " l).length<=162:=λ{l} h1 d=>by
  have:=vY (c:=32) h1;rw[<- g9]at this;have:l.length*(53+1)<=162:=by lia
  lia
 cases e:rz ns c with
 | call n=>
  rw[e]at a;show(Str.join " " [("call":Str),n]).length<=100;rw[rD];exact er (la (la (show("call":Str).length<=4 by decide) (show(" ":Str).length<=1 by decide)) (qF a)) WA
 | put x n k=>
  rw[e]at a;show(Str.join " " [("put":Str),x,gw n k]).length<=100;rw[mM];exact er (la (la (la (la (show("put":Str).length<=3 by decide) (show(" ":Str).length<=1 by decide)) (qF a.1)) (show(" ":Str).length<=1 by decide)) (wm a.2)) WA
 | say x n k=>
  rw[e]at a;show(Str.join " " [("say":Str),x,gw n k]).length<=100;rw[mM];exact er (la (la (la (la (show("say":Str).length<=3 by decide) (show(" ":Str).length<=1 by decide)) (qF a.1)) (show(" ":Str).length<=1 by decide)) (wm a.2)) WA
theorem Ss:∀{l:AT},(∀x∈l,x.length<=53)->(pj l).length<=l.length*54
 | [],_=>ea _
 | w::l,h=>by
  have a:=Ss (l:=l) λx c=>h x (ee _ c);have b:=la (la (show(" ":Str).length<=1 by decide) (h w d6)) a;rw[gv];exact er b Wl
def vr(f g:Str)(l:CI):Str:=pj (lk f g l).flatten
theorem JC{l:CI}(hf:f.length<=4)(i:g.length<=4)(h:∀q∈l,q.length<=3/\∀x∈q,x.length<=53)(j:l.length<=2):(vr f g l).length<=432:=by
 have w:∀p∈lk f g l,p.length<=4/\∀x∈p,x.length<=53:=λp hp=>by
  obtain⟨q,d,rfl|rfl⟩:=jt hp<;>obtain⟨a,b⟩:=h q d<;>refine#[oP a,λx c=>(d3.1 c).elim (λe=>by rw[e];lia) (b x)]
 have a:=QS λp hp=>(w p hp).1;rw[T1]at a;refine er (Ss λx c=>?_) Wl;obtain⟨p,hp,c⟩:=List.mem_flatten.1 c;exact(w p hp).2 x c
def JD(h:oZ ns)(c:Int):(l6 ns c).length<=432:=by
 obtain⟨a,b⟩:=Sn h c;refine JC WA WA (λq e=>?_) (by rw[d4];exact b);obtain⟨k,f,rfl⟩:=ew.1 e;exact#[by cases k<;>exact eE rfl,λx d=>(YY (a k f) x d).1.2.1]
def lA(w a:Str)(r:AT):Str.join " " (w::a::r)=w++" " ++ Str.join " " (a::r):=by
 rw[qE,qE];show w++(" " ++ a++pj r)=_;simp only[A9]
def Sv(a:Str)(r:AT):pj (a::r)=" " ++ Str.join " " (a::r):=by
 rw[qE];exact A9 _ _ _
def Sw(d:ia):∃a r,d.ws=a::r:=by cases d<;>exact#[_,_,rfl]
variable{d:Str}{f:Int}
theorem Dd(h0:0<=f)(h1:f<3):mw [L3.D.str a,.str b,.str d] f=some (.str (if f=0 then a else if f=1 then b else d)):=by
 obtain rfl|rfl|rfl:f=0\/f=1\/f=2:=by lia
 .rfl
 .rfl
 .rfl
theorem Cp(h0:0<=f)(h1:f<2):mw [L3.D.str a,.str b] f=some (.str (if f=0 then a else b)):=by
 obtain rfl|rfl:f=0\/f=1:=by lia
 .rfl
 .rfl
noncomputable def vl(f:Int):Str:=if f=0 then "leaf " else if f=1 then "all " else "one "
def vw(ns:AT)(f c:Int):Str:=if f=0 then "" else if f=1 then "" else " " ++ dF ns (c / 6)
theorem Y6(h:oZ ns)(c:Int)(h0:0<=f)(h1:f<3):vl f++dF ns c++vw ns f c=Str.join " " (wk ns f c).ws:=by
 have e1:(("leaf":Str)++" ")="leaf ":=by decide +kernel
 have e2:(("all":Str)++" ")="all ":=by decide +kernel
 have e3:(("one":Str)++" ")="one ":=by decide +kernel
 obtain rfl|rfl|rfl:f=0\/f=1\/f=2:=by lia
 .show("leaf ":Str)++dF ns c++"" = Str.join " " (("leaf":Str)::dF ns c::if ("":Str)="" then [] else [""]);rw[di rfl,rD,e1,oX]
 .show("all ":Str)++dF ns c++"" = Str.join " " (("all":Str)::dF ns c::if ("":Str)="" then [] else [""]);rw[di rfl,rD,e2,oX]
 .show("one ":Str)++dF ns c++(" " ++ dF ns (c / 6))=Str.join " " (("one":Str)::dF ns c::if dF ns (c / 6)="" then [] else [dF ns (c / 6)]);rw[cq (fJ (bT h _)),mM,e3,A9 _ " "]
theorem Y7(c:Int)(h0:3<=f)(h1:f<5):(if f-3=0 then("in ":Str) else "out ")++Str.join " " (rz ns c).ws=Str.join " " (wk ns f c).ws:=by
 obtain⟨a,r,e⟩:=Sw (rz ns c);have e1:(("in":Str)++" ")="in ":=by decide +kernel
 have e2:(("out":Str)++" ")="out ":=by decide +kernel
 obtain rfl|rfl:f=3\/f=4:=by lia
 .show("in ":Str)++_=Str.join " " (("in":Str)::(rz ns c).ws);rw[e,lA,e1]
 .show("out ":Str)++_=Str.join " " (("out":Str)::(rz ns c).ws);rw[e,lA,e2]
def Y8(c:Int):"box " ++ dF ns c++" " ++ (if c / 6 % 2=0 then("":Str) else "-")++sI (zc c 12)=Str.join " " (wk ns 6 c).ws:=by
 have e1:(("box":Str)++" ")="box ":=by decide +kernel
 show _=Str.join " " [("box":Str),dF ns c,sI (if c / 6 % 2=0 then zc c 12 else -zc c 12)];rw[mM,e1];by_cases z:c / 6 % 2=0
 .rw[di z,di z,oX]
 .rw[cq z,cq z,A9 _ "-",Y5 (oY c 12).1]
def oD(ns:AT)(c:Int):Str:=vr "do" "then" ((Sj ns c).map ia.ws)
theorem Of(c:Int):mw [L3.D.str "",.str (" do " ++ Str.join " " (rz ns c).ws),.str (" do " ++ Str.join " " (rz ns c).ws++" then " ++ Str.join " " (rz ns (c / 5)).ws)] (c % 3)=some (.str (oD ns c)):=by
 have a:=fD c (show(3:Int)≠0 by decide);have b:=f6 c (show(0:Int)<3 by decide);have e1:(" do ":Str)=" " ++ "do" ++ " ":=by decide +kernel
 have e2:(" then ":Str)=" " ++ "then" ++ " ":=by decide +kernel
 unfold oD Sj;generalize c % 3=r at a b ⊢;obtain⟨x,l,ex⟩:=Sw (rz ns c);obtain⟨y,m,d⟩:=Sw (rz ns (c / 5));obtain rfl|rfl|rfl:r=0\/r=1\/r=2:=by lia
 .rfl
 .refine congrArg (λy=>some (L3.D.str y)) ?_;show _=pj (("do":Str)::((rz ns c).ws++[]));rw[e6,ex];show _=" " ++ "do" ++ pj (x::l);rw[Sv,e1];simp only[A9]
 .refine congrArg (λy=>some (L3.D.str y)) ?_;show _=pj (("do":Str)::((rz ns c).ws++(("then":Str)::((rz ns (c / 5)).ws++[]))));rw[e6,ex,d];show _=" " ++ "do" ++ pj ((x::l)++("then":Str)::(y::m));rw[wj,Sv];show _=" " ++ "do" ++ (" " ++ Str.join " " (x::l)++(" " ++ "then" ++ pj (y::m)));rw[Sv,e1,e2];simp only[A9]
def mN(ns:AT)(c:Int):Str:=pj (xY (j1 ns c).tg (j1 ns c).md).flatten
theorem Y9(h:oZ ns)(c:Int):mw [L3.D.str "",.str (" to " ++ dF ns (c / 2)),.str (" to " ++ dF ns (c / 2)++" near"),.str (" to " ++ dF ns (c / 2)++" far")] (c / 3 % 4)=some (.str (mN ns c)):=by
 have a:=fD (c / 3) (show(4:Int)≠0 by decide);have b:=f6 (c / 3) (show(0:Int)<4 by decide);have e1:(" to ":Str)=" " ++ "to" ++ " ":=by decide +kernel
 have e2:(" near":Str)=" " ++ "near":=by decide +kernel
 have e3:(" far":Str)=" " ++ "far":=by decide +kernel
 have d:=fJ (bT h (c / 2));unfold mN;have e:(j1 ns c).tg=if c / 3 % 4=0 then("":Str) else dF ns (c / 2):=rfl
 have em:(j1 ns c).md=if c / 3 % 4=2 then("near":Str) else if c / 3 % 4=3 then "far" else "new":=rfl
 rw[e,em];generalize c / 3 % 4=r at a b ⊢;generalize dF ns (c / 2)=n at d ⊢;unfold xY;obtain rfl|rfl|rfl|rfl:r=0\/r=1\/r=2\/r=3:=by lia
 .rw[di rfl,di rfl];rfl
 .rw[cq (show ¬ (1:Int)=0 by decide),cq d,cq (show ¬ (1:Int)=2 by decide),cq (show ¬ (1:Int)=3 by decide),di rfl];refine congrArg (λy=>some (L3.D.str y)) ?_;show _=pj [("to":Str),n];rw[e1];simp only[pj,oX,A9]
 .rw[cq (show ¬ (2:Int)=0 by decide),cq d,di rfl,cq (show ¬ ("near":Str)="new" by decide +kernel)];refine congrArg (λy=>some (L3.D.str y)) ?_;show _=pj [("to":Str),n,"near"];rw[e1,e2];simp only[pj,oX,A9]
 .rw[cq (show ¬ (3:Int)=0 by decide),cq d,cq (show ¬ (3:Int)=2 by decide),di rfl,cq (show ¬ ("far":Str)="new" by decide +kernel)];refine congrArg (λy=>some (L3.D.str y)) ?_;show _=pj [("to":Str),n,"far"];rw[e1,e3];simp only[pj,oX,A9]
def Za(c:Int)(h1:f=5):"on " ++ dF ns (c / 3)++l6 ns (c / 4)++oD ns c++mN ns c=Str.join " " (wk ns f c).ws:=by
 subst h1;have e1:("on ":Str)="on" ++ " ":=by decide +kernel
 show _=Str.join " " (("on":Str)::dF ns (c / 3)::(lk "if" "and" ((Y4 ns (c / 4)).map ic.ws)++lk "do" "then" ((Sj ns c).map ia.ws)++xY (j1 ns c).tg (j1 ns c).md).flatten);rw[qE,List.flatten_append,List.flatten_append];show _="on" ++ (" " ++ dF ns (c / 3)++pj (_++_++_));rw[wj,wj,e1];unfold l6 oD vr mN;simp only[A9]
def JF(h:oZ ns)(c:Int):(oD ns c).length<=432:=by
 have hd:(∀q∈Sj ns c,q.R)/\(Sj ns c).length<=2:=by
  unfold Sj;split
  .exact#[λq b=>(by cases b),fc _]
  split
  .exact#[λr a=>eC.1 a▸ly h c,h7 1]
  .exact#[λr a=>(d3.1 a).elim (λe=>e▸ly h c) λe=>eC.1 e▸ly h _,ea _]
 refine JC WA WA (λq b=>?_) (by rw[d4];exact hd.2);obtain⟨k,f,rfl⟩:=ew.1 b;exact#[by cases k<;>exact eE rfl,λx d=>(R9 (hd.1 k f) x d).1.2.1]
def Ba(f:Int):(vl f).length<=10:=by
 unfold vl;split
 .decide
 split<;>decide
def JG(h:oZ ns)(f c:Int):(vw ns f c).length<=13:=by
 unfold vw;split
 .decide
 split
 .decide
 .exact la (show(" ":Str).length<=1 by decide) (qF (bT h _))
theorem JH(h:oZ ns)(c:Int):(mN ns c).length<=30:=by
 have a:=fD (c / 3) (show(4:Int)≠0 by decide);have b:=f6 (c / 3) (show(0:Int)<4 by decide);have d:=qF (bT h (c / 2));have f:(" to ":Str).length<=4:=by decide
 have e:=Y9 h c;generalize mN ns c=g at e ⊢;generalize c / 3 % 4=r at a b e;generalize dF ns (c / 2)=n at d e;obtain rfl|rfl|rfl|rfl:r=0\/r=1\/r=2\/r=3:=by lia
 .cases (e5 e:L3.D.str "" = .str g);exact fc _
 .cases (e5 e:L3.D.str (" to " ++ n)=.str g);exact er (la f d) WA
 .cases (e5 e:L3.D.str (" to " ++ n++" near")=.str g);exact er (la (la f d) (show(" near":Str).length<=5 by decide)) WA
 .cases (e5 e:L3.D.str (" to " ++ n++" far")=.str g);exact er (la (la f d) (show(" far":Str).length<=5 by decide)) WA
noncomputable def Dr(a:Int):Int:=if a % 8=7/\0<a / 8 % 4 then 5 else a % 8
def tQ(a last own:Int):Int:=if a / 8 % 5=0\/Dr a=7 then Dr a else if (Dr a=6/\last ≠ -1)\/(2<Dr a/\Dr a<6/\last=-1) then a / 8 % 3 else if 2<Dr a/\Dr a<6 then(if 3+own > Dr a then 3+own else Dr a) else Dr a
noncomputable def W9(a f last:Int):Int:=if 2<f/\f<6 then last+1 else if f<3/\last ≠ -1 then 1+a / 56 % (last+1) else 0
noncomputable def kv(b x:Int):Int:=if b % 24=1 then x+1 else x
noncomputable def m3(b x:Int):Int:=if b % 24=2/\0<x then x-1 else x
def Sx(a b f last:Int):Int:=m3 b (kv b (W9 a f last))
def JK(f bl last own:Int):Bool:=if f=7 then false else if f=6 then decide (bl=0)&&decide (last=-1) else if 2<f then !decide (last=-1)&&(decide (bl=last+1)&&decide (f-3 ≥ own)) else if last=-1 then decide (bl=0) else decide (1<=bl)&&decide (bl<=last+1)
noncomputable def ke:Str:="leaf|leaf a b|one a|all 1a|leaf do|leaf A|leaf a-b|leaf abcdefghijklm|box a|box a 01|box a -0"
noncomputable def mB:Str:="|box a +1|box a b|box then 1|in|in put a|in call|in say a|in put a b c|in put a 1+a"
noncomputable def my:Str:="|in put a a+0|in put a a-01|in put a a-|in put a +1|in a|in call a then call b"
noncomputable def mx:Str:="|out call in|on|on to|on a if|on a do|on a to|on a to b new|on a to b near far"
def mv:Str:="|on a if a < b or c < d|on a if a > b|on a if a<b|on a if a < b and|on a if and a < b"
noncomputable def mu:Str:="|on a if open|on a if open a b|on a if shut 1|on a do call b if open a"
noncomputable def mn:Str:="|on a to b do call c|on a do call b then|on a do then call b|on a do say b"
noncomputable def mi:Str:="|on a if a do call b|call a|moods a|-|in put a --1|in put a a+-1|in put a a+b"
noncomputable def mf:Str:="|box a 1 2|all all|one a near|one a b c|on a b|on a b if a < b|on a b do call c"
noncomputable def me:Str:="|on a b to c|on a do call b do call c|on a if open b if shut c|on a to b to c"
noncomputable def L6:Str:="|in put a a-0|in put a -0|box a 1_0|in put a 1_0|in put a a+1_0|on a if a-1_0 < 0"
noncomputable def L7:Str:="|in say A 1|in say do 1|in say abcdefghijklm 1|in put A 1|in put in 1|in put a A"
noncomputable def L8:Str:="|in put a 1a|in put a A+1|out call A|out call abcdefghijklm|on A|on 1a|on a to B"
noncomputable def Ma:Str:="|on a to near|on a if A < 1|on a if open A|one a B|box A 1"
def Mb:AT:=(["leaf","leaf a b","one a","all 1a","leaf do","leaf A","leaf a-b","leaf abcdefghijklm","box a","box a 01","box a -0","box a +1","box a b","box then 1","in","in put a","in call","in say a","in put a b c","in put a 1+a","in put a a+0","in put a a-01","in put a a-","in put a +1","in a","in call a then call b","out call in","on","on to","on a if","on a do","on a to","on a to b new","on a to b near far","on a if a < b or c < d","on a if a > b","on a if a<b","on a if a < b and","on a if and a < b","on a if open","on a if open a b","on a if shut 1","on a do call b if open a","on a to b do call c","on a do call b then","on a do then call b","on a do say b","on a if a do call b","call a","moods a","-","in put a --1","in put a a+-1","in put a a+b","box a 1 2","all all","one a near","one a b c","on a b","on a b if a < b","on a b do call c","on a b to c","on a do call b do call c","on a if open b if shut c","on a to b to c","in put a a-0","in put a -0","box a 1_0","in put a 1_0","in put a a+1_0","on a if a-1_0 < 0","in say A 1","in say do 1","in say abcdefghijklm 1","in put A 1","in put in 1","in put a A","in put a 1a","in put a A+1","out call A","out call abcdefghijklm","on A","on 1a","on a to B","on a to near","on a if A < 1","on a if open A","one a B","box A 1"]:List String).map Str.ofString
def ro:Str:=ke++mB
def rk:Str:=ro++my
def rh:Str:=rk++mx
def rf:Str:=rh++mv
def rb:Str:=rf++mu
def q8:Str:=rb++mn
def q7:Str:=q8++mi
def q5:Str:=q7++mf
def q3:Str:=q5++me
def Xa:Str:=q3++L6
def Xb:Str:=Xa++L7
def Xc:Str:=Xb++L8
def Mf:Str:=Xc++Ma
def JL:ro.length<=400:=la (show ke.length<=200 by decide +kernel) (show mB.length<=200 by decide +kernel)
def JM:rk.length<=600:=la JL (show my.length<=200 by decide +kernel)
def JN:rh.length<=800:=la JM (show mx.length<=200 by decide +kernel)
def JQ:rf.length<=1000:=la JN (show mv.length<=200 by decide +kernel)
def JR:rb.length<=1200:=la JQ (show mu.length<=200 by decide +kernel)
def JS:q8.length<=1400:=la JR (show mn.length<=200 by decide +kernel)
def JT:q7.length<=1600:=la JS (show mi.length<=200 by decide +kernel)
def JV:q5.length<=1800:=la JT (show mf.length<=200 by decide +kernel)
def JW:q3.length<=2000:=la JV (show me.length<=200 by decide +kernel)
def Ds:Xa.length<=2200:=la JW (show L6.length<=200 by decide +kernel)
def Dt:Xb.length<=2400:=la Ds (show L7.length<=200 by decide +kernel)
def Du:Xc.length<=2600:=la Dt (show L8.length<=200 by decide +kernel)
def Sy:Mf.length<=2800:=la Du (show Ma.length<=200 by decide +kernel)
noncomputable def vu(c:Nat):AT->Cc
 | []=>[]
 | [a]=>a.cps.toList
 | a::e::l=>a.cps.toList++c::vu c (e::l)
theorem Sz(c:Nat):∀l:AT,l≠[]->(Str.join #[(List.toArray [c])] l).cps.toList=vu c l
 | [],h=>absurd rfl h
 | [a],_=>rfl
 | a::e::l,_=>by rw[fH,Sz c (e::l) (hq _ _)];rfl
def U2:ke.cps.toList++mB.cps.toList++my.cps.toList++mx.cps.toList++mv.cps.toList++mu.cps.toList++mn.cps.toList++mi.cps.toList++mf.cps.toList++me.cps.toList++L6.cps.toList++L7.cps.toList++L8.cps.toList++Ma.cps.toList=vu 124 Mb:=by decide +kernel
def Xd:ke++mB++my++mx++mv++mu++mn++mi++mf++me++L6++L7++L8++Ma=Str.join #[(List.toArray [124])] Mb:=eN (by
 rw[Sz _ _ WA,<- U2];simp only[aQ])
def uD:Mb.all (λs=>decide (124∉s.cps.toList)&&(decide (∀c∈s.cps.toList,c≠10/\c<128)&&(decide (s.length<=100)&&(decide (s≠"")&&decide (32≠s.cps.toList.getD 0 0)))))=true:=by decide +kernel
def U1:Mb.all (λs=>(l0 s).isNone)=true:=by decide +kernel
def Bb:Mb.length=89:=by decide +kernel
def SD:Txt.split Mf "|" = Mb:=by
 rw[show Mf=_ from Xd,show("|":Str)=#[(List.toArray [124])] by decide +kernel];refine rS WA λp hp=>?_;have:=fR.1 uD p hp;rw[et]at this;exact ed this.1
def Dv(c:Int):Str:=Mb.getD (c % Mb.length).toNat Str.empty
theorem wu(c:Int):Dv c∈Mb:=by
 have a:=fD c (show((Mb.length:Nat):Int)≠0 by rw[Bb];decide);have b:=f6 c (show(0:Int)<((Mb.length:Nat):Int) by rw[Bb];decide);exact Fy Wl
noncomputable def lB:Str:="1" ++ Txt.mul "0" 30
def ow(c:gP)(k:Int):AT:=[Dv (k / 10),Str.join " " c.ws++" ",Str.join " " c.ws++" x9",c.w++"  " ++ Str.join " " c.ws.tail,"","box x9 " ++ lB,"in put x9 " ++ lB,"on x9 if x9+" ++ lB++" < 0","box x9 -" ++ lB,"out put x9 x9-" ++ lB]
def UA(c:gP)(k:Int):Str:=(ow c k).getD (k % 10).toNat Str.empty
def SG{c:gP}(h:c.R):part3 (Str.join " " c.ws) " " = [c.w," ",Str.join " " c.ws.tail]:=by
 obtain⟨x,r,e⟩:=jL (c:=c);have hw:=sX h;rw[e]at hw ⊢;rw[lA];have:=vS (r:=Str.join " " (x::r)) (JA (hw _ d6));rw[<- g9]at this;exact this
theorem Xe{n:Nat}(h:n<=1000):MulOk "0" (n:Int):=by
 have e:("0":Str).length=1:=rfl;refine#[WJ,λh1 _=>?_,λ_ _=>?_]
 .rw[e];have:(1:Int)<=(2 ^ 63-1) / (n:Int):=Int.le_ediv_of_mul_le Wl Wl;lia
 .rw[e,i1,Nat.one_mul];refine eu ?_;rw[fA];lia
def Dw(h:s.cps.toList.head? ≠ some 32)(n:Nat):l0 (Txt.mul " " (n:Int)++s)=l0 s:=by
 unfold l0 xZ;rw[show iH (Txt.mul " " (n:Int)++s)=s from yR h,show iH s=s from Fz h]
def N0(h:s∈Mb)(n:Nat):l0 (Txt.mul " " (n:Int)++s)=none:=by
 have a:=fR.1 uD s h;simp only[et]at a;have b:=ed a.2.2.2.2;rw[Dw (λz=>?_) n]
 .exact vT.1 (fR.1 U1 s h)
 .cases e:s.cps.toList with
  | nil=>rw[e]at z;cases z
  | cons c l=>
   rw[e]at z b;exact b (e5 z).symm
theorem Zb(h:ws≠[])(x:Str):Str.join " " (ws++[x])=Str.join " " ws++(" " ++ x):=by
 cases ws with
 | nil=>exact absurd rfl h
 | cons a l=>
  rw[g4,qE,qE,wj];show a++(pj l++(" " ++ x++""))=_;rw[oX,A9]
theorem Zc{c:gP}(h:c.R)(k:Int)(n:Nat):l0 (Txt.mul " " (n:Int)++UA c k)=none:=by
 have a:=fD k (show(10:Int)≠0 by decide);have b:=f6 k (show(0:Int)<10 by decide);obtain⟨x,r,e⟩:=jL (c:=c);have hw:=sX h;have h0:c.ws≠[]:=by rw[e];exact hq _ _
 have f:We c.w:=hw _ (by rw[e];exact d6);have wr:∀y∈x::r,We y:=λy d=>hw y (by rw[e];exact ee _ d);have con:∀s:Str,s.cps.toList.head? ≠ some 32->l0 s=none->l0 (Txt.mul " " (n:Int)++s)=none:=λs h1 i=>(Dw h1 n).trans i;unfold UA ow;generalize k % 10=q at a b ⊢;obtain rfl|rfl|rfl|rfl|rfl|rfl|rfl|rfl|rfl|rfl:q=0\/q=1\/q=2\/q=3\/q=4\/q=5\/q=6\/q=7\/q=8\/q=9:=by lia
 .exact N0 (wu _) n
 .show l0 (Txt.mul " " (n:Int)++(Str.join " " c.ws++" "))=none;rw[show Str.join " " c.ws++" " = Str.join " " (c.ws++[("":Str)]) by rw[Zb h0,oX],e];have:=(JB (n:=n) (r:=x::r++[("":Str)]) f λy d=>(eg.1 d).elim (λd=>.inr (wr y d)) λd=>.inl (eC.1 d)).1;unfold l0;rw[g4,this];exact Dq (ee _ (eL _ d6))
 .show l0 (Txt.mul " " (n:Int)++(Str.join " " c.ws++" x9"))=none;have g:We "x9":=kH Wp;rw[show Str.join " " c.ws++" x9" = Str.join " " (c.ws++[("x9":Str)]) by rw[Zb h0,show(" ":Str)++"x9" = " x9" by decide +kernel]];have:=(JB (n:=n) (r:=x::r++[("x9":Str)]) f λy d=>(eg.1 d).elim (λd=>.inr (wr y d)) λd=>.inr (by rw[eC.1 d];exact g)).1;rw[<- g4,<- e]at this;unfold l0;rw[this];exact OA h
 .show l0 (Txt.mul " " (n:Int)++(c.w++"  " ++ Str.join " " c.ws.tail))=none;rw[show c.w++"  " ++ Str.join " " c.ws.tail=Str.join " " (c.w::""::x::r) by
   rw[e,lA,lA,show("  ":Str)=" " ++ " " by decide +kernel];show _=c.w++" " ++ ("" ++ " " ++ Str.join " " (x::r));rw[show("":Str)++" " = " " by decide +kernel];simp only[A9];rfl]
  have:=(JB (n:=n) (r:=("":Str)::x::r) f λy d=>(d3.1 d).imp id λd=>wr y d).1;unfold l0;rw[this];exact Dq (ee _ d6)
 .exact con "" WA Wp
 .exact con ("box x9 " ++ lB) Wp Wp
 .exact con ("in put x9 " ++ lB) Wp Wp
 .exact con ("on x9 if x9+" ++ lB++" < 0") Wp Wp
 .exact con ("box x9 -" ++ lB) Wp Wp
 .exact con ("out put x9 x9-" ++ lB) Wp Wp
structure St(pw:Str)(last own:Int):Prop where
 l:-1<=last
 o:0<=own/\own<=2
 r:last ≠ -1->own=if A5 pw<=1 then 0 else A5 pw-1
variable{last own:Int}
theorem Bc{a:Int}(s:St pw last own):0<=tQ a last own/\tQ a last own<=7:=by
 have c:=fD a (show(8:Int)≠0 by decide);have a1:=f6 a (show(0:Int)<8 by decide);have b:=fD (a / 8) (show(3:Int)≠0 by decide);have b1:=f6 (a / 8) (show(0:Int)<3 by decide);have f:0<=Dr a/\Dr a<=7:=by unfold Dr;split<;>lia
 have:=s.o;unfold tQ;split
 .exact f
 split
 .lia
 split
 .split<;>lia
 .exact f
theorem rX{a c:Int}(h:-1<=last):0<=Sx a c f last:=by
 have e:0<=W9 a f last:=by
  unfold W9;split
  .lia
  split
  .rename_i z;have:=fD (a / 56) (show(last+1)≠0 by lia);lia
  .exact m5 0
 unfold Sx m3 kv;split<;>split<;>lia
noncomputable def Xf(f:Int):Str:=if f=0 then "leaf" else if f=1 then "all" else if f=2 then "one" else if f=3 then "in" else if f=4 then "out" else if f=6 then "box" else "on"
def Zd(f c:Int):(wk ns f c).w=Xf f:=by
 unfold wk Xf
 repeat' split
 all_goals rfl
theorem SJ(h0:0<=f)(h1:f<7):(Xf f="box" ↔ f=6)/\(Xf f∈bu↔f<3)/\(2<f->f<6->A5 (Xf f)=f-2)/\(f<3->A5 (Xf f)=0):=by
 obtain rfl|rfl|rfl|rfl|rfl|rfl|rfl:f=0\/f=1\/f=2\/f=3\/f=4\/f=5\/f=6:=by lia
 all_goals decide +kernel
theorem UY{n:Nat}(s:St pw last own)(h0:0<=f)(h1:f<7):ig pw last n (Xf f)=JK f n last own:=by
 obtain⟨e,b,g,_⟩:=SJ h0 h1;have d:=s.r;unfold ig JK;rw[cq (show ¬ f=7 by lia)];by_cases c:f=6
 .rw[di (e.2 c),di c]
 rw[cq (λz=>c (e.1 z)),cq c];by_cases a:last=-1
 .rw[di a];by_cases e3:f<3
  .rw[cq (show ¬ 2<f by lia),di a,eD (b.2 e3),Bool.and_true]
  .rw[di (show 2<f by lia),eu (λz=>e3 (b.1 z)),gm,eD a];rfl
 .rw[cq a];have d:=d a;by_cases e3:f<3
  .rw[di (b.2 e3),cq (show ¬ 2<f by lia),cq a]
  .rw[cq (λz=>e3 (b.1 z)),di (show 2<f by lia),eu a,g Wl Wl];have:decide (A5 pw<=f-2)=decide (f-3 ≥ own):=nv.2 (by split at d<;>lia);rw[this];rfl
theorem Xg{n:Nat}(s:St pw last own)(h0:0<=f)(h1:f<7)(e:JK f n last own=true):St (Xf f) (if f<3 then(n:Int) else last) (if f<3 then 0 else if f<6 then f-3 else own)/\(if Xf f∈bu then(n:Int) else last)=if f<3 then(n:Int) else last:=by
 obtain⟨g,a,c,b⟩:=SJ h0 h1;have sl:=s.l;have h:=s.o;by_cases e3:f<3
 .rw[di e3,di e3,di (a.2 e3)];exact#[#[Wl,Wl,λ_=>by rw[b e3];rfl],rfl]
 .rw[cq e3,cq e3,cq (λz=>e3 (a.1 z))];refine#[#[sl,?_,λz=>?_],rfl]
  .split<;>lia
  .by_cases d:f=6
   .unfold JK at e;rw[cq Wl,di d,et]at e;exact absurd (ed e.2) z
   .rw[di (show f<6 by lia),c Wl Wl];split<;>lia
noncomputable def ru(a c:Int):Int:=(a*48271+c*16807) % 2147483647 / 7
def qG(ns:AT)(f a c:Int):Str:=if f=7 then UA (wk ns (a / 32 % 7) (c / 24)) (ru a c) else Str.join " " (wk ns (f % 7) (c / 24)).ws
def pe(ns:AT)(last own a c:Int):Str:=Txt.mul " " (Sx a c (tQ a last own) last)++qG ns (tQ a last own) a c
def Dy(last own a c:Int):Bool:=JK (tQ a last own) (Sx a c (tQ a last own) last) last own
def F8(last own a c:Int):Int:=if Dy last own a c=true/\tQ a last own<3 then Sx a c (tQ a last own) last else last
def SK(last own a c:Int):Int:=if Dy last own a c=true/\tQ a last own<3 then 0 else if Dy last own a c=true/\tQ a last own<6 then tQ a last own-3 else own
abbrev _root_.Cl:=List (Int×Int)
def dB(ns:AT):Int->Int->Cl->AT
 | _,_,[]=>[]
 | last,own,p::l=>pe ns last own p.1 p.2::dB ns (F8 last own p.1 p.2) (SK last own p.1 p.2) l
def jF:Int->Int->Int->Cl->Int
 | _,_,_,[]=>0
 | i,last,own,p::l=>if Dy last own p.1 p.2=true then jF (i+1) (F8 last own p.1 p.2) (SK last own p.1 p.2) l else i
theorem JX(b:oZ ns)(s:St pw last own)(a c:Int) :
  ((l0 (pe ns last own a c)).isSome&&ig pw last (mS (pe ns last own a c)) (iD (pe ns last own a c)).w)=Dy last own a c ∧
  (Dy last own a c=true->St (iD (pe ns last own a c)).w (F8 last own a c) (SK last own a c)/\Jr last (pe ns last own a c)=F8 last own a c):=by
 obtain⟨f0,i⟩:=Bc (a:=a) s;have h:=rX (a:=a) (c:=c) (f:=tQ a last own) s.l;obtain⟨n,en⟩:=i9 h;unfold pe Dy F8 SK Dy;rw[en];generalize tQ a last own=f at f0 i ⊢;by_cases d:f=7
 .subst d;have k:l0 (Txt.mul " " (n:Int)++qG ns 7 a c)=none:=Zc (lz b _ _).1 _ n;have es:JK 7 n last own=false:=rfl;rw[k,es];exact#[rfl,λz=>by cases z]
 .have j:qG ns f a c=Str.join " " (wk ns f (c / 24)).ws:=by
   unfold qG;rw[cq d,Int.emod_eq_of_lt f0 Wl]
  obtain⟨g1,g2,g3⟩:=Dp (lz b f (c / 24)).1 n;rw[j,g1,g2,g3,Zd];refine#[?_,λz=>?_]
  .rw[<- UY s f0 Wl];rfl
  .obtain⟨x,y⟩:=Xg s f0 Wl z;have g:(if JK f n last own=true/\f<3 then(n:Int) else last)=if f<3 then(n:Int) else last:=by rw[z];simp
   have e:(if JK f n last own=true/\f<3 then(0:Int) else if JK f n last own=true/\f<6 then f-3 else own)=if f<3 then 0 else if f<6 then f-3 else own:=by rw[z];simp
   rw[g,e];refine#[x,?_];unfold Jr;rw[g2,g3,Zd];exact y
theorem JY(d:oZ ns):∀(l:Cl) {i:Int} {pw:Str} {last own:Int},0<i->St pw last own →
  (rq pw last (dB ns last own l)=decide (jF i last own l=0))/\(jF i last own l≠0->zb i pw last (dB ns last own l)=jF i last own l/\zb i pw last (dB ns last own l++[("":Str)])=jF i last own l)/\rq pw last (dB ns last own l++[("":Str)])=false/\(jF i last own l=0->zb i pw last (dB ns last own l++[("":Str)])=i+l.length)
 | [],i,pw,last,own,hi,s=>by
  have e:l0 "" = none:=by decide +kernel
  refine#[rfl,λz=>absurd rfl z,?_,λ_=>?_]
  .show((l0 "").isSome&&_)=false;rw[e];rfl
  .show(if (l0 "").isSome=true/\_ then _ else i)=i+((0:Nat):Int);rw[e,cq (λz=>Bool.noConfusion z.1)];exact(Int.add_zero i).symm
 | p::l,i,pw,last,own,hi,s=>by
  obtain⟨t1,t2⟩:=JX d s p.1 p.2;have c:∀m:AT,rq pw last (pe ns last own p.1 p.2::m)=((l0 (pe ns last own p.1 p.2)).isSome&&(ig pw last (mS (pe ns last own p.1 p.2)) (iD (pe ns last own p.1 p.2)).w&&rq (iD (pe ns last own p.1 p.2)).w (Jr last (pe ns last own p.1 p.2)) m)):=λ_=>rfl;have b:∀m:AT,zb i pw last (pe ns last own p.1 p.2::m)=if (l0 (pe ns last own p.1 p.2)).isSome=true/\ig pw last (mS (pe ns last own p.1 p.2)) (iD (pe ns last own p.1 p.2)).w=true then zb (i+1) (iD (pe ns last own p.1 p.2)).w (Jr last (pe ns last own p.1 p.2)) m else i:=λ_=>rfl
  have n:dB ns last own (p::l)=pe ns last own p.1 p.2::dB ns (F8 last own p.1 p.2) (SK last own p.1 p.2) l:=rfl;have k:jF i last own (p::l)=if Dy last own p.1 p.2=true then jF (i+1) (F8 last own p.1 p.2) (SK last own p.1 p.2) l else i:=rfl
  rw[n,k,g4,c,c,b,b,<- Bool.and_assoc,<- Bool.and_assoc,t1];have a:((l0 (pe ns last own p.1 p.2)).isSome=true/\ig pw last (mS (pe ns last own p.1 p.2)) (iD (pe ns last own p.1 p.2)).w=true)↔Dy last own p.1 p.2=true:=by rw[<- et,t1]
  cases e:Dy last own p.1 p.2 with
  | false=>
   rw[e]at a;rw[cq WA,cq (λz=>Bool.noConfusion (a.1 z)),cq (λz=>Bool.noConfusion (a.1 z)),h9,h9];exact#[(eu Wl).symm,λ_=>#[rfl,rfl],rfl,λz=>by lia]
  | true=>
   obtain⟨s2,e2⟩:=t2 e;obtain⟨j,h,g,f⟩:=JY d l (i:=i+1) Wl s2;rw[di rfl,di (a.2 e),di (a.2 e),hG,hG,e2];exact#[j,h,g,λz=>by rw[f z,gv];lia]
def Rs(x:Str):Prop:=∀c∈x.cps.toList,c≠10/\c<128
instance(x:Str):Decidable (Rs x):=inferInstanceAs (Decidable (∀c∈x.cps.toList,c≠10/\c<128))
def SM(h:∀x∈l,Rs x):Rs (Str.join " " l):=λc z=>by
 rw[g9]at z;obtain e|⟨w,hw,hd⟩:=vX z
 .rw[e];decide
 .exact h w hw c hd
theorem JZ{x:Str}(h:We x):Rs x:=λc z=>by
 have:=h.2.2 c z;lia
def Dz{c:Str}(h:Rs a)(k:Rs c):Rs (a++c):=λn z=>by
 rw[aQ]at z;exact(eg.1 z).elim (h n) (k n)
theorem Nl{c:gP}(h:c.R)(k:Int):Rs (UA c k):=by
 have a:=fD k (show(10:Int)≠0 by decide);have b:=f6 k (show(0:Int)<10 by decide);have hw:=sX h;have f:Rs (Str.join " " c.ws):=SM λx d=>JZ (hw x d);have j:Rs (Str.join " " c.ws.tail):=SM λx d=>JZ (hw x (List.mem_of_mem_tail d));have i:Rs c.w:=by
  obtain⟨x,r,e⟩:=jL (c:=c);exact JZ (hw c.w (by rw[e];exact d6))
 have g:Rs (Dv (k / 10)):=by
  have:=fR.1 uD _ (wu (k / 10));simp only[et]at this;exact ed this.2.1
 unfold UA ow;generalize k % 10=q at a b ⊢;obtain rfl|rfl|rfl|rfl|rfl|rfl|rfl|rfl|rfl|rfl:q=0\/q=1\/q=2\/q=3\/q=4\/q=5\/q=6\/q=7\/q=8\/q=9:=by lia
 .exact g
 .exact Dz f Wp
 .exact Dz f Wp
 .exact Dz (Dz i Wp) j
 .exact show Rs ("":Str) by decide +kernel
 .exact show Rs (("box x9 ":Str)++lB) by decide +kernel
 .exact show Rs (("in put x9 ":Str)++lB) by decide +kernel
 .exact show Rs (("on x9 if x9+":Str)++lB++" < 0") by decide +kernel
 .exact show Rs (("box x9 -":Str)++lB) by decide +kernel
 .exact show Rs (("out put x9 x9-":Str)++lB) by decide +kernel
def Nd(b:oZ ns){a c:Int}(e:-1<=last):Rs (pe ns last own a c):=by
 obtain⟨n,en⟩:=i9 (rX (a:=a) (c:=c) (f:=tQ a last own) e);unfold pe;rw[en];refine Dz (λc z=>?_) ?_
 .rw[qm]at z;rw[List.eq_of_mem_replicate z];decide
 .unfold qG;split
  .exact Nl (lz b _ _).1 _
  .exact SM λx d=>JZ (sX (lz b _ _).1 x d)
theorem Bd{ns:AT}(d:oZ ns):∀(l:Cl) {last own:Int},-1<=last->∀x∈dB ns last own l,Rs x
 | [],_,_,_,x,b=>by cases b
 | p::l,last,own,h,x,b=>by
  obtain rfl|b:=d3.1 b
  .exact Nd d h
  .refine Bd d l ?_ x b;unfold F8;split
   .have:=rX (a:=p.1) (c:=p.2) (f:=tQ p.1 last own) h;lia
   .exact h
theorem qH(ns:AT):∀(l:Cl) (last own:Int),(dB ns last own l).length=l.length
 | [],_,_=>rfl
 | p::l,last,own=>congrArg (· + 1) (qH ns l _ _)
def Xh(h0:l≠[])(h:∀x∈l,Rs x):fO (Str.join "\n" l)=l:=by
 unfold fO;rw[vW];exact rS h0 λx a z=>(h x a 10 z).1 rfl
def Xi(h:l≠[]):Str.join "\n" l++"\n" = Str.join "\n" (l++[("":Str)]):=by
 rw[vW];have go:∀l:AT,l≠[]->(Str.join #[(List.toArray [10])] (l++[("":Str)])).cps.toList=(Str.join #[(List.toArray [10])] l).cps.toList++[10]:=λl h=>by
  induction l with
  | nil=>exact absurd rfl h
  | cons a l b=>
   cases l with
   | nil=>rw[g4,List.nil_append,fH];rfl
   | cons e l=>
    have:=b (hq _ _);rw[g4,g4,fH,fH,<- g4,this,eB];rfl
 exact eN (by rw[go l h,aQ])
theorem HH(s:BN):oZ (LV s 6):=by
 have e:=fD (dR s 0) (show(26*36 ^ (10:Int).toNat:Int)≠0 by decide +kernel);have b1:=f6 (dR s 0) (show(0:Int)<26*36 ^ (10:Int).toNat by decide +kernel);have b2:(26*36 ^ (10:Int).toNat:Int)<=26*3656158440062976:=by decide +kernel
 have st:=CZ s;unfold LV;generalize dR s 0 % (26*36 ^ (10:Int).toNat)=c at e b1 ⊢;generalize vP s=sp at st ⊢;refine#[qk c sp 6,λx a=>?_];have go:∀n:Nat,n<=6->∀x∈qj c sp n,aO x=true:=λn=>by
  induction n with
  | zero=>exactλ_ x a=>by cases a
  | succ n b=>
   intro h x a;rw[qj]at a;obtain a|a:=eg.1 a
   .exact b Wl x a
   .rw[eC.1 a];have d:=qk c sp n;have h0:0<=(n:Int)*sp:=Int.mul_nonneg Wl st.1;have h1:(n:Int)*sp<=6*1213056:=Int.mul_le_mul Wl st.2 st.1 WA;exact QM Wl (by rw[d];lia)
 exact go 6 (ea _) x a
theorem F9(e:oZ ns)(c:Int)(h0:0<=f)(h1:f<7):(Str.join " " (wk ns f c).ws).length<=1000:=by
 have n1:=qF (bT e c);by_cases a:f<3
 .rw[<- Y6 e c h0 a];exact er (la (la (Ba f) n1) (JG e f c)) WA
 by_cases b:f<5
 .rw[<- Y7 c Wl b];exact er (la (m:=4) (by split<;>decide) (F7 e c)) WA
 by_cases d:f=6
 .rw[d,<- Y8 c];exact er (la (la (la (la (show("box ":Str).length<=4 by decide) n1) (show(" ":Str).length<=1 by decide)) (show(if c / 6 % 2=0 then("":Str) else "-").length<=1 by split<;>decide)) (w7 c 12)) WA
 .rw[<- Za c (show f=5 by lia)];exact er (la (la (la (la (show("on ":Str).length<=3 by decide) (qF (bT e _))) (JD e _)) (JF e _)) (JH e _)) WA
theorem Na(b:oZ ns)(s:St pw last own)(a c:Int):(iD (pe ns last own a c)).Sm:=by
 obtain⟨f0,g⟩:=Bc (a:=a) s;have e:=rX (a:=a) (c:=c) (f:=tQ a last own) s.l;obtain⟨n,en⟩:=i9 e;unfold pe;rw[en];generalize tQ a last own=f at f0 g ⊢;by_cases d:f=7
 .subst d;have i:lZ (xZ (Txt.mul " " (n:Int)++qG ns 7 a c))=none:=Zc (lz b _ _).1 _ n;unfold iD L1;rw[i];trivial
 .have h:qG ns f a c=Str.join " " (wk ns f (c / 24)).ws:=by
   unfold qG;rw[cq d,Int.emod_eq_of_lt f0 Wl]
  rw[h,(Dp (lz b f (c / 24)).1 n).2.2];exact(lz b f (c / 24)).2
theorem Gb(b:oZ ns)(s:St pw last own)(a c:Int):∃d,St d (F8 last own a c) (SK last own a c):=by
 cases e:Dy last own a c with
 | true=>exact#[_,((JX b s a c).2 e).1]
 | false=>
  refine#[pw,?_];unfold F8 SK;rw[e,cq (λz=>Bool.noConfusion z.1),cq (λz=>Bool.noConfusion z.1),cq (λz=>Bool.noConfusion z.1)];exact s
theorem J1(b:oZ ns):∀(l:Cl) {pw:Str} {last own:Int},St pw last own->∀x∈dB ns last own l,(iD x).Sm
 | [],_,_,_,_,x,a=>by cases a
 | p::l,pw,last,own,s,x,a=>by
  obtain rfl|a:=d3.1 a
  .exact Na b s _ _
  .obtain⟨_,s2⟩:=Gb b s p.1 p.2;exact J1 b l s2 x a
theorem J2:∀{l:AT} {i:Int} {f:dQ},f∈xJ i l->∃x∈l,f.c=iD x
 | x::l,i,f,h=>by
  obtain rfl|h:=d3.1 h
  .exact#[x,d6,rfl]
  .obtain⟨y,a,e⟩:=J2 h;exact#[y,ee _ a,e]
def SN:(iD "").Sm:=by
 have e:lZ (xZ "")=none:=by decide +kernel
 unfold iD L1;rw[e];trivial
def US{x:Str}(e:fO x=l)(b:l.length<=49)(h:∀y∈l,(iD y).Sm):Uz x:=by
 refine#[e▸b,λf hf=>?_];rw[e]at hf;obtain⟨y,a,ec⟩:=J2 hf;rw[ec];exact h y a
theorem Ze{a c:Int}(h:-1<=last):Sx a c f last<=last+3:=by
 have e:W9 a f last<=last+1:=by
  unfold W9;split
  .exact m5 _
  split
  .rename_i z;have:=f6 (a / 56) (show 0<last+1 by lia);lia
  .lia
 unfold Sx m3 kv;split<;>split<;>lia
theorem UP{c:gP}(d:(Str.join " " c.ws).length<=1000)(f:c.R)(k:Int):(UA c k).length<=1100:=by
 have a:=fD k (show(10:Int)≠0 by decide);have b:=f6 k (show(0:Int)<10 by decide);have g:(Dv (k / 10)).length<=100:=by
  have:=fR.1 uD _ (wu (k / 10));simp only[et]at this;exact ed this.2.2.1
 have lf:lB.length<=31:=by decide +kernel
 have lw:c.w.length<=53:=by
  obtain⟨x,r,e⟩:=jL (c:=c);exact(sX f c.w (by rw[e];exact d6)).2.1
 have lt:(Str.join " " c.ws.tail).length<=1000:=by
  obtain⟨x,r,e⟩:=jL (c:=c);rw[e]at d ⊢;rw[lA,<- aK,aQ,fv,aK]at d;exact er (by rw[<- aK];exact Nat.le_add_left _ _) d
 unfold UA ow;generalize k % 10=q at a b ⊢;obtain rfl|rfl|rfl|rfl|rfl|rfl|rfl|rfl|rfl|rfl:q=0\/q=1\/q=2\/q=3\/q=4\/q=5\/q=6\/q=7\/q=8\/q=9:=by lia
 .exact er g WA
 .exact er (la d (show(" ":Str).length<=1 by decide)) WA
 .exact er (la d (show(" x9":Str).length<=3 by decide)) WA
 .exact er (la (la lw (show("  ":Str).length<=2 by decide)) lt) WA
 .exact fc _
 .exact er (la (show("box x9 ":Str).length<=20 by decide) lf) WA
 .exact er (la (show("in put x9 ":Str).length<=20 by decide) lf) WA
 .exact er (la (la (show("on x9 if x9+":Str).length<=20 by decide) lf) (show(" < 0":Str).length<=20 by decide)) WA
 .exact er (la (show("box x9 -":Str).length<=20 by decide) lf) WA
 .exact er (la (show("out put x9 x9-":Str).length<=20 by decide) lf) WA
theorem Zf{a c:Int}:F8 last own a c<=last+1:=by
 unfold F8 Dy;split
 .rename_i z;obtain⟨b,d⟩:=z;unfold JK at b;rw[cq Wl,cq Wl,cq Wl]at b;split at b
  .have:=ed b;lia
  .rw[et]at b;exact ed b.2
 .lia
theorem SQ(b:oZ ns)(s:St pw last own)(a c:Int):((pe ns last own a c).length:Int)<=last+1103:=by
 obtain⟨f0,h⟩:=Bc (a:=a) s;have g:=rX (a:=a) (c:=c) (f:=tQ a last own) s.l;have d:=Ze (a:=a) (c:=c) (f:=tQ a last own) s.l;obtain⟨n,en⟩:=i9 g;unfold pe;rw[en]at d ⊢;generalize tQ a last own=f at f0 h ⊢;have j:=fD (a / 32) (show(7:Int)≠0 by decide);have a1:=f6 (a / 32) (show(0:Int)<7 by decide);have i:=fD f (show(7:Int)≠0 by decide);have b1:=f6 f (show(0:Int)<7 by decide);have e:(qG ns f a c).length<=1100:=by
  unfold qG;split
  .exact UP (F9 b _ j a1) (lz b _ _).1 _
  .exact er (F9 b _ i b1) WA
 have hm:(Txt.mul " " (n:Int)).length=n:=by rw[<- aK,qm,iw]
 have:=la (Nat.le_of_eq hm) e;lia
theorem Be(d:oZ ns):∀(l:Cl) {pw:Str} {last own:Int},St pw last own->∀x∈dB ns last own l,(x.length:Int)<=last+l.length+1103
 | [],_,_,_,_,x,b=>by cases b
 | p::l,pw,last,own,s,x,b=>by
  obtain rfl|b:=d3.1 b
  .have:=SQ d s p.1 p.2;rw[gv];lia
  .obtain⟨_,s2⟩:=Gb d s p.1 p.2;have:=Be d l s2 x b;have:=Zf (last:=last) (own:=own) (a:=p.1) (c:=p.2);rw[gv];lia
noncomputable def ot:St "" (-1) 0:=#[m5 _,WA,λz=>absurd rfl z]
theorem RS(h:∀x∈l,x.length<=1200)(a:l.length<=49):(Str.join "\n" l).length<=900000:=by
 rw[vW];have:=vY (c:=10) h;have:l.length*(1200+1)<=49*1201:=Nat.mul_le_mul a (ea _);lia
def Gd(ns:AT)(ps:Cl)(nl:Bool):Str:=if nl=true then Str.join "\n" (dB ns (-1) 0 ps)++"\n" else Str.join "\n" (dB ns (-1) 0 ps)
def Es(ps:Cl)(nl:Bool):Int:=if ps=[] then 1 else if jF 1 (-1) 0 ps=0/\nl=true then 1+ps.length else jF 1 (-1) 0 ps
theorem J3(f:oZ ns)(ps:Cl)(r:ps.length<=40)(nl:Bool):Uz (Gd ns ps nl)/\(Gd ns ps nl).length<=900000/\rq "" (-1) (fO (Gd ns ps nl))=decide (Es ps nl=0)/\(Es ps nl≠0->zb 1 "" (-1) (fO (Gd ns ps nl))=Es ps nl):=by
 have fin:∀{x:Str} {l:AT},x=Str.join "\n" l->l≠[]->l.length<=41->(∀y∈l,Rs y/\(iD y).Sm/\y.length<=1200)->Uz x/\x.length<=900000/\fO x=l:=λ{x l} e h0 h1 h=>by
  have o:fO x=l:=by rw[e];exact Xh h0 λy d=>(h y d).1
  exact#[US o Wl λy d=>(h y d).2.1,by rw[e];exact RS (λy d=>(h y d).2.2) Wl,o]
 have e0:(Rs "" /\ (iD "").Sm/\("":Str).length<=1200):=#[Wp,SN,fc _];cases ps with
 | nil=>
  have k:Es [] nl=1:=di rfl;rw[k];cases nl with
  | false=>
   obtain⟨a,b,c⟩:=fin (x:=Gd ns [] false) (l:=[""]) rfl (hq _ _) WA (λy d=>by rw[eC.1 d];exact e0);rw[c];exact#[a,b,Wp,λ_=>by decide +kernel]
  | true=>
   obtain⟨a,b,c⟩:=fin (x:=Gd ns [] true) (l:=["",""]) (show Str.join "\n" []++"\n" = Str.join "\n" [("":Str),""] by decide +kernel) (hq _ _) WA (all2 e0 e0);rw[c];exact#[a,b,Wp,λ_=>by decide +kernel]
 | cons p ps=>
 have m:p::ps≠[]:=hq _ _;generalize p::ps=l at r m;have g:dB ns (-1) 0 l≠[]:=λz=>by
  have:=qH ns l (-1) 0;rw[z]at this;exact m (t5.1 this.symm)
 have n:∀y∈dB ns (-1) 0 l,Rs y/\(iD y).Sm/\y.length<=1200:=λy d=>by
  have:=Be f l ot y d;exact#[Bd f l (m5 _) y d,J1 f l ot y d,Wl]
 have j:=qH ns l (-1) 0;obtain⟨t1,t2,t3,q⟩:=JY f l (i:=1) WA ot;have k:Es l nl=if jF 1 (-1) 0 l=0/\nl=true then 1+(l.length:Int) else jF 1 (-1) 0 l:=cq m
 rw[k];cases nl with
 | false=>
  obtain⟨a,b,c⟩:=fin (x:=Gd ns l false) (l:=dB ns (-1) 0 l) rfl g Wl n;rw[c,cq (λz=>Bool.noConfusion z.2)];exact#[a,b,t1,λz=>(t2 z).1]
 | true=>
  obtain⟨a,b,c⟩:=fin (x:=Gd ns l true) (l:=dB ns (-1) 0 l++[("":Str)]) (Xi g) (λz=>g (List.append_eq_nil_iff.1 z).1) (by rw[fv,j,hV];lia) (λy d=>(eg.1 d).elim (n y) λd=>by rw[eC.1 d];exact e0);rw[c];by_cases z:jF 1 (-1) 0 l=0
  .rw[di #[z,rfl],t3,q z];exact#[a,b,(eu Wl).symm,λ_=>rfl]
  .rw[cq (λy=>z y.1),t3];exact#[a,b,(eu z).symm,λ_=>(t2 z).2]
seal L3.cg L3.O2 L3.bw L3.bN L3.kQ L3.Ek L3.BL
def nL:Sq (BN×Int):=#["_law_cell_at",1,2,top 86,["script","k"],λ(ns,j)=>([.lst (ns.map .int),.int j],(0<=j),(.sh (.int (dR ns j)):T))]
def jd:Sq (Int×AT):=#["_law_name_by",1,2,top 87,["number","used","letters","words","more","name","rest"],λ(m,us)=>([.int m,.lst (us.map .str)],(0<=m/\m<100000000000000000000/\us.length<=100),(.sh (.str (nX m us)):T))]
def jv:Sq (BN×Nat):=#["_law_names_by",2,2,top 88,["script","many","base","step","found","k"],λ(s,n)=>([.lst (s.map .int),.int n],(n<=100),(.lst (((LV s n).map .str).map T.sh):T))]
def kJ:Sq (Int×Int×Int):=#["_law_form_by",1,3,top 95,["cell","last","own","form"],λ(a,last,own)=>([.int a,.int last,.int own],(True),(.sh (.int (tQ a last own)):T))]
def iI:Sq (Int×Int×Int×Int):=#["_law_blanks_by",1,3,top 96,["item","form","last","blanks"],λ(a,c,f,last)=>([.tup [.int a,.int c],.int f,.int last],(-1<=last),(.sh (.int (Sx a c f last)):T))]
def kK:Sq (Int×Str):=#["_law_term_by",1,2,top 89,["cell","name","size"],λ(c,x)=>([.int c,.str x],(aO x=true),(.sh (.str (gw (kI c x).1 (kI c x).2)):T))]
def kL:Sq (Int×AT):=#["_law_deed_by",2,2,top 90,["cell","names","name","term"],λ(c,ns)=>([.int c,.lst (ns.map .str)],(oZ ns),(.sh (.str (Str.join " " (rz ns c).ws)):T))]
def kM:Sq (Int×AT):=#["_law_asks_by",2,2,top 91,["cell","names","one","other","some"],λ(c,ns)=>([.int c,.lst (ns.map .str)],(oZ ns),(.sh (.str (l6 ns c)):T))]
def gj:Sq (Int×Int×AT):=#["_law_right_by",3,3,top 92,["form","cell","names","row","some","goal"],λ(f,c,ns)=>([.int f,.int c,.lst (ns.map .str)],((0<=f/\f<7)/\oZ ns),(.sh (.str (Str.join " " (wk ns f c).ws)):T))]
def mV:Sq (Int):=#["_law_odd_by",1,1,top 93,["cell","some","odd"],λc=>([.int c],(True),(.sh (.str (Dv c)):T))]
def gQ:Sq (gP×Int):=#["_law_spoiled_by",2,2,top 94,["row","cell","parts","some","far"],λ(c,k)=>([.str (Str.join " " c.ws),.int k],(c.R/\(Str.join " " c.ws).length<=1000),(.sh (.str (UA c k)):T))]
def mW:Sq (Int×Int×Int×Int):=#["_law_stands",1,4,top 97,["form","blanks","last","own"],λ(f,bl,last,own)=>([.int f,.int bl,.int last,.int own],(True),(.sh (.bl (JK f bl last own)):T))]
def qI:Sq AT:=#["places",1,1,top 70,["names","found","place","name"],λl=>([.lst (l.map .str)],(l.length<=1000),(.iO (AQ l):T))]
def gk:xF (AT×Str×Int):=#["place_of",3,3,top 76,["name","given","row"],λ(l,x,r)=>([.str x,.iO (AQ l),.int r],(True),(pk l x),(.sh (.int (pz l x)):T),("NoName",some [("row",.int r)]))]
def cR:xF (AT×Str×Int×Int):=#["numbered_term",4,3,top 75,["term","boxes","row"],λ(l,n,k,r)=>([YN n k,.iO (AQ l),.int r],(True),(pk l n),(.sh (WB l n k):T),("NoName",some [("row",.int r)]))]
def cS:xF (AT×ia×Int):=#["numbered_deed",5,3,top 74,["deed","boxes","row"],λ(l,q,r)=>([q.d,.iO (AQ l),.int r],(True),(q.ok l),(.sh (q.n l):T),("NoName",some [("row",.int r)]))]
def dg:xF (AT×AT×ic×Int):=#["numbered_ask",5,4,top 73,["ask","boxes","moods","row"],λ(bs,ms,q,r)=>([q.d,.iO (AQ bs),.iO (AQ ms),.int r],(q.Ok),(q.ok bs ms),(.sh (q.n bs ms):T),("NoName",some [("row",.int r)]))]
def dh:xF (AT×AT×lu×Int):=#["numbered_way",6,4,top 72,["content","boxes","moods","row","asks","deeds"],λ(bs,ms,w,r)=>([w.d,.iO (AQ bs),.iO (AQ ms),.int r],(w.Ok),(w.ok bs ms),(.sh (w.n bs ms):T),("NoName",some [("row",.int r)]))]
def dG:xF (AT×AT×dQ):=#["numbered_form",7,3,top 71,["form","boxes","moods","row","word","content"],λ(bs,ms,q)=>([q.d,.iO (AQ bs),.iO (AQ ms)],(q.c.Ok),(q.c.ok bs ms),(.sh (q.n bs ms):T),("NoName",some [("row",.int q.r)]))]
def gq:xF (List dQ):=#["numbered",8,1,top 69,["forms","boxes","moods"],λfs=>([.lst (fs.map dQ.d)],(YQ fs),(fs.all (Uv fs)),(.lst ((fs.map (dQ.n (Ep fs) (C9 fs))).map T.sh):T),("NoName",some [("row",.int (LW fs))]))]
def kN:Sq (Str):=#["is_name",1,1,top 12,["text","sign"],λx=>([.str x],(x.length<=sizeLine),(.sh (.bl (aO x)):T))]
def iu:xF (Str×Int):=#["name_of",3,2,top 58,["text","row"],λ(x,r)=>([.str x,.int r],(x.length<=sizeLine),(aO x),(.sh (.str x):T),("BadRow",some [("row",.int r)]))]
def fW:Sq (Str):=#["are_figures",1,1,top 61,["text","sign"],λx=>([.str x],(x.length<=sizeLine),(.sh (.bl (gM x)):T))]
theorem qJ(x:Str):Txt.startswith x "-" = decide (x.cps.toList.head? = some 45):=by
 unfold Txt.startswith;obtain⟨⟨l⟩⟩:=x;have e1:("-":Str)=#[(List.toArray [45])]:=rfl;rw[e1];unfold Builtin.Str.subAt;cases l with
 | nil=>rfl
 | cons c l=>
  by_cases h:c=45
  .subst h;simp[Str.length]
  .simp[Str.length,h]
theorem M1(n:Nat):Builtin.Str.strSliceIndices (some 1) none 1 (n+1)=(List.range n).map (· + 1):=by
 unfold Builtin.Str.strSliceIndices sliceRange;have e:max 0 (min 1 ((n+1:Nat):Int))=1:=by lia
 simp only[show ¬ (1:Int)<0 by decide,if_false,show(1:Int) > 0 by decide,if_true,e];have e2:(if 1<((n+1:Nat):Int) then(((n+1:Nat):Int)-1+1-1) / 1 else 0).toNat=n:=by
  split<;>lia
 rw[e2];refine hB λk _=>?_;lia
theorem Xj(l:Cc):∀r:Cc,((List.range l.length).map (· + r.length)).filterMap (λi=>(r++l).toArray[i]?)=l:=by
 induction l with
 | nil=>intro r;rfl
 | cons c l a=>
  intro r;rw[gv,List.range_succ_eq_map,eJ,i2];have e:(r++c::l).toArray[0+r.length]? = some c:=by simp
  rw[e];have:=a (r++[c]);rw[fv,eB]at this;show c::_=_;congr 1;rw[eI];refine Eq.trans ?_ this;congr 1;refine hB λk _=>?_;show k+1+r.length=k+(r.length+1);lia
def Mg{x:Str}{c:Nat}{l:Cc}(a:x.cps.toList=c::l):Txt.slice x (some 1) none=#[(x.cps.toList.drop 1).toArray]:=by
 obtain⟨⟨m⟩⟩:=x;subst a;unfold Txt.slice;have b:(#[#[c::l]]:Str).length=l.length+1:=rfl;rw[b,M1,cq WE];have:=Xj l [c];exact congrArg (λz=>(#[ _ ]:Str)) this
def iJ:Sq (Str):=#["is_number",2,1,top 60,["text","figures"],λx=>([.str x],(x.length<=sizeLine),(.sh (.bl (iW x)):T))]
def fL:xF (Str×Int):=#["number_of",3,2,top 59,["text","row"],λ(x,r)=>([.str x,.int r],(x.length<=sizeLine),(iW x),(.sh (.int (intOf x)):T),("BadRow",some [("row",.int r)]))]
def iy:xF (Str×Int):=#["term_of",4,2,top 62,["text","row","mark","parts","name","more"],λ(x,r)=>([.str x,.int r],(x.length<=sizeLine),((xX x).isSome),(.sh (Rw x):T),("BadRow",some [("row",.int r)]))]
def iz:xF (AT×Int):=#["deed_of",5,2,top 63,["words","row"],λ(ws,r)=>([.lst (ws.map .str),.int r],(∀w∈ws,w.length<=sizeLine),((mR ws).isSome),(.sh (N2 ws):T),("BadRow",some [("row",.int r)]))]
def jw:Sq AT:=#["parts_of",1,1,top 66,["words","parts","word"],λws=>([.lst (ws.map .str)],((∃r,ws=("on":Str)::r)/\ws.length<=1000000),(.lst ((pF ws).map lT):T))]
def iA:xF (AT×Int):=#["goal_of",4,2,top 67,["part","row"],λ(p,r)=>([.lst (p.map .str),.int r],(p≠[]/\∀w∈p,w.length<=sizeLine),((qx p).isSome),(.sh (r4 p):T),("BadRow",some [("row",.int r)]))]
def jx:xF (AT×Int):=#["ask_of",5,2,top 64,["words","row"],λ(ws,r)=>([.lst (ws.map .str),.int r],(∀w∈ws,w.length<=sizeLine),((nY ws).isSome),(.sh (Uw ws):T),("BadRow",some [("row",.int r)]))]
def jy:xF (AT×Int):=#["way_of",6,2,top 65,["words","row","parts","last","part","asks","deeds","goal"],λ(ws,r)=>([.lst (ws.map .str),.int r],((∃l,ws=("on":Str)::l)/\ws.length<=1000000/\∀w∈ws,w.length<=sizeLine),(AY (pF ws)),((yV (pF ws)).t:T),("BadRow",some [("row",.int r)]))]
def eO:xF (AT×Int):=#["content_of",7,2,top 57,["words","row","word"],λ(ws,r)=>([.lst (ws.map .str),.int r],(ws≠[]/\ws.length<=1000000/\∀w∈ws,w.length<=sizeLine),((lZ ws).isSome),((L1 ws).t:T),("BadRow",some [("row",.int r)]))]
def iB:xF (Str×Int):=#["form_of",8,2,top 56,["line","row","rest","words"],λ(x,r)=>([.str x,.int r],(x.length<=900000),((l0 x).isSome),((dQ.mk r (mS x) (iD x)).t:T),("BadRow",some [("row",.int r)]))]
def iK:Sq (dQ×Str×Int):=#["may_stand",1,3,top 81,["form","last_word","mood_blanks","word","blanks"],λ(f,pw,mb)=>([f.t.d7,.str pw,.int mb],(f.c.w∈qA/\(mb=-1\/∃a,fK.lookup pw=some a)),(.sh (.bl (ig pw mb f.bl f.c.w)):T))]
def jz:xF (Str):=#["formed",9,1,top 80,["text","forms","last_word","mood_blanks","place","line","form"],λx=>([.str x],(x.length<=900000),(rq "" (-1) (fO x)),(.lst ((xJ 1 (fO x)).map dQ.t):T),("BadRow",some [("row",.int (zb 1 "" (-1) (fO x)))]))]
def kc(es:BN)(j:Nat):BN:=if j=0 then [] else(((j-1:Nat):Int)::dM es ((j-1:Nat):Int)).reverse
theorem RO(h:kG es)(a:j<es.length):(kc es j).take (dM es (j:Int)).length=(dM es (j:Int)).reverse/\((dM es (j:Int)).reverse.getLast? = if es.getD j 0=-1 then none else some (es.getD j 0)):=by
 have e:=rM h.1 (m:=j) Wl Wl;rw[i1]at e;cases j with
 | zero=>
  obtain⟨e0,e1⟩:=vx h.1 a;rw[e1,di e0];simp
 | succ k=>
  have hp:=h.2 k a;generalize es.getD _ 0=x at hp e ⊢;have b:0<=x:=by
   obtain z|z:=hp
   .lia
   .exact(Aq h.1 Wl Wl z).1
  rw[e,cq Wl,cq Wl];constructor
  .unfold kc;rw[cq WE,kx];obtain z|z:=hp
   .subst z;rw[<- sx,hS]
   .obtain⟨pre,ep,_⟩:=rN h.1 (k+1) Wl Wl Wl z;have e2:(k:Int)::dM es k=((k:Int)::pre)++(x::dM es x):=by rw[ep];rfl
    rw[e2,List.reverse_append,<- sx,List.take_left]
  simp
def SR(xs:List α)(k:Nat):cutD xs none (some (k:Int))=xs.take k:=by simp[cutD,HT.UN,HT.Ox]
def Xk:(dM es (j:Int)).reverse++[(j:Int)]=kc es (j+1):=by
 unfold kc;rw[cq (Nat.succ_ne_zero j),kx,nz]
def iL:Sq BN:=#["elders_of",1,1,top 82,["depths","elders","line","mood","deep"],λes=>([.lst ((xW es).map .int)],(kG es/\es.length<=900),(.lst ((es.map .int).map T.sh):T))]
def jA:Sq (CH×Bool):=#["deeds_of",1,2,top 83,["forms","word","found","form"],λ(c,b)=>([.lst c.tO,.str (if b then "in" else "out")],(N3 c),(.lst (((c.dl b).map L3.D.tup).map T.sh):T))]
def kO:Sq (CH):=#["ways_of",1,1,top 84,["forms","ways","mood","form"],λc=>([.lst c.tO],(N3 c),(.lst ((c.ws.map WY.d).map T.sh):T))]
def qK:Sq (AT×BN×BN×Int):=#["above",1,2,top 26,["tree","mood","found","elder"],λ(ks,es,ss,m)=>([kF ks es ss,.int m],(lU es/\0<=m/\m<es.length/\es.length<=1000),(.lst (((dM es m).map .int).map T.sh):T))]
def qL:Sq (AT×BN×BN×Int):=#["depth",2,2,top 27,["tree","mood"],λ(ks,es,ss,m)=>([kF ks es ss,.int m],(lU es/\0<=m/\m<es.length/\es.length<=1000),(.sh (.int ((dM es m).length:Nat)):T))]
def ck:Sq (AT×BN×BN):=#["are_elders_right",3,1,top 35,["tree","mood","line"],λ(ks,es,ss)=>([kF ks es ss],(kG es/\1<=es.length/\es.length<=900),(.sh (.bl (mT es)):T))]
def cM:Sq (AT×BN×BN):=#["are_kinds_right",1,1,top 36,["tree","with_inner","elder","mood","kind"],λ(ks,es,ss)=>([kF ks es ss],(ks.length<=900/\es.length<=900),(.sh (.bl (LQ ks es)):T))]
def jB:Sq (Int×BB):=#["is_place",1,2,top 46,["number","row"],λ(i,ds)=>([.int i,.lst ds],(True),(.sh (.bl (xG i ds.length)):T))]
def cu:Sq (AT×BN×BN):=#["are_starts_right",2,1,top 37,["tree","mood","start"],λ(ks,es,ss)=>([kF ks es ss],(ks.length=es.length/\ss.length=es.length/\es.length<=900),(.sh (.bl (Fx ks es ss)):T))]
structure xI(bs:DO)(nm ks:AT)(es ss:BN)(is os:List (List Iz))(ws:List Wh):Prop where
 pre:kG es
 kl:ks.length=es.length
 sl:ss.length=es.length
 nl:nm.length=es.length
 l4:es.length<=400
 n1:∀x∈nm,x.length<=1000
 b1:∀q∈bs,q.1.length<=1000
 b2:bs.length<=1000
 il:is.length=nm.length
 ol:os.length=nm.length
 wl:ws.length<=100
 dd:∀l∈is++os++ws.map (·.dl),∀q∈l,kn q/\kq bs.length q=true
 ww:∀w∈ws,w.Ok nm.length bs.length
 wp:ws.Pairwise λa c=>a.src<=c.src
def eX:Sq (AT×BN×BN×BB):=#["is_tree_right",4,2,top 34,["tree","names","many"],λ(ks,es,ss,nm)=>([kF ks es ss,.lst nm],((kG es/\es.length<=900)/\ks.length=es.length/\ss.length=es.length/\nm.length=es.length),(.sh (.bl (F3 ks es ss)):T))]
def cO:Sq AT:=#["are_names_right",2,1,top 38,["names","name"],λl=>([.lst (l.map .str)],((∀x∈l,x.length<=1000)/\l.length<=1000),(.sh (.bl (mO l)):T))]
def gR:Sq (Int):=#["is_bounded",1,1,top 47,["number"],λi=>([.int i],(True),(.sh (.bl (Wd i)):T))]
def dN:Sq (DO):=#["are_boxes_right",3,1,top 39,["boxes","box"],λl=>([.lst (l.map YF)],((∀q∈l,q.1.length<=1000)/\l.length<=1000),(.sh (.bl (CY l)):T))]
def eY:Sq (BB×BB×L3.D×BB×BB×BB×Int×Int):=#["is_term_right",2,2,top 45,["chart","term"],λ(bs,nm,tr,is,os,ws,i,c)=>([iR bs nm tr is os ws,.tup [.int i,.int c]],(True),(.sh (.bl (Fw bs.length i c)):T))]
def eZ:Sq (BB×BB×L3.D×BB×BB×BB×Iz):=#["is_deed_right",3,2,top 44,["chart","deed","word"],λ(bs,nm,tr,is,os,ws,q)=>([iR bs nm tr is os ws,Eo q],(kn q),(.sh (.bl (kq bs.length q)):T))]
def cP:Sq (BB×BB×L3.D×List (List Iz)×List (List Iz)×List Wh):=#["are_deeds_right",4,1,top 40,["chart","many","deeds","deed"],λ(bs,nm,tr,is,os,ws)=>([iR bs nm tr (is.map λl=>L3.D.tup (l.map Eo)) (os.map λl=>L3.D.tup (l.map Eo)) (ws.map Wi)],(is.length=nm.length/\os.length=nm.length/\nm.length<=400/\ws.length<=100/\(∀l∈is++os++ws.map (·.dl),∀q∈l,kn q/\kq bs.length q=true)),(.sh (.bl true):T))]
def fM:Sq (BB×BB×L3.D×BB×BB×BB×YD):=#["is_ask_right",3,2,top 43,["chart","ask","mark"],λ(bs,nm,tr,is,os,ws,q)=>([iR bs nm tr is os ws,Wf q],(Wg q),(.sh (.bl (rx nm.length bs.length q)):T))]
def fN:Sq (BB×BB×L3.D×BB×BB×BB×Int×Str×List YD×BB×Int×Str):=#["is_way_right",4,2,top 42,["chart","way","target","mode","ask"],λ(bs,nm,tr,is,os,ws,src,sg,al,dd,tg,md)=>([iR bs nm tr is os ws,.tup [.int src,.str sg,.tup (al.map Wf),.tup dd,.int tg,.str md]],(xG src nm.length=true/\(sg.length<=1000/\aO sg=true)/\md∈(["new","near","far"]:AT)/\((tg=-1/\md="new")\/(tg ≠ -1/\xG tg nm.length=true))/\∀q∈al,Wg q/\rx nm.length bs.length q=true),(.sh (.bl true):T))]
def cY:Sq (BB×BB×L3.D×BB×BB×List Wh):=#["are_ways_right",5,1,top 41,["chart","last","way"],λ(bs,nm,tr,is,os,ws)=>([iR bs nm tr is os (ws.map Wi)],((∀w∈ws,w.Ok nm.length bs.length)/\ws.Pairwise (λa c=>a.src<=c.src)),(.sh (.bl true):T))]
def jC:xF (DO×AT×AT×BN×BN×List (List Iz)×List (List Iz)×List Wh):=#["looked",6,1,top 33,["chart"],λ(bs,nm,ks,es,ss,is,os,ws)=>([iR (bs.map YF) (nm.map .str) (kF ks es ss) (is.map λl=>L3.D.tup (l.map Eo)) (os.map λl=>L3.D.tup (l.map Eo)) (ws.map Wi)],(xI bs nm ks es ss is os ws),(F3 ks es ss&&(mO nm&&CY bs)),(.sh .non:T),((if F3 ks es ss=false then "BadTree" else if mO nm=false then "BadName" else "BadBox"),none))]
abbrev gS:=inClass (top 11) 0
abbrev lC:=BB×BB×V×BB×BB×BB
noncomputable abbrev lE:AT:=["self","boxes","names","tree","ins","outs","ways"]
def mX:lC->BB:=λ(bs,nm,tv,is,os,ws)=>[.lst bs,.lst nm,.val tv,.lst is,.lst os,.lst ws]
def mY:lC->Prop:=λ(bs,nm,tv,is,os,ws)=>D.bP bs=true/\D.bP nm=true/\D.bP is=true/\D.bP os=true/\D.bP ws=true
def mZ:lC->B1:=λ(bs,nm,tv,is,os,ws)=>(mL bs nm (.sh (.val tv)) is os ws:B1)
abbrev iM:=inClass (top 25) 0
abbrev m7:=AT×BN×BN
noncomputable abbrev m8:AT:=["self","kinds","elders","starts"]
noncomputable def n5:m7->BB:=λ(ks,es,ss)=>[.lst (ks.map .str),.lst (es.map .int),.lst (ss.map .int)]
def n6:m7->Prop:=λ(ks,es,ss)=>True
def n8:m7->B1:=λ(ks,es,ss)=>(qg ks es ss:B1)
theorem Jn{c:gP}(h:c.R)(s:c.Sm):c.Ok:=by
 cases c with
 | bx n k=>trivial
 | md w x st=>
  obtain⟨e,_⟩|⟨e,_⟩:=h.2
  .show w∈bu;rw[e];decide +kernel
  .show w∈bu;simp only[d3,eA,fb]at e;obtain e|e:=e<;>rw[e]<;>decide +kernel
 | dd w d=>exact h.1
 | wy v=>
  have s:v.as.length+v.ds.length<=40:=s;refine#[λq a=>?_,Wl,Wl];have:=h.2.1 q a;cases q with
  | i6 w x=>exact this.1
  | num w n k n2 k2=>
   have hw:w∈ju:=this.1;show w∉(["open","shut"]:AT);simp only[ju,d3,eA,fb]at hw;obtain rfl|rfl|rfl|rfl:=hw<;>decide +kernel
theorem Zg{x:Str}(hp:Uz x)(b:rq "" (-1) (fO x)=true):YQ (rV x):=by
 obtain⟨_,c⟩:=F4 (i:=1) b;have d:=hp.ll;have e:=uB x;refine#[λq a=>Jn (c q a) (hp.sm q a),Wl,er (uC _ _ _) Wl,er (uC _ _ _) Wl]
def pA:xF (Str):=#["read",10,1,top 79,["text","forms","moods","kinds","elders","starts","chart"],λx=>([.str x],(x.length<=900000/\Uz x),(rq "" (-1) (fO x)&&(W7 x&&(tP x).lk)),((tP x).t:T),(Er x))]
noncomputable def J4:AT:=["BadRow","NoName","BadTree","BadName","BadBox","BadDeed","BadWay","TooWide","NoStep"]
def pB(c:Str):BB:=J4.map λn=>.bl (decide (n=c))
def mc(x:Str):Bool:=rq "" (-1) (fO x)&&(W7 x&&(tP x).lk)
def SV(x:Str):Int:=if rq "" (-1) (fO x)=false then zb 1 "" (-1) (fO x) else if W7 x=false then LW (rV x) else 0
def kb(x:Str):T:=if mc x=true then .sh .non else .tup [.lst ((pB (Er x).1).map T.sh),.sh (.int (SV x))]
def fP:Sq (Str):=#["_law_refusal",11,1,top 98,["text","error","e","marks","row"],λx=>([.str x],(x.length<=900000/\Uz x),(kb x:T))]
noncomputable def Xl(s:BN):Int:=if 82<(s.length:Int) then 82 else s.length
theorem SW(s:BN):0<=Xl s/\Xl s<=82/\Xl s<=s.length:=by
 unfold Xl;split<;>lia
def Xm(s:BN):Cl:=(List.range (kY 2 (Xl s))).map λ(i:Nat)=>(s.getD (2+(i:Int)*2).toNat 0,dR s (2+(i:Int)*2+1))
theorem J5(s:BN):(Xm s).length=kY 2 (Xl s)/\kY 2 (Xl s)<=40:=by
 have:=SW s;unfold Xm;rw[d4,gx];unfold kY;lia
def SX{s:BN}(h:j<kY 2 (Xl s)):(Xm s).drop j=(s.getD (2+(j:Int)*2).toNat 0,dR s (2+(j:Int)*2+1))::(Xm s).drop (j+1):=by
 have a:j<(Xm s).length:=by rw[(J5 s).1];exact h
 rw[ue a];simp only[Xm,List.getElem_map,List.getElem_range]
structure oe(ns:AT)(ps:Cl)(j:Nat)(R:AT)(due last own:Int):Prop where
 e:R++dB ns last own (ps.drop j)=dB ns (-1) 0 ps
 l:R.length=j
 d:(due=0/\jF (j+1) last own (ps.drop j)=jF 1 (-1) 0 ps)\/(due≠0/\due=jF 1 (-1) 0 ps)
 s:∃pw,St pw last own
 b:last<j
theorem oe.next{ps:Cl}{R:AT}{due c:Int}(g:oZ ns)(I:oe ns ps j R due last own)(h:ps.drop j=(x,c)::ps.drop (j+1)):oe ns ps (j+1) (R++[pe ns last own x c]) (if Dy last own x c=true then due else if due=0 then((j+1:Nat):Int) else due) (F8 last own x c) (SK last own x c):=by
 obtain⟨e,l,d,⟨pw,s⟩,b⟩:=I;rw[h]at e d;refine#[?_,by rw[fv,l];rfl,?_,Gb g s x c,?_]
 .rw[eB];exact e
 .have i:jF (j+1) last own ((x,c)::ps.drop (j+1))=if Dy last own x c=true then jF ((j:Int)+1+1) (F8 last own x c) (SK last own x c) (ps.drop (j+1)) else(j:Int)+1:=rfl
  rw[i]at d;rw[show((j+1:Nat):Int)=(j:Int)+1 from rfl];by_cases k:Dy last own x c=true
  .rw[di k]at d ⊢;exact d
  .rw[cq k]at d ⊢;refine .inr ?_;obtain⟨rfl,d⟩|⟨f,d⟩:=d
   .rw[di rfl];exact#[Wl,d]
   .rw[cq f];exact#[f,d]
 .have:=Zf (last:=last) (own:=own) (a:=x) (c:=c);lia
theorem oe.fin{ps:Cl}{R:AT}{due:Int}(I:oe ns ps j R due last own)(h:j=ps.length):R=dB ns (-1) 0 ps/\due=jF 1 (-1) 0 ps:=by
 obtain⟨e,l,d,_,b⟩:=I;rw[List.drop_eq_nil_of_le Wl]at e d;refine#[by rw[<- e];exact(e6 R).symm,?_];obtain⟨a,d⟩|⟨_,d⟩:=d
 .rw[a,<- d];rfl
 .exact d
theorem DB(h:∀x∈l,x.length<=1200)(b:l.length<=41):JoinOk "\n" l=true:=by
 have a:=QH l h;have e:("\n":Str).length=1:=rfl;have:l.length*(1200+1)<=41*1201:=Nat.mul_le_mul b (ea _);unfold JoinOk;rw[StrLaws.joinTotal,jb,e,Nat.mul_one];refine eu ?_;rw[fA];unfold vi at a;lia
theorem SY(ds:BB):Vh (.lst ds) (.lst [])=decide (ds=[]):=by
 unfold Vh;cases ds with
 | nil=>decide +kernel
 | cons d ds=>
  rw[D.toPy,D.toPy,PyData.eqv,D.pW,D.pW,PyData.eqvAll];exact(eu (λz=>by cases z)).symm
theorem MW{x:Str}(h:Rs x):PyData.strOk x=true:=by
 unfold PyData.strOk;rw[<- Array.all_toList,fR];intro c a;have:=(h c a).2;exact eD Wl
def Zh(x:Str):L3.D:=if mc x=true then .non else .tup [.lst (pB (Er x).1),.int (SV x)]
def DC(x:Str):(kb x).clean=true/\(kb x).d7=Zh x:=by
 unfold kb Zh;split
 .exact#[rfl,rfl]
 .refine#[?_,?_]
  .show((T.lst ((pB (Er x).1).map T.sh)).clean&&true)=true;rw[show(T.lst ((pB (Er x).1).map T.sh)).clean=true from bE (b9 (λ_=>rfl) _)];rfl
  .rw[T.d7,T.dO,T.dO,T.dO,cC];rfl
variable{X:Cx}{CL:BC}
def RI{b:Bx}{δ δ1 δ2:Ap}{e1 e2:Expr}{pos:Pos}{d:L3.D}(a:X.A.units+64<cLine)(h1:bN X CL b e1 δ d δ1)(c:bN X CL b e2 δ1 d δ2)(k:rj 60 d):bw X CL b (.Compare e1 [.Eq] [e2] pos) δ (.sh (.bl true)) δ2:=by
 have:=(Pn (pos:=pos) a h1 c k k).2
 rwa [Pj k]at this
def HU:(J4.map λn=>decide (n=("BadRow":Str)))=(List.range 9).map λk:Nat=>decide ((0:Int)+(k:Int)=0):=by decide +kernel
def Xn(r:Int):rj 60 (.tup [.lst (pB "BadRow"),.int r]):=.tup λd hd=>by
 obtain rfl|hd:=d3.1 hd
 .refine .lst λd hd=>?_;obtain⟨k,_,rfl⟩:=ew.1 hd;exact .bl _ _
 .cases eC.1 hd;exact .int _ _
noncomputable def Xo{b:Bx}{δ δ1:Ap}{e1:Expr}{pos p2:Pos}{a:Nat}(h:bN X CL b e1 δ .non δ1):bw X CL b (.Compare e1 [.Is] [.Constant .none a p2] pos) δ (.sh (.bl true)) δ1:=(P8 h).2
def Xp{x:Str}{d:Int}(h1:rq "" (-1) (fO x)=decide (d=0))(a:d≠0->zb 1 "" (-1) (fO x)=d):if d=0 then Zh x=.non\/∃c:Str,c≠"BadRow" /\ Zh x=.tup [.lst (pB c),.int (SV x)] else Zh x=.tup [.lst (pB "BadRow"),.int d]:=by
 split
 .rename_i z;rw[eD z]at h1;unfold Zh;split
  .exact .inl rfl
  .refine .inr #[(Er x).1,?_,rfl];unfold Er;rw[h1,cq WA];split
   .exact show("NoName":Str)≠"BadRow" by decide +kernel
   split
   .exact show("BadTree":Str)≠"BadRow" by decide +kernel
   split
   .exact show("BadName":Str)≠"BadRow" by decide +kernel
   .exact show("BadBox":Str)≠"BadRow" by decide +kernel
 .rename_i z;rw[eu z]at h1;have o:mc x=false:=by
   unfold mc;rw[h1];rfl
  unfold Zh SV Er;rw[o,h1,di rfl,di rfl,a z];rfl
abbrev DE:=top 99
abbrev S6:=BN
abbrev S7:AT:=["script","names","rows","due","last","own","k","item","form","blanks","row","mixed","text","found"]
noncomputable def nM:S6->BB:=λa=>[.lst (a.map .int)]
def nO:S6->Prop:=λa=>a.length<=63
def nP:S6->T:=λa=>(.sh (.bl true):T)
structure wt(w:World)(K:Frag)(mg:BM)(CL:BC):Prop where
 b7:mg "len" = none
 qM:mg "range" = none
 MU:mg "max" = none
 Zi:mg "str" = none
 iN:mg "enumerate" = none
 Mh:mg "NoName" = some (.ref (CL "NoName"))
 qN:mg "tuple" = none
 Zj:∃u,mg "ROW" = some (.int 0 u)
 iT:∃u,mg "WORD" = some (.int 2 u)
 gB:∃u,mg "CONTENT" = some (.int 3 u)
 fq:qe mg K "KINDS" ["leaf","one","all"]
 jD:∃u,mg "BLANKS" = some (.int 1 u)
 wA:∃u,mg "LONGEST_NAME" = some (.int 12 u)
 Bf:qe mg K "WORDS" ["all","and","box","call","do","far","if","in","leaf","near","on","one","open","out","put","say","shut","then","to"]
 Mi:∃u,mg "LETTERS" = some (.str "abcdefghijklmnopqrstuvwxyz" u)
 lW:∃u,mg "LETTERS_AND_FIGURES" = some (.str "abcdefghijklmnopqrstuvwxyz0123456789" u)
 Mj:mg "BadRow" = some (.ref (CL "BadRow"))
 wB:∃u,mg "MOST_FIGURES" = some (.int 30 u)
 Ml:∃u,mg "FIGURES" = some (.str "0123456789" u)
 DF:mg "int" = none
 jM:GEk w mg K "FOLLOWERS" [("on",["if","do","to"]),("if",["and","do","to"]),("and",["and","do","to"]),("do",["then","to"]),("then",["then","to"]),("to",[])]
 uE:qe mg K "MARKS" ["<","<=","=","!="]
 uF:GDk w mg K "RANKS" (λk=>([("leaf",0),("one",0),("all",0),("in",1),("out",2),("on",3)]:DO).lookup k)
 dZ:Ej K (CL "Tree")
 bW:bS K (CL "Tree") "elders"
 Mm:∃u,mg "DEEPEST" = some (.int 12 u)
 i7:bS K (CL "Tree") "kinds"
 jX:bS K (CL "Tree") "starts"
 MO:mg "set" = none
 bL:Ej K (CL "Chart")
 fX:bS K (CL "Chart") "boxes"
 Xq:∃u,mg "DEEDS" = some (.int 3 u)
 cF:bS K (CL "Chart") "names"
 m9:bS K (CL "Chart") "ins"
 lF:bS K (CL "Chart") "outs"
 lG:bS K (CL "Chart") "ways"
 S8:∃u,mg "TARGET" = some (.int 4 u)
 RF:∃u,mg "MODE" = some (.int 5 u)
 wC:∃u,mg "SOURCE" = some (.int 0 u)
 RE:∃u,mg "SIGN" = some (.int 1 u)
 Bg:qe mg K "MODES" ["new","near","far"]
 Rl:∃u,mg "ASKS" = some (.int 2 u)
 wF:mg "BadTree" = some (.ref (CL "BadTree"))
 Ge:k6 K (CL "BadTree")
 wG:mg "BadName" = some (.ref (CL "BadName"))
 Gf:k6 K (CL "BadName")
 zf:mg "BadBox" = some (.ref (CL "BadBox"))
 Mp:k6 K (CL "BadBox")
 Gg:mg "BadDeed" = some (.ref (CL "BadDeed"))
 Mq:mg "BadWay" = some (.ref (CL "BadWay"))
 lH:bS K (CL "Chart") "tree"
 ng:mg "list" = none
 Bh:mg "MoodError" = some (.ref (CL "MoodError"))
 bC:mg "isinstance" = none
 Gh:mg "TooWide" = some (.ref (CL "TooWide"))
 Mr:mg "NoStep" = some (.ref (CL "NoStep"))
 qO:mg "ValueError" = none
 S9:mg "bool" = none
 MM:mg "min" = none
noncomputable def lv(i:Nat):Nat:=([1,1,2,1,1,1,2,2,3,1,2,1,1,2,3,4,5,5,6,7,8,1,2,3,1,2,3,4,5,1,4,5,6,7,8,1,9,1,1,1,1,2,3,1,1,2,4,2,1,3,2,3,4,3,4,5,6,2,2,10,11]:Cc).getD i 0
def TT(X:Cx)(CL:BC)(i:Nat):Prop:=([lQ X CL nL,lQ X CL jd,lQ X CL jv,lQ X CL kJ,lQ X CL iI,lQ X CL kK,lQ X CL kL,lQ X CL kM,lQ X CL gj,lQ X CL mV,lQ X CL gQ,lQ X CL mW,lQ X CL qI,qo X CL "NoName" "row" 1,lq X CL gk,lq X CL cR,lq X CL cS,lq X CL dg,lq X CL dh,lq X CL dG,lq X CL gq,lQ X CL kN,qo X CL "BadRow" "row" 1,lq X CL iu,lQ X CL fW,lQ X CL iJ,lq X CL fL,lq X CL iy,lq X CL iz,lQ X CL jw,lq X CL iA,lq X CL jx,lq X CL jy,lq X CL eO,lq X CL iB,lQ X CL iK,lq X CL jz,lQ X CL iL,lQ X CL jA,lQ X CL kO,lQ X CL qK,lQ X CL qL,lQ X CL ck,lQ X CL cM,lQ X CL jB,lQ X CL cu,lQ X CL eX,lQ X CL cO,lQ X CL gR,lQ X CL dN,lQ X CL eY,lQ X CL eZ,lQ X CL cP,lQ X CL fM,lQ X CL fN,lQ X CL cY,lq X CL jC,Fm X CL "Chart" 1 7 mX mY mZ,Fm X CL "Tree" 1 4 n5 n6 n8,lq X CL pA,lQ X CL fP]:List Prop).getD i True
structure EX(N G Cs:AT)(n k:Nat)(X:Cx)(CL:BC):Prop extends EL X N G,wt X.w X.K X.mg CL where
 cc:∀(i:Nat) {x:Str} (_:Cs[i]? = some x:=by rfl),IsC X x
 c:∀(i:Nat) (_:Nat.blt i n=true:=by rfl) (_:Nat.ble (lv i) k=true:=by rfl),TT X CL i
 st:X.stack=X.env::X.outer
 fm:X.env.frame=some X.env.locals
abbrev lI{A:Type}(S:Sq A)(n k:Nat)(X:Cx)(CL:BC):Prop:=EX S.N (gN S.st) (cN S.st) n k X CL
structure RR(P:Program)(w:World)(K:Frag)(mg:BM)(base:Heap)(CL:BC)(h:Heap)(n:Nat):Prop where
 xx:K.In h
 gg:h.Ns mainGlobals mg
 ec:wt w K mg CL
 t:∀i,Nat.blt i n=true->∀Y:Cx,dI (lv i) Y.A->TT (Y.re P w K mg base) CL i
variable{P:Program}{w:World}{mg:BM}{base h:Heap}{K:Frag}{n k:Nat}{N ps:AT}{x:Str}{st:Stmt}{f:Addr}{A:Type}
theorem rs(r:RR P w K mg base CL h n)(t:∀Y:Cx,dI (lv n) Y.A->TT (Y.re P w K mg base) CL n):RR P w K mg base CL h (n+1):=#[r.xx,r.gg,r.ec,λi h=>by
 by_cases e:i=n
 .rw[e];exact t
 .exact r.t i (Nat.ble_eq_true_of_le (by have:=eE h;lia))]
def mI(u:CF X)(r:RR X.prog X.w X.K X.mg X.base CL h n)(g:dI k X.A)(O:u7 st N ps:=by exact Fj (P:=[]) Wp)(e:X.env.scope=aC st:=by rfl)(j:X.N=N:=by rfl)(hf:∀x,X.fn x=true:=by exactλ_=>rfl)(f:X.stack=X.env::X.outer:=by rfl)(hm:X.env.frame=some X.env.locals:=by rfl):EX N (gN st) (cN st) n k X CL:=#[cE u (e▸O.c) j hf O.d O.l Sr,r.ec,λi _ h=>uq (e▸O.c) (So _ (fw h)),λi a b=>r.t i a X (g.mono (eE b)),f,hm]
def qC(r:RR P w K mg base CL h n)(S:Sq A)(F:gJ K S.x S.st)(d:∀{X:Cx} {b:Bx},lI S n k X CL->k9 X CL b S)
  (O:u7 S.st S.N (S.N.take S.m):=by exact Fj Wp) (q:vv S.x S.x S.st (S.N.take S.m):=by(repeat intro _);rfl) (e:∀X,G1 X CL S.x (k+1) (S.N.take S.m).length S.f->TT X CL n:=by exactλ_ z=>z) (e2:lv n=k+1:=by rfl):RR P w K mg base CL h (n+1):=
 F.elim λ_ F=>F.elim λ_ F=>rs r λY a=>e _ #[Yx P w mg base CL r.xx r.gg k (zi S.f) (y3 S.f) (y0 S.f) F O.s (λa u p=>d (mI u r a O rfl rfl (λ_=>rfl)) p) q,e2▸a]
def qX(r:RR P w K mg base CL h n)(S:xF A)(F:gJ K S.x S.st)(d:∀{X:Cx} {b:Bx} {W:XK},EX S.N (gN S.st) (cN S.st) n k (X.d0 (XE X W)) CL->kE X W CL b S)
  (O:u7 S.st S.N (S.N.take S.m):=by exact Fj Wp) (q:vv S.x S.x S.st (S.N.take S.m):=by(repeat intro _);rfl) (e:∀X,z6 X CL S.x (k+1) (S.N.take S.m).length S.f->TT X CL n:=by exactλ_ z=>z) (e2:lv n=k+1:=by rfl):RR P w K mg base CL h (n+1):=
 F.elim λ_ F=>F.elim λ_ F=>have T:=NX P w mg base CL r.xx r.gg k (λa=>(S.f a).1) (λa=>(S.f a).2.1) (λa=>(S.f a).2.2.1) (λa=>(S.f a).2.2.2.1) (λa=>(S.f a).2.2.2.2) F O.s (λCX=>λc u p g=>d (mI u r c O rfl rfl (λ_=>rfl)) p g) q
 rs r λY c=>e _ #[#[T.1,e2▸c],#[T.2,e2▸c]]
def Ms{b:Bx}(E:lI nL 0 0 X CL) :
  k9 X CL b nL:=by
 rintro⟨ns,j⟩ h;refine aM (nU (aq (E.ll 1)) (ak (zV E.b7 (aq (E.ll 0)) (E.gg 0)))).1 (λhp=>?_) (λhp=>?_)
 .have e:=by simpa using of_decide_eq_true hp
  apply aI (aG (aF (aq (E.ll 0)) (aq (E.ll 1)) (mG h e)) rfl);show T.sh _=T.sh _;rw[dR,di e]
 .have e:¬ j<ns.length:=by simpa using of_decide_eq_false hp
  refine aj (aI gZ ?_);show T.sh _=T.sh _;rw[dR,cq e]
theorem Mu{b:Bx}(E:lI jd 1 0 X CL) :
  k9 X CL b jd:=by
 rintro⟨m,us⟩ h;dsimp only [jd]at h ⊢;obtain⟨h0,h1,z⟩:=h;have a:Ax.length=36:=by decide +kernel
 refine aA E.g (E.ll 2) bQ ?_;refine aA E.g (E.ll 3) (PR (l:=og) au au Wp (by rw[fA];decide +kernel) Wp aV) ?_;refine iG E.g (E.ll 4) (λj δ=>(∃o k f,δ=[some _,some _,some _,some _,o,k,f])/\∀i,i<j->Wo m us i=false)
  (uU E.qM (ak (eF (ak (aX (d4 ..) E.b7 (aq (E.ll 1)) (E.gg 1))) ai)) Wl (E.gg 0)) #[#[_,_,_,rfl],λi hi=>absurd hi (nR _)] (λj δ ⟨⟨_,_,_,e⟩,_⟩=>by subst e;exact eE rfl) ?turn ?fin
 case turn=>
  rintro j d δ v ⟨⟨o,k,f,rfl⟩,c⟩;obtain⟨rfl,s⟩:=uV v;rw[Int.zero_add];have b1:=fD (m+j) (show(26:Int)≠0 by decide);refine aA E.g (E.ll 5) (aE (zU (aq (E.ll 2)) (ak (bI (ak (eF (aq (E.ll 0)) (aq (E.ll 4)))) ai WA)) (by rw[fA];decide +kernel) (by rw[Qw];exact zZ 0 b1 (by rw[a];lia))) rfl) ?_;refine aA E.g (E.ll 6) (bK (ak (eF (aq (E.ll 0)) (aq (E.ll 4)))) ai #[WA,WA]) ?_;refine Ie E.g (λn δ=>∃(r:Int) (x:Str),δ=[some _,some _,some _,some _,some _,some (.sh (.str x)),some (.sh (.int r))]/\0<=r/\r<36 ^ n/\x.length+n<=21/\Wm n r x=qh (m+j)) 20
   #[_,_,rfl,Wl,Wl,ea _,rfl] ?_
  rintro n δ ⟨r,x,rfl,u,t,w,p⟩;refine#[_,_,(nV (aq (E.ll 6)) ai).1,λhp=>?_,λhp=>?_]
  .have hp:0<r:=ed hp;cases n with
   | zero=>
    lia
   | succ n=>
    have c1:=fD r (show(36:Int)≠0 by decide);refine aA E.g (E.ll 5) (aH (aq (E.ll 5)) (ak (aE (zU (aq (E.ll 2)) (ak (bI (aq (E.ll 6)) ai WA)) (by rw[fA];decide +kernel) (by rw[Qw];exact zZ 0 c1 (by rw[a];lia))) rfl)) (by rw[fA];show x.length+1<=_;lia)) ?_;refine aA E.g (E.ll 6) (bK (aq (E.ll 6)) ai #[WA,WA]) ?_;refine aj #[n,o1 _,r / 36,x++Qx (r % 36),rfl,Int.ediv_nonneg u WA,Int.ediv_lt_of_lt_mul WA (by exact t),?_,?_]
    .rw[str_len];show x.length+1+n<=21;lia
    .rw[<- p,Wm,di hp]
  .have hp:¬ 0<r:=eP hp;rw[Wn n x hp]at p;subst p;refine aM (dY (cH (p8 (aq (E.ll 5)) (aq (E.ll 1)) rfl rfl).1 (λy=>(dJ (p8 (aq (E.ll 5)) (vL (E.ll 3).1) rfl rfl).1)))) (λq=>?_) (λq=>aj (aj #[#[_,_,_,rfl],λi hi=>?_]))
   .refine aI (v_ (E.ll 5).1) ?_;rw[QC s c q]
   .obtain h|rfl:=Nat.lt_succ_iff_lt_or_eq.1 hi
    .exact c i h
    .exact q
 case fin=>
  rintro δ ⟨⟨o,k,f,rfl⟩,c⟩;refine aI bQ ?_;have e:(d8 0 ((us.length:Int)+20).toNat).length=us.length+20:=by
   rw[d8,d4,gx];lia
  rw[e]at c;rw[QD c]
theorem Gi{b:Bx}(E:lI jv 2 1 X CL) :
  k9 X CL b jv:=by
 rintro⟨s,n⟩ h;dsimp only [jv]at h ⊢;have e0:=fD (dR s 1) (show(5:Int)≠0 by decide);have e1:=f6 (dR s 1) (show(0:Int)<5 by decide);have i:=fD (dR s 0) (show(26*36 ^ (10:Int).toNat:Int)≠0 by decide +kernel);have b1:=f6 (dR s 0) (show(0:Int)<26*36 ^ (10:Int).toNat by decide +kernel);have b2:(26*36 ^ (10:Int).toNat:Int)<=100000000000000000:=by decide +kernel
 have st:=CZ s;refine aA E.g (E.ll 2) (bI (ak (c_ ((s,0)) (E.c 0) (E.gg 0) (ah (aq (E.ll 0)) (ah ai ao)) (show(0:Int)<=0 by lia) rfl)) (ak (zR ai (ak (uN ai ai #[WA,WA,WA])) (.inl #[WA,WA]))) Wp) ?_;refine aA E.g (E.ll 3) (aE (aG (aF (ds:=([1,26,936,33696,1213056]:BN).map .int) (bZ (dz (Vz) aV)) (ak (bI (ak (c_ ((s,1)) (E.c 0) (E.gg 0) (ah (aq (E.ll 0)) (ah ai ao)) (show(0:Int)<=1 by lia) rfl)) ai WA)) (mG (bs:=[1,26,936,33696,1213056]) e0 e1)) rfl) (t2:=.sh (.int (vP s))) rfl) ?_;unfold LV;generalize dR s 0 % (26*36 ^ (10:Int).toNat)=c at i b1 ⊢;generalize vP s=sp at st ⊢;refine aA E.g (E.ll 4) (g6 dX (fc _)) ?_;refine iG E.g (E.ll 5) (λj δ=>∃o,δ=[some (.sh (.lst (s.map .int))),some (.sh (.int n)),some (.sh (.int c)),some (.sh (.int sp)),some (.lst (((qj c sp j).map .str).map T.sh)),o])
  (uU E.qM (aq (E.ll 1)) Wl (E.gg 1)) #[_,rfl] (by rintro j δ ⟨_,rfl⟩;exact eE rfl) ?turn ?fin
 case turn=>
  rintro j d δ f ⟨o,rfl⟩;obtain⟨rfl,k⟩:=uV f;rw[Int.zero_add];have a:=qk c sp j;have l:0<=(j:Int)*sp/\(j:Int)*sp<=1000*1213056:=#[Int.mul_nonneg Wl st.1,Int.mul_le_mul Wl st.2 st.1 WA];have en:((qj c sp j).map L3.D.str).map T.sh++[T.sh (.str (nX (c+j*sp) (qj c sp j)))]=((qj c sp (j+1)).map L3.D.str).map T.sh:=by
   rw[qj,fx,fx];rfl
  refine p6 (E.ll 4).1 rfl (aE (c_ ((c+j*sp,qj c sp j)) (E.c 1) (E.gg 2) (ah (ak (eF (aq (E.ll 2)) (ak (zR (aq (E.ll 5)) (aq (E.ll 3)) (.inl #[Wl,Wl]))))) (ah (vL (E.ll 4).1) ao)) (by dsimp only [jd];exact(#[Wl,Wl,Wl])) rfl) (t2:=.sh (.str (nX (c+j*sp) (qj c sp j)))) rfl) rfl (by rw[List.length_map,List.length_map];lia) (aj ?_);rw[en];exact#[_,rfl]
 case fin=>
  rintro δ ⟨o,rfl⟩;have e:(d8 0 (n:Int).toNat).length=n:=by
   rw[d8,d4,gx];lia
  rw[e];exact aI (vM (E.ll 4).1) rfl
def Mv{b:Bx}(E:lI kJ 3 0 X CL) :
  k9 X CL b kJ:=by
 rintro⟨a,last,own⟩ h;dsimp only [kJ]at h ⊢;refine aA E.g (E.ll 3) (bI (aq (E.ll 0)) ai WA) ?_;refine sQ (J:=λδ=>δ=[some (.sh (.int a)),some (.sh (.int last)),some (.sh (.int own)),some (.sh (.int (Dr a)))]) (dY (cH (aU (aq (E.ll 3)) ai).1 (λc=>(dJ (nV (ak (bI (ak (bK (aq (E.ll 0)) ai #[WA,WA])) ai WA)) ai).1)))) (λz=>?_) (λz=>?_) ?_
 .have z:a % 8=7/\0<a / 8 % 4:=by simpa using z
  refine aA E.g (E.ll 3) gZ (aj ?_);rw[show Dr a=5 from di z];rfl
 .have z:¬ (a % 8=7/\0<a / 8 % 4):=by simpa using z
  refine aj ?_;rw[show Dr a=a % 8 from cq z];rfl
 rintro _ rfl;unfold tQ;generalize Dr a=f;refine aM (dY (fB (aU (ak (bI (ak (bK (aq (E.ll 0)) ai #[WA,WA])) ai WA)) ai).1 (λc=>(gb (aU (aq (E.ll 3)) ai).1)))) (λz=>?_) (λz=>aj ?_)
 .have z:a / 8 % 5=0\/f=7:=by simpa using z
  rw[di z];exact aI (v_ (E.ll 3).1) rfl
 have z:¬ (a / 8 % 5=0\/f=7):=by simpa using z
 rw[cq z];refine aM (dY (fB (dY (cH (aU (aq (E.ll 3)) ai).1 (λc=>(dJ (g5 (aq (E.ll 1)) (ak (cI ai))).1)))) (λc=>(gb (dY (cH (nV (aq (E.ll 3)) ai).1 (λe=>(cH (nU (aq (E.ll 3)) ai).1 (λd=>(dJ (aU (aq (E.ll 1)) (ak (cI ai))).1)))))))))) (λz=>?_) (λz=>aj ?_)
 .have z:(f=6/\last ≠ -1)\/(2<f/\f<6/\last=-1):=by simpa using z
  rw[di z];exact aI (bI (ak (bK (aq (E.ll 0)) ai #[WA,WA])) ai WA) rfl
 have z:¬ ((f=6/\last ≠ -1)\/(2<f/\f<6/\last=-1)):=by simpa using z
 rw[cq z];refine aM (dY (cH (nV (aq (E.ll 3)) ai).1 (λc=>(dJ (nU (aq (E.ll 3)) ai).1)))) (λz=>?_) (λz=>aj ?_)
 .have z:2<f/\f<6:=by simpa using z
  rw[di z];exact aI (Vo E.g E.MU (E.gg 0) (ah (aq (E.ll 3)) (ah (ak (eF ai (aq (E.ll 2)))) ao))) rfl
 have z:¬ (2<f/\f<6):=by simpa using z
 rw[cq z];exact aI (v_ (E.ll 3).1) rfl
theorem DG{b:Bx}(E:lI iI 4 0 X CL) :
  k9 X CL b iI:=by
 rintro⟨a,c,f,last⟩ h;dsimp only [iI]at h ⊢;have e:-1<=last:=h;refine aA E.g (E.ll 3) gZ ?_;unfold Sx;refine sQ (J:=λδ=>δ=[some (.sh (.tup [.int a,.int c])),some (.sh (.int f)),some (.sh (.int last)),some (.sh (.int (if f<3/\last ≠ -1 then 1+a / 56 % (last+1) else 0)))]) (dY (cH (nU (aq (E.ll 1)) ai).1 (λd=>(dJ (g5 (aq (E.ll 2)) (ak (cI ai))).1)))) (λz=>?_) (λz=>?_) ?_
 .have z:f<3/\last ≠ -1:=by simpa using z
  refine aA E.g (E.ll 3) (eF ai (ak (bI (ak (bK (av (aq (E.ll 0)) ai rfl) ai #[WA,WA])) (ak (eF (aq (E.ll 2)) ai)) Wl))) (aj ?_);rw[di z];rfl
 .have z:¬ (f<3/\last ≠ -1):=by simpa using z
  refine aj ?_;rw[cq z];rfl
 rintro _ rfl;refine sQ (J:=λδ=>δ=[some (.sh (.tup [.int a,.int c])),some (.sh (.int f)),some (.sh (.int last)),some (.sh (.int (W9 a f last)))]) (dY (cH (nV (aq (E.ll 1)) ai).1 (λd=>(dJ (nU (aq (E.ll 1)) ai).1)))) (λz=>?_) (λz=>?_) ?_
 .have z:2<f/\f<6:=by simpa using z
  refine aA E.g (E.ll 3) (eF (aq (E.ll 2)) ai) (aj ?_);rw[show W9 a f last=last+1 from di z];rfl
 .have z:¬ (2<f/\f<6):=by simpa using z
  refine aj ?_;rw[show W9 a f last=_ from cq z]
 rintro _ rfl;generalize W9 a f last=x;refine sQ (J:=λδ=>δ=[some (.sh (.tup [.int a,.int c])),some (.sh (.int f)),some (.sh (.int last)),some (.sh (.int (kv c x)))]) (aU (ak (bI (av (aq (E.ll 0)) ai rfl) ai WA)) ai).1 (λz=>?_) (λz=>?_) ?_
 .have z:c % 24=1:=ed z;refine aA E.g (E.ll 3) (eF (aq (E.ll 3)) ai) (aj ?_);rw[show kv c x=x+1 from di z];rfl
 .have z:¬ c % 24=1:=eP z;refine aj ?_;rw[show kv c x=x from cq z]
 rintro _ rfl;generalize kv c x=x;refine sQ (J:=λδ=>δ=[some (.sh (.tup [.int a,.int c])),some (.sh (.int f)),some (.sh (.int last)),some (.sh (.int (m3 c x)))]) (dY (cH (aU (ak (bI (av (aq (E.ll 0)) ai rfl) ai WA)) ai).1 (λd=>(dJ (nV (aq (E.ll 3)) ai).1)))) (λz=>?_) (λz=>?_) ?_
 .have z:c % 24=2/\0<x:=by simpa using z
  refine aA E.g (E.ll 3) (kU (aq (E.ll 3)) ai) (aj ?_);rw[show m3 c x=x-1 from di z];rfl
 .have z:¬ (c % 24=2/\0<x):=by simpa using z
  refine aj ?_;rw[show m3 c x=x from cq z]
 rintro _ rfl;exact aI (v_ (E.ll 3).1) rfl
def Mw{b:Bx}(E:lI kK 5 0 X CL) :
  k9 X CL b kK:=by
 rintro⟨c,x⟩ h;dsimp only [kK]at h ⊢;have d:aO x=true:=h;have h1:=qF d;have a:=w7 c 6;refine aA E.g (E.ll 2) (Ig E.Zi (E.gg 0) (ak (eF ai (ak (bI (ak (bK (aq (E.ll 0)) ai #[WA,WA])) (ak (kU (ak (uN ai ai #[WA,WA,WA])) ai)) Wp)))) (QG (oY c 6).2)) ?_;show cg X CL b _ [some (.sh (.int c)),some (.sh (.str x)),some (.sh (.str (sI (zc c 6))))] _;exact aI (aG (aF (bZ (dz (ay (v_ (E.ll 1).1) (ay (v_ (E.ll 2).1) (ay (aH (ak (aH (aq (E.ll 1)) au (cz h1 (show("+":Str).length<=1 by decide) WA))) (aq (E.ll 2)) (cz (la h1 (show("+":Str).length<=1 by decide)) a WA)) (ay (aH (ak (aH (aq (E.ll 1)) au (cz h1 (show("-":Str).length<=1 by decide) WA))) (aq (E.ll 2)) (cz (la h1 (show("-":Str).length<=1 by decide)) a WA)) (ay bQ (ay (aH au (aq (E.ll 2)) (cz (show("-":Str).length<=1 by decide) a WA)) bV)))))) aV)) (ak (bI (aq (E.ll 0)) ai WA)) (tm_at d)) rfl) rfl
def Mx{b:Bx}(E:lI kL 6 1 X CL) :
  k9 X CL b kL:=by
 rintro⟨c,ns⟩ h;dsimp only [kL]at h ⊢;have a:oZ ns:=h;refine aA E.g (E.ll 2) (aG (aF (aq (E.ll 1)) (ak (bI (aq (E.ll 0)) ai WA)) (mU a c)) rfl) ?_;refine aA E.g (E.ll 3) (c_ (c / 18,dF ns (c / 3)) (E.c 5) (E.gg 0) (ah (ak (bK (aq (E.ll 0)) ai #[WA,WA])) (ah (aF (aq (E.ll 1)) (ak (bI (ak (bK (aq (E.ll 0)) ai #[WA,WA])) ai WA)) (mU a (c / 3))) ao)) (bT a _) rfl) ?_;have h1:=qF (bT a c);have d:=wm (rW (bT a (c / 3)) (c / 18));have e:=Oy (ns:=ns) c rfl;show cg X CL b _ [some (.sh (.int c)),some (.sh (.lst (ns.map .str))),some (.sh (.str (dF ns c))),some (.sh (.str (gw (kI (c / 18) (dF ns (c / 3))).1 (kI (c / 18) (dF ns (c / 3))).2)))] _;generalize gw (kI (c / 18) (dF ns (c / 3))).1 (kI (c / 18) (dF ns (c / 3))).2=t at d e ⊢;exact aI (aG (aF (bZ (dz (ay (aH au (aq (E.ll 2)) (cz (show("call ":Str).length<=5 by decide) h1 WA)) (ay (aH (ak (aH (ak (aH au (aq (E.ll 2)) (cz (show("put ":Str).length<=5 by decide) h1 WA))) au (cz (la (show("put ":Str).length<=5 by decide) h1) (show(" ":Str).length<=1 by decide) WA))) (aq (E.ll 3)) (cz (la (la (show("put ":Str).length<=5 by decide) h1) (show(" ":Str).length<=1 by decide)) d WA)) (ay (aH (ak (aH (ak (aH au (aq (E.ll 2)) (cz (show("say ":Str).length<=5 by decide) h1 WA))) au (cz (la (show("say ":Str).length<=5 by decide) h1) (show(" ":Str).length<=1 by decide) WA))) (aq (E.ll 3)) (cz (la (la (show("say ":Str).length<=5 by decide) h1) (show(" ":Str).length<=1 by decide)) d WA)) bV))) aV)) (ak (bI (ak (bK (aq (E.ll 0)) ai #[WA,WA])) ai WA)) e) rfl) rfl
def My{b:Bx}(E:lI kM 7 1 X CL) :
  k9 X CL b kM:=by
 rintro⟨c,ns⟩ h;dsimp only [kM]at h ⊢;have e:oZ ns:=h;refine aA E.g (E.ll 2) (c_ (c / 5,dF ns (c / 2)) (E.c 5) (E.gg 0) (ah (ak (bK (aq (E.ll 0)) ai #[WA,WA])) (ah (aF (aq (E.ll 1)) (ak (bI (ak (bK (aq (E.ll 0)) ai #[WA,WA])) ai WA)) (mU e (c / 2))) ao)) (bT e _) rfl) ?_;refine aA E.g (E.ll 3) (c_ (c / 7,dF ns (c / 3)) (E.c 5) (E.gg 0) (ah (ak (bK (aq (E.ll 0)) ai #[WA,WA])) (ah (aF (aq (E.ll 1)) (ak (bI (ak (bK (aq (E.ll 0)) ai #[WA,WA])) ai WA)) (mU e (c / 3))) ao)) (bT e _) rfl) ?_;have h1:=qF (bT e c);have a:=wm (rW (bT e (c / 2)) (c / 5));have f:=wm (rW (bT e (c / 3)) (c / 7));have k:=Ow (ns:=ns) c rfl rfl;show cg X CL b _ [some (.sh (.int c)),some (.sh (.lst (ns.map .str))),some (.sh (.str (gw (kI (c / 5) (dF ns (c / 2))).1 (kI (c / 5) (dF ns (c / 2))).2))),some (.sh (.str (gw (kI (c / 7) (dF ns (c / 3))).1 (kI (c / 7) (dF ns (c / 3))).2))),none] _;generalize gw (kI (c / 5) (dF ns (c / 2))).1 (kI (c / 5) (dF ns (c / 2))).2=o at a k ⊢;generalize gw (kI (c / 7) (dF ns (c / 3))).1 (kI (c / 7) (dF ns (c / 3))).2=u at f k ⊢;have d:(" if ":Str).length<=20:=by decide
 have j:(" <= ":Str).length<=20:=by decide
 have m:(" and shut ":Str).length<=20:=by decide
 have l4:(" < ":Str).length<=20:=by decide
 have i:(" = 0 and ":Str).length<=20:=by decide
 have l:(" != ":Str).length<=20:=by decide
 refine aA E.g (E.ll 4) (dz (ds:=[.str "",.str (" if open " ++ dF ns c),.str (" if " ++ o++" <= " ++ u++" and shut " ++ dF ns c)]) (ay bQ (ay (aH au (aF (aq (E.ll 1)) (ak (bI (aq (E.ll 0)) ai WA)) (mU e c)) (cz (show(" if open ":Str).length<=20 by decide) h1 WA)) (ay (aH (ak (aH (ak (aH (ak (aH (ak (aH au (aq (E.ll 2)) (cz d a WA))) au (cz (la d a) j WA))) (aq (E.ll 3)) (cz (la (la d a) j) f WA))) au (cz (la (la (la d a) j) f) m WA))) (aF (aq (E.ll 1)) (ak (bI (aq (E.ll 0)) ai WA)) (mU e c)) (cz (la (la (la (la d a) j) f) m) h1 WA)) bV))) aV) ?_;refine aA E.g (E.ll 4) (jH (vL (E.ll 4).1) (bZ (dz (ds:=[.str (" if " ++ o++" < " ++ u),.str (" if " ++ o++" = 0 and " ++ u++" != " ++ o)]) (ay (aH (ak (aH (ak (aH au (aq (E.ll 2)) (cz d a WA))) au (cz (la d a) l4 WA))) (aq (E.ll 3)) (cz (la (la d a) l4) f WA)) (ay (aH (ak (aH (ak (aH (ak (aH (ak (aH au (aq (E.ll 2)) (cz d a WA))) au (cz (la d a) i WA))) (aq (E.ll 3)) (cz (la (la d a) i) f WA))) au (cz (la (la (la d a) i) f) l WA))) (aq (E.ll 2)) (cz (la (la (la (la d a) i) f) l) a WA)) bV)) aV)) rfl rfl aV) ?_;exact aI (aG (aF (vL (E.ll 4).1) (ak (bI (aq (E.ll 0)) ai WA)) k) rfl) rfl
theorem Gj{b:Bx}(E:lI gj 8 2 X CL) :
  k9 X CL b gj:=by
 rintro⟨f,c,ns⟩ h;dsimp only [gj]at h ⊢;obtain⟨⟨f0,q⟩,d⟩:=h;have f0:0<=f:=f0;have q:f<7:=q;have d:oZ ns:=d;have h1:=qF (bT d c);have l:=F7 d c;refine aM (nU (aq (E.ll 0)) ai).1 (λz=>?_) (λz=>aj ?_)
 .have z:f<3:=ed z;refine aI (aE (aH (ak (aH (aF (bZ (dz (ds:=[.str "leaf ",.str "all ",.str "one "]) (ay bQ (ay bQ (ay bQ bV))) aV)) (aq (E.ll 0)) (Dd f0 z)) (aF (aq (E.ll 2)) (ak (bI (aq (E.ll 1)) ai WA)) (mU d c)) (cz (Ba f) h1 WA))) (aF (bZ (dz (ds:=[.str "",.str "",.str (" " ++ dF ns (c / 6))]) (ay bQ (ay bQ (ay (aH au (aF (aq (E.ll 2)) (ak (bI (ak (bK (aq (E.ll 1)) ai #[WA,WA])) ai WA)) (mU d (c / 6))) (cz (show(" ":Str).length<=1 by decide) (qF (bT d _)) WA)) bV))) aV)) (aq (E.ll 0)) (Dd f0 z)) (cz (la (Ba f) h1) (JG d f c) WA)) (t2:=.sh (.str (Str.join " " (wk ns f c).ws))) (congrArg (λy=>T.sh (.str y)) (Y6 d c f0 z))) rfl
 have C:¬ f<3:=eP z;refine aM (nU (aq (E.ll 0)) ai).1 (λz=>?_) (λz=>aj ?_)
 .have z:f<5:=ed z;exact aI (aE (aH (aF (bZ (dz (ds:=[.str "in ",.str "out "]) (ay bQ (ay bQ bV)) aV)) (ak (kU (aq (E.ll 0)) ai)) (Cp (f:=f-3) Wl Wl)) (ak (c_ (c,ns) (E.c 6) (E.gg 0) (ah (aq (E.ll 1)) (ah (aq (E.ll 2)) ao)) d rfl)) (cz (m:=4) (by split<;>decide) l WA)) (t2:=.sh (.str (Str.join " " (wk ns f c).ws))) (congrArg (λy=>T.sh (.str y)) (Y7 c Wl z))) rfl
 have B:¬ f<5:=eP z;refine aM (aU (aq (E.ll 0)) ai).1 (λz=>?_) (λz=>aj ?_)
 .have z:f=6:=ed z;subst z;have e:("box ":Str).length<=4:=by decide
  have i:(" ":Str).length<=1:=by decide
  have a:=fD (c / 6) (show(2:Int)≠0 by decide);have x:=f6 (c / 6) (show(0:Int)<2 by decide);have j:(if c / 6 % 2=0 then("":Str) else "-").length<=1:=by split<;>decide
  exact aI (aE (aH (ak (aH (ak (aH (ak (aH au (aF (aq (E.ll 2)) (ak (bI (aq (E.ll 1)) ai WA)) (mU d c)) (cz e h1 WA))) au (cz (la e h1) i WA))) (aF (bZ (dz (ds:=[.str "",.str "-"]) (ay bQ (ay bQ bV)) aV)) (ak (bI (ak (bK (aq (E.ll 1)) ai #[WA,WA])) ai WA)) (Cp a x)) (cz (la (la e h1) i) j WA))) (ak (Ig E.Zi (E.gg 1) (ak (eF ai (ak (bI (ak (bK (aq (E.ll 1)) ai #[WA,WA])) (ak (kU (ak (uN ai ai #[WA,WA,WA])) ai)) Wp)))) (QG (oY c 12).2))) (cz (la (la (la e h1) i) j) (w7 c 12) WA)) (t2:=.sh (.str (Str.join " " (wk ns 6 c).ws))) (congrArg (λy=>T.sh (.str y)) (Y8 c))) rfl
 have A:¬ f=6:=eP z;have w:f=5:=by lia
 have e:("on ":Str).length<=3:=by decide
 have k:=qF (bT d (c / 3));have o:=JD d (c / 4);have s:=F7 d (c / 5);have n:=qF (bT d (c / 2));have p:=JF d c;have r:=JH d c;have v:=Of (ns:=ns) c;have u:=Y9 d c;have t:=Za (ns:=ns) (f:=f) c w;have i:(" do ":Str).length<=4:=by decide
 have j:(" then ":Str).length<=6:=by decide
 have l4:(" to ":Str).length<=4:=by decide
 refine aA E.g (E.ll 3) (aH (ak (aH au (aF (aq (E.ll 2)) (ak (bI (ak (bK (aq (E.ll 1)) ai #[WA,WA])) ai WA)) (mU d (c / 3))) (cz e k WA))) (ak (c_ (c / 4,ns) (E.c 7) (E.gg 2) (ah (ak (bK (aq (E.ll 1)) ai #[WA,WA])) (ah (aq (E.ll 2)) ao)) d rfl)) (cz (la e k) o WA)) ?_;refine aA E.g (E.ll 4) (dz (ds:=[.str "",.str (" do " ++ Str.join " " (rz ns c).ws)]) (ay bQ (ay (aH au (ak (c_ (c,ns) (E.c 6) (E.gg 0) (ah (aq (E.ll 1)) (ah (aq (E.ll 2)) ao)) d rfl)) (cz i l WA)) bV)) aV) ?_;refine p6 (E.ll 4).1 rfl (aH (ak (aH (aF (vL (E.ll 4).1) ai dD) au (cz (la i l) j WA))) (ak (c_ (c / 5,ns) (E.c 6) (E.gg 0) (ah (ak (bK (aq (E.ll 1)) ai #[WA,WA])) (ah (aq (E.ll 2)) ao)) d rfl)) (cz (la (la i l) j) s WA)) rfl (by exact eE rfl) ?_;refine aA E.g (E.ll 5) (aH au (aF (aq (E.ll 2)) (ak (bI (ak (bK (aq (E.ll 1)) ai #[WA,WA])) ai WA)) (mU d (c / 2))) (cz l4 n WA)) ?_;show cg X CL b _ [some (.sh (.int f)),some (.sh (.int c)),some (.sh (.lst (ns.map .str))),some (.sh (.str ("on " ++ dF ns (c / 3)++l6 ns (c / 4)))),some (.lst (([.str "",.str (" do " ++ Str.join " " (rz ns c).ws),.str (" do " ++ Str.join " " (rz ns c).ws++" then " ++ Str.join " " (rz ns (c / 5)).ws)]:BB).map T.sh)),some (.sh (.str (" to " ++ dF ns (c / 2))))] _;refine aI (aE (aH (ak (aH (aq (E.ll 3)) (aF (vL (E.ll 4).1) (ak (bI (aq (E.ll 1)) ai WA)) v) (cz (la (la e k) o) p WA))) (aF (bZ (dz (ds:=[.str "",.str (" to " ++ dF ns (c / 2)),.str (" to " ++ dF ns (c / 2)++" near"),.str (" to " ++ dF ns (c / 2)++" far")]) (ay bQ (ay (v_ (E.ll 5).1) (ay (aH (aq (E.ll 5)) au (cz (la l4 n) (show(" near":Str).length<=5 by decide) WA)) (ay (aH (aq (E.ll 5)) au (cz (la l4 n) (show(" far":Str).length<=5 by decide) WA)) bV)))) aV)) (ak (bI (ak (bK (aq (E.ll 1)) ai #[WA,WA])) ai WA)) u) (cz (la (la (la e k) o) p) r WA)) (t2:=.sh (.str (Str.join " " (wk ns f c).ws))) (congrArg (λy=>T.sh (.str y)) t)) rfl
theorem Tc{b:Bx}(E:lI mV 9 0 X CL) :
  k9 X CL b mV:=by
 intro c h;dsimp only [mV]at h ⊢;refine aA E.g (E.ll 1) (aE (t2:=.sh (.str ke)) bQ rfl) ?_;refine aA E.g (E.ll 1) (aE (t2:=.sh (.str ro)) (aH (x:=ke) (y:=mB) (aq (E.ll 1)) au (cz (show ke.length<=200 by decide +kernel) (show mB.length<=200 by decide +kernel) WA)) rfl) ?_;refine aA E.g (E.ll 1) (aE (t2:=.sh (.str rk)) (aH (x:=ro) (y:=my) (aq (E.ll 1)) au (cz JL (show my.length<=200 by decide +kernel) WA)) rfl) ?_;refine aA E.g (E.ll 1) (aE (t2:=.sh (.str rh)) (aH (x:=rk) (y:=mx) (aq (E.ll 1)) au (cz JM (show mx.length<=200 by decide +kernel) WA)) rfl) ?_;refine aA E.g (E.ll 1) (aE (t2:=.sh (.str rf)) (aH (x:=rh) (y:=mv) (aq (E.ll 1)) au (cz JN (show mv.length<=200 by decide +kernel) WA)) rfl) ?_;refine aA E.g (E.ll 1) (aE (t2:=.sh (.str rb)) (aH (x:=rf) (y:=mu) (aq (E.ll 1)) au (cz JQ (show mu.length<=200 by decide +kernel) WA)) rfl) ?_;refine aA E.g (E.ll 1) (aE (t2:=.sh (.str q8)) (aH (x:=rb) (y:=mn) (aq (E.ll 1)) au (cz JR (show mn.length<=200 by decide +kernel) WA)) rfl) ?_;refine aA E.g (E.ll 1) (aE (t2:=.sh (.str q7)) (aH (x:=q8) (y:=mi) (aq (E.ll 1)) au (cz JS (show mi.length<=200 by decide +kernel) WA)) rfl) ?_;refine aA E.g (E.ll 1) (aE (t2:=.sh (.str q5)) (aH (x:=q7) (y:=mf) (aq (E.ll 1)) au (cz JT (show mf.length<=200 by decide +kernel) WA)) rfl) ?_;refine aA E.g (E.ll 1) (aE (t2:=.sh (.str q3)) (aH (x:=q5) (y:=me) (aq (E.ll 1)) au (cz JV (show me.length<=200 by decide +kernel) WA)) rfl) ?_;refine aA E.g (E.ll 1) (aE (t2:=.sh (.str Xa)) (aH (x:=q3) (y:=L6) (aq (E.ll 1)) au (cz JW (show L6.length<=200 by decide +kernel) WA)) rfl) ?_;refine aA E.g (E.ll 1) (aE (t2:=.sh (.str Xb)) (aH (x:=Xa) (y:=L7) (aq (E.ll 1)) au (cz Ds (show L7.length<=200 by decide +kernel) WA)) rfl) ?_;refine aA E.g (E.ll 1) (aE (t2:=.sh (.str Xc)) (aH (x:=Xb) (y:=L8) (aq (E.ll 1)) au (cz Dt (show L8.length<=200 by decide +kernel) WA)) rfl) ?_;refine aA E.g (E.ll 1) (aE (t2:=.sh (.str Mf)) (aH (x:=Xc) (y:=Ma) (aq (E.ll 1)) au (cz Du (show Ma.length<=200 by decide +kernel) WA)) rfl) ?_;have i:=Sy;have f:=SD;show cg X CL b _ [some (.sh (.int c)),some (.sh (.str Mf)),none] _;generalize Mf=z at i f ⊢;have e:=Bb;unfold Dv;generalize Mb=l at f e ⊢;refine aA E.g (E.ll 2) (f9 (d:=.lst (l.map .str)) (rL (l:=l) (aq (E.ll 1)) au Wp (by rw[fA];lia) f (by rw[e,fA];decide)) (cC _)) ?_;have a:=fD c (show((l.length:Nat):Int)≠0 by rw[e];decide);have j:=f6 c (show(0:Int)<((l.length:Nat):Int) by rw[e];decide);exact aI (aG (aF (aq (E.ll 2)) (ak (bI (aq (E.ll 0)) (ak (aX (n:=l.length) (d4 ..) E.b7 (aq (E.ll 2)) (E.gg 0))) (by rw[e];decide))) (zY Str.empty a j)) rfl) rfl
theorem Bj{b:Bx}(E:lI gQ 10 1 X CL) :
  k9 X CL b gQ:=by
 rintro⟨c,k⟩ h;dsimp only [gQ]at h ⊢;obtain⟨j,i⟩:=h;have j:c.R:=j;have i:(Str.join " " c.ws).length<=1000:=i;have ep:=SG j;have lw:c.w.length<=53:=by
  obtain⟨x,r,e⟩:=jL (c:=c);exact(sX j c.w (by rw[e];exact d6)).2.1
 have lt:(Str.join " " c.ws.tail).length<=1000:=by
  obtain⟨x,r,e⟩:=jL (c:=c);rw[e]at i ⊢;rw[lA,<- aK,aQ,fv,aK]at i;exact er (by rw[<- aK];exact Nat.le_add_left _ _) i
 unfold UA ow;generalize Str.join " " c.ws=row at i ep ⊢;generalize Str.join " " c.ws.tail=rest at lt ep ⊢;generalize c.w=w at lw ep ⊢;have y:(" ":Str).length<=1:=by decide
 have v:(" x9":Str).length<=3:=by decide
 have o:("  ":Str).length<=2:=by decide
 refine aA E.g (E.ll 2) (CQ (l:=[w," ",rest]) (aq (E.ll 0)) au WA (by rw[fA];lia) ep) ?_;refine aA E.g (E.ll 3) (dz (ds:=[.str (Dv (k / 10)),.str (row++" "),.str (row++" x9"),.str (w++"  " ++ rest),.str ""]) (ay (c_ (k / 10) (E.c 9) (E.gg 0) (ah (ak (bK (aq (E.ll 1)) ai #[WA,WA])) ao) trivial rfl) (ay (aH (aq (E.ll 0)) au (cz i y WA)) (ay (aH (aq (E.ll 0)) au (cz i v WA)) (ay (aH (ak (aH (av (ds:=[.str w,.str " ",.str rest]) (aq (E.ll 2)) ai cK) au (cz lw o WA))) (av (ds:=[.str w,.str " ",.str rest]) (aq (E.ll 2)) ai fV) (cz (la lw o) lt WA)) (ay bQ bV))))) aV) ?_;have lf:lB.length<=31:=by decide +kernel
 refine aA E.g (E.ll 4) (aE (t2:=.sh (.str lB)) (aH au (ak (Ip (n:=((30:Nat):Int)) au ai (Xe WA))) Wp) rfl) ?_;generalize lB=d at lf ⊢;have u:("box x9 ":Str).length<=20:=by decide
 have t:("in put x9 ":Str).length<=20:=by decide
 have m:("on x9 if x9+":Str).length<=20:=by decide
 have s:(" < 0":Str).length<=20:=by decide
 have q:("box x9 -":Str).length<=20:=by decide
 have p:("out put x9 x9-":Str).length<=20:=by decide
 refine aA E.g (E.ll 3) (jH (vL (E.ll 3).1) (bZ (dz (ds:=[.str ("box x9 " ++ d),.str ("in put x9 " ++ d),.str ("on x9 if x9+" ++ d++" < 0")]) (ay (aH au (aq (E.ll 4)) (cz u lf WA)) (ay (aH au (aq (E.ll 4)) (cz t lf WA)) (ay (aH (ak (aH au (aq (E.ll 4)) (cz m lf WA))) au (cz (la m lf) s WA)) bV))) aV)) rfl rfl aV) ?_;refine aA E.g (E.ll 3) (jH (vL (E.ll 3).1) (bZ (dz (ds:=[.str ("box x9 -" ++ d),.str ("out put x9 x9-" ++ d)]) (ay (aH au (aq (E.ll 4)) (cz q lf WA)) (ay (aH au (aq (E.ll 4)) (cz p lf WA)) bV)) aV)) rfl rfl aV) ?_;have a:=fD k (show(10:Int)≠0 by decide);have z:=f6 k (show(0:Int)<10 by decide);exact aI (aG (aF (vL (E.ll 3).1) (ak (bI (aq (E.ll 1)) ai WA)) (zY (f:=L3.D.str) (l:=[Dv (k / 10),row++" ",row++" x9",w++"  " ++ rest,"","box x9 " ++ d,"in put x9 " ++ d,"on x9 if x9+" ++ d++" < 0","box x9 -" ++ d,"out put x9 x9-" ++ d]) Str.empty a z)) rfl) rfl
def Td{b:Bx}(E:lI mW 11 0 X CL) :
  k9 X CL b mW:=by
 rintro⟨f,bl,last,own⟩ h;dsimp only [mW]at h ⊢;unfold JK;refine aM (aU (aq (E.ll 0)) ai).1 (λz=>?_) (λz=>aj ?_)
 .have z:f=7:=ed z;rw[di z];exact aI fu rfl
 have z:¬ f=7:=eP z;rw[cq z];refine aM (aU (aq (E.ll 0)) ai).1 (λz=>?_) (λz=>aj ?_)
 .have z:f=6:=ed z;rw[di z];exact aI (gi (aU (aq (E.ll 1)) ai).2 (λ_=>gf (aU (aq (E.ll 2)) (ak (cI ai))).2)) rfl
 have z:¬ f=6:=eP z;rw[cq z];refine aM (nV (aq (E.ll 0)) ai).1 (λz=>?_) (λz=>aj ?_)
 .have z:2<f:=ed z;rw[di z];exact aI (gi (g5 (aq (E.ll 2)) (ak (cI ai))).2 (λ_=>gi (aU (aq (E.ll 1)) (ak (eF (aq (E.ll 2)) ai))).2 (λ_=>gf (PM (ak (kU (aq (E.ll 0)) ai)) (aq (E.ll 3))).2))) rfl
 have z:¬ 2<f:=eP z;rw[cq z];refine aM (aU (aq (E.ll 2)) (ak (cI ai))).1 (λz=>?_) (λz=>aj ?_)
 .have z:last=-1:=ed z;rw[di z];exact aI (aU (aq (E.ll 1)) ai).2 rfl
 have z:¬ last=-1:=eP z;rw[cq z];exact aI (gi (O5 ai (aq (E.ll 1))).2 (λ_=>gf (O5 (aq (E.ll 1)) (ak (eF (aq (E.ll 2)) ai))).2)) rfl
theorem Te{b:Bx}(E:lI qI 12 0 X CL) :
  k9 X CL b qI:=by
 intro l h;have r:l.length<=1000:=h;apply aA E.g (E.ll 1) Il;refine rJ E.g (p9 E.g.nd E.g.calm (E.ll 2) (E.ll 3)) (λj δ=>∃c a,δ=[some _,some (.iO (AQ (l.take j))),c,a])
  (mH Str.empty E.iN (v_ (E.ll 0).1) (E.gg 0)) #[_,_,rfl]
  (λj δ ⟨_,_,e⟩=>by subst e;intro i hi;simp at hi;obtain rfl|rfl:=hi<;>exact eE rfl) ?turn ?fin
 case turn=>
  rintro j d δ o ⟨c,a,rfl⟩;obtain⟨i,rfl,hi,q,_,_,_⟩:=vh o;have m:=by
   have:=gC.1 q;exact this
  have p:=by
   rw[hU (by have:=(gz.1 hi).1;rwa [gx]at this)]at hi;exact(e5 hi).symm
  subst p;have f:l.take (i+1)=l.take i++[l.getD i Str.empty]:=by
   rw[hZ,eM,gc m];rfl
  have hlen:(l.take i).length=i:=by rw[hJ];lia
  refine#[_,rfl,?_];refine Ac (VW (.inr _) (E.ll 1).1 rfl (aq (E.ll 3)) (v_ (E.ll 2).1) ?_ (by have:=Wz (l.take i);lia)) (aj #[_,_,rfl]);rw[f,Rn,AU];by_cases hm:l.getD i Str.empty∈l.take i
  .rw[di hm,di (by rfl),di hm]
  .rw[cq hm,cq WE,cq hm,sU,cq,hlen];intro z;obtain⟨n,k,f⟩:=List.any_eq_true.1 z;have:=AU (l.take i) (l.getD i Str.empty);rw[cq hm]at this;exact List.find?_eq_none.1 (Option.map_eq_none_iff.1 this) n k f
 case fin=>
  rintro δ ⟨c,a,rfl⟩;have e:l.take ((List.range l.length).map λ(i:Nat)=>L3.D.tup [.int i,L3.D.str (l.getD i Str.empty)]).length=l:=by
   rw[d4,gx,hS]
  rw[e];exact aI (vM (E.ll 1).1) rfl
variable{W:XK}
def DH{b:Bx}(E:EX gk.N (gN gk.st) (cN gk.st) 14 2 (X.d0 (XE X W)) CL) :
  kE X W CL b gk:=by
 rintro⟨l,x,r⟩ h a;dsimp only [gk,Ir]at h a ⊢;refine aM (b5 (aq (E.ll 0)) au).1 (λq=>?_) (λq=>aj ?_)
 .have q:x="":=ed q;refine aI (cI ai) #[?_,?_]
  .rw[pk,eD q];rfl
  .rw[pz,di q]
 have q:¬ x="":=eP q;have hv:=AU l x;have d:pk l x=decide (x∈l):=by rw[pk,eu q];rfl
 rw[d]at a ⊢;refine aM (Vx (.inr x) (by exact E.u) (aq (E.ll 0)) (aq (E.ll 1)) rfl) (λz=>?_) (λz=>aj ?_)
 .have hm:¬ x∈l:=λm=>by
   rw[hv,di m]at z;cases z
  exact cU E.g.calm (E.c 13) (E.gg 0) (ah (aq (E.ll 2)) ao) (a (eu hm))
 have hm:x∈l:=by
  by_cases m:x∈l
  .exact m
  .rw[hv,cq m]at z;cases z
 rw[di hm]at hv;refine aI (aG (Vw (.inr x) (by exact E.u) (aq (E.ll 1)) (aq (E.ll 0)) hv) rfl) #[eD hm,?_];rw[pz,cq q]
def rY{b:Bx}(E:EX cR.N (gN cR.st) (cN cR.st) 15 3 (X.d0 (XE X W)) CL) :
  kE X W CL b cR:=by
 rintro⟨l,n,k,r⟩ h d;dsimp only [cR,Ir]at h d ⊢;cases a:pk l n with
 | true=>exact aI (cW (ds:=[.int (pz l n),.int k]) (ay (c_ (l,n,r) (E.c 14).give (E.gg 0) (ah (av (ds:=[.str n,.int k]) (aq (E.ll 0)) ai cK) (ah (aq (E.ll 1)) (ah (aq (E.ll 2)) ao))) #[trivial,a] rfl) (ay (aG (av (ds:=[.str n,.int k]) (aq (E.ll 0)) ai dD) rfl) bV)) aV) #[rfl,rfl]
 | false=>exact mK (lg (cB (l,n,r) (E.c 14) (E.gg 0) (ah (av (ds:=[.str n,.int k]) (aq (E.ll 0)) ai cK) (ah (aq (E.ll 1)) (ah (aq (E.ll 2)) ao))) #[trivial,a] (d a))) WE
def rZ{b:Bx}(E:EX cS.N (gN cS.st) (cN cS.st) 16 4 (X.d0 (XE X W)) CL) :
  kE X W CL b cS:=by
 rintro⟨l,q,r⟩ h e;dsimp [cS]at h e ⊢;cases q with
 | call n=>
  refine aM (b5 (av (aq (E.ll 0)) ai cK) au).1 (λz=>absurd (ed z) Wp) (λ_=>aj ?_);refine aM (b5 (av (aq (E.ll 0)) ai cK) au).1 (λz=>absurd (ed z) Wp) (λ_=>aj ?_);exact aI (v_ (E.ll 0).1) #[rfl,rfl]
 | put d n k=>
  refine aM (b5 (av (aq (E.ll 0)) ai cK) au).1 (λ_=>?_) (λz=>absurd (eP z) Wp);have f:ia.ok l (.put d n k)=(pk l d&&pk l n):=rfl;rw[f]at e ⊢;cases h1:pk l d with
  | false=>exact mK (bF bQ (lg (cB (l,d,r) (E.c 14) (E.gg 0) (ah (av (aq (E.ll 0)) ai dD) (ah (aq (E.ll 1)) (ah (aq (E.ll 2)) ao))) #[trivial,h1] (e (by rw[h1];rfl))))) WE
  | true=>
   cases a:pk l n with
   | true=>exact aI (cW (ay bQ (ay (c_ (l,d,r) (E.c 14).give (E.gg 0) (ah (av (aq (E.ll 0)) ai dD) (ah (aq (E.ll 1)) (ah (aq (E.ll 2)) ao))) #[trivial,h1] rfl) (ay (c_ (l,n,k,r) (E.c 15).give (E.gg 1) (ah (av (aq (E.ll 0)) ai fV) (ah (aq (E.ll 1)) (ah (aq (E.ll 2)) ao))) #[trivial,a] rfl) bV))) aV) #[rfl,rfl]
   | false=>exact mK (bF bQ (bF (c_ (l,d,r) (E.c 14).give (E.gg 0) (ah (av (aq (E.ll 0)) ai dD) (ah (aq (E.ll 1)) (ah (aq (E.ll 2)) ao))) #[trivial,h1] rfl) (lg (cB (l,n,k,r) (E.c 15) (E.gg 1) (ah (av (aq (E.ll 0)) ai fV) (ah (aq (E.ll 1)) (ah (aq (E.ll 2)) ao))) #[trivial,a] (e (by rw[h1,a];rfl)))))) WE
 | say x n k=>
  refine aM (b5 (av (aq (E.ll 0)) ai cK) au).1 (λz=>absurd (ed z) Wp) (λ_=>aj ?_);refine aM (b5 (av (aq (E.ll 0)) ai cK) au).1 (λ_=>?_) (λz=>absurd (eP z) Wp);cases a:pk l n with
  | true=>exact aI (cW (ay bQ (ay (aG (av (aq (E.ll 0)) ai dD) rfl) (ay (c_ (l,n,k,r) (E.c 15).give (E.gg 1) (ah (av (aq (E.ll 0)) ai fV) (ah (aq (E.ll 1)) (ah (aq (E.ll 2)) ao))) #[trivial,a] rfl) bV))) aV) #[a,rfl]
  | false=>exact mK (bF bQ (bF (aG (av (aq (E.ll 0)) ai dD) rfl) (lg (cB (l,n,k,r) (E.c 15) (E.gg 1) (ah (av (aq (E.ll 0)) ai fV) (ah (aq (E.ll 1)) (ah (aq (E.ll 2)) ao))) #[trivial,a] (e a))))) WE
def tR{b:Bx}(E:EX dg.N (gN dg.st) (cN dg.st) 17 4 (X.d0 (XE X W)) CL) :
  kE X W CL b dg:=by
 rintro⟨bs,ms,q,r⟩ h a;dsimp [dg]at h a ⊢;cases q with
 | i6 w x=>
  have hw:w∈(["open","shut"]:AT):=h;refine aM (gH (av (aq (E.ll 0)) ai cK) (eK rfl)).1 (λ_=>?_) (λz=>absurd hw (eP z));cases d:pk ms x with
  | true=>exact aI (cW (ay (aG (av (aq (E.ll 0)) ai cK) rfl) (ay (c_ (ms,x,r) (E.c 14).give (E.gg 0) (ah (av (aq (E.ll 0)) ai dD) (ah (aq (E.ll 2)) (ah (aq (E.ll 3)) ao))) #[trivial,d] rfl) bV)) aV) #[d,rfl]
  | false=>exact mK (bF (aG (av (aq (E.ll 0)) ai cK) rfl) (lg (cB (ms,x,r) (E.c 14) (E.gg 0) (ah (av (aq (E.ll 0)) ai dD) (ah (aq (E.ll 2)) (ah (aq (E.ll 3)) ao))) #[trivial,d] (a d)))) WE
 | num w n k n2 k2=>
  have hw:=h;refine aM (gH (av (aq (E.ll 0)) ai cK) (eK rfl)).1 (λz=>absurd (ed z) hw) (λ_=>aj ?_);have f:ic.ok bs ms (.num w n k n2 k2)=(pk bs n&&pk bs n2):=rfl;rw[f]at a ⊢;cases h1:pk bs n with
  | false=>exact mK (bF (aG (av (aq (E.ll 0)) ai cK) rfl) (lg (cB (bs,n,k,r) (E.c 15) (E.gg 1) (ah (av (aq (E.ll 0)) ai dD) (ah (aq (E.ll 1)) (ah (aq (E.ll 3)) ao))) #[trivial,h1] (a (by rw[h1];rfl))))) WE
  | true=>
   cases e:pk bs n2 with
   | false=>exact mK (bF (aG (av (aq (E.ll 0)) ai cK) rfl) (bF (c_ (bs,n,k,r) (E.c 15).give (E.gg 1) (ah (av (aq (E.ll 0)) ai dD) (ah (aq (E.ll 1)) (ah (aq (E.ll 3)) ao))) #[trivial,h1] rfl) (lg (cB (bs,n2,k2,r) (E.c 15) (E.gg 1) (ah (av (aq (E.ll 0)) ai fV) (ah (aq (E.ll 1)) (ah (aq (E.ll 3)) ao))) #[trivial,e] (a (by rw[h1,e];rfl)))))) WE
   | true=>exact aI (cW (ay (aG (av (aq (E.ll 0)) ai cK) rfl) (ay (c_ (bs,n,k,r) (E.c 15).give (E.gg 1) (ah (av (aq (E.ll 0)) ai dD) (ah (aq (E.ll 1)) (ah (aq (E.ll 3)) ao))) #[trivial,h1] rfl) (ay (c_ (bs,n2,k2,r) (E.c 15).give (E.gg 1) (ah (av (aq (E.ll 0)) ai fV) (ah (aq (E.ll 1)) (ah (aq (E.ll 3)) ao))) #[trivial,e] rfl) bV))) aV) #[rfl,rfl]
def tS{b:Bx}(E:EX dh.N (gN dh.st) (cN dh.st) 18 5 (X.d0 (XE X W)) CL) :
  kE X W CL b dh:=by
 rintro⟨bs,ms,w,r⟩ h e;dsimp [dh]at h e ⊢;have hw:=h;have m:lu.ok bs ms w=(w.as.all _&&(w.ds.all _&&pk ms _)):=rfl;rw[m]at e ⊢;refine qf (p:=λ_=>true) (ok:=λd=>(inv ic.d d).ok bs ms) (g:=λd=>.sh ((inv ic.d d).n bs ms)) E.g (E.ll 4) E.st E.fm (bM (.cons (E.ll 1).1 (.inl (E.cc 0)) (.cons (E.ll 2).1 (.inl (E.cc 1)) (.cons (E.ll 3).1 (.inl (E.cc 2)) .nil))) Wp) (cQ (EY (v_ (E.ll 0).1) ai dD)) (.inr rfl) (λC s0 s f0 o i d hd _ lt=>?Gk) (hH (cL (by rw[d4];exact hw.al))) (λa1=>?wH) (eE rfl) (jh #[_,rfl])
 case Gk=>
  obtain⟨q,f,rfl⟩:=ew.1 (fw hd);refine#[rfl,λ_=>?_];show uR _ _ _ _ _ (λt=>(inv ic.d q.d).ok bs ms=true/\t=T.sh _) _;rw[AW uy];exact tN (bs,ms,q,r) (NZ.cx (E.c 17)) kD (ah (ak (v_ (Vn.wx (Al 0)))) (ah (ak (v_ (Vn.wx (Am 1)))) (ah (ak (v_ (Vn.wx (Am 2)))) (ah (ak (v_ (Vn.wx (Am 3)))) ao)))) (hw.a q f) (λz=>lt _ _ (e (by rw[FN f z];simp))) (λ_=>AV bs ms q)
 case wH=>
 have a1:=Je uy a1;rw[Jf uy (λq=>T.sh _),a1] at *;refine qf (p:=λ_=>true) (ok:=λd=>(inv ia.d d).ok bs) (g:=λd=>.sh ((inv ia.d d).n bs)) E.g (E.ll 5) E.st E.fm (bM (.cons (E.ll 1).1 (.inl (E.cc 0)) (.cons (E.ll 3).1 (.inl (E.cc 2)) .nil)) Wp) (cQ (EY (v_ (E.ll 0).1) ai fV)) (.inr rfl) (λC s0 s f0 o i d hd _ lt=>?Gm) (hH (cL (by rw[d4];exact hw.dl))) (λa2=>?wI) (eE rfl) (jh #[_,rfl])
 case Gm=>
  obtain⟨q,f,rfl⟩:=ew.1 (fw hd);refine#[rfl,λ_=>?_];show uR _ _ _ _ _ (λt=>(inv ia.d q.d).ok bs=true/\t=T.sh _) _;rw[AW qu];exact tN (bs,q,r) (NZ.cx (E.c 16)) kD (ah (ak (v_ (Vn.wx (Al 0)))) (ah (ak (v_ (Vn.wx (Am 1)))) (ah (ak (v_ (Vn.wx (Am 2)))) ao))) trivial (λz=>lt _ _ (e (by rw[FN f z];simp))) (λ_=>qq bs q)
 case wI=>
 have a2:=Je qu a2;rw[Jf qu (λq=>T.sh _),a2] at *;have l:D.bP (w.as.map _)=true:=b9 (AV bs ms) _;have k:D.bP (w.ds.map _)=true:=b9 (qq bs) _;have e1:w.as.map (λq=>T.sh (ic.n bs ms q))=(w.as.map (ic.n bs ms)).map T.sh:=by rw[eI];rfl
 have e2:w.ds.map (λq=>T.sh (ia.n bs q))=(w.ds.map (ia.n bs)).map T.sh:=by rw[eI];rfl
 rw[e1,e2];cases j:pk ms _ with
 | true=>exact aI (cW (ay (aG (av (aq (E.ll 0)) ai cK) rfl) (ay (ku E.qN (vL (E.ll 4).1) l (E.gg 0)) (ay (ku E.qN (vL (E.ll 5).1) k (E.gg 0)) (ay (c_ (ms,w.tg,r) (E.c 14).give (E.gg 1) (ah (av (aq (E.ll 0)) ai vt) (ah (aq (E.ll 2)) (ah (aq (E.ll 3)) ao))) #[trivial,j] rfl) (ay (aG (av (aq (E.ll 0)) ai (fY rfl)) rfl) bV))))) aV) #[rfl,rfl]
 | false=>exact mK (bF (aG (av (aq (E.ll 0)) ai cK) rfl) (bF (ku E.qN (vL (E.ll 4).1) l (E.gg 0)) (bF (ku E.qN (vL (E.ll 5).1) k (E.gg 0)) (lg (cB (ms,w.tg,r) (E.c 14) (E.gg 1) (ah (av (aq (E.ll 0)) ai vt) (ah (aq (E.ll 2)) (ah (aq (E.ll 3)) ao))) #[trivial,j] (e (by rw[j];simp))))))) WE
def r6{b:Bx}(E:EX dG.N (gN dG.st) (cN dG.st) 19 6 (X.d0 (XE X W)) CL) :
  kE X W CL b dG:=by
 rintro⟨bs,ms,q⟩ h e;obtain⟨r,bl,c⟩:=q;have e:=e;refine aA E.g (E.ll 3) (aG (av (aq (E.ll 0)) (ak (aL E.Zj (E.gg 0))) cK) rfl) ?_;refine aA E.g (E.ll 4) (aG (av (aq (E.ll 0)) (ak (aL E.iT (E.gg 1))) fV) rfl) ?_;refine aA E.g (E.ll 5) (EY (v_ (E.ll 0).1) (ak (aL E.gB (E.gg 2))) vt) ?_;cases c with
 | bx n k=>
  refine aM (kB (aq (E.ll 4)) (ak (cT E.fq (E.gg 3))) rfl).1 (λz=>absurd (show("box":Str)∈bu from ed z) Wp) (λ_=>?_);refine aM (gH (aq (E.ll 4)) (eK rfl)).1 (λz=>absurd (show("box":Str)∈(["in","out"]:AT) from ed z) Wp) (λ_=>?_);refine aM (b5 (aq (E.ll 4)) au).1 (λz=>absurd (show("box":Str)="on" from ed z) Wp) (λ_=>aj (aj (aj ?_)));exact aI (cW (ay (v_ (E.ll 3).1) (ay (aG (av (aq (E.ll 0)) (ak (aL E.jD (E.gg 7))) dD) rfl) (ay (v_ (E.ll 4).1) (ay (v_ (E.ll 5).1) bV)))) aV) #[rfl,rfl]
 | md w x st=>
  refine aM (kB (aq (E.ll 4)) (ak (cT E.fq (E.gg 3))) rfl).1 (λ_=>?_) (λz=>absurd (show w∈bu from h) (eP z));cases a:pk ms st with
  | true=>
   refine aA E.g (E.ll 5) (cW (ay (aG (av (aq (E.ll 5)) ai cK) rfl) (ay (c_ (ms,st,r) (E.c 14).give (E.gg 4) (ah (av (aq (E.ll 5)) ai dD) (ah (aq (E.ll 2)) (ah (aq (E.ll 3)) ao))) #[trivial,a] rfl) bV)) aV) (aj ?_);exact aI (cW (ay (v_ (E.ll 3).1) (ay (aG (av (aq (E.ll 0)) (ak (aL E.jD (E.gg 7))) dD) rfl) (ay (v_ (E.ll 4).1) (ay (v_ (E.ll 5).1) bV)))) aV) #[a,rfl]
  | false=>exact vA E.g (E.ll 5) (uQ (bF (aG (av (aq (E.ll 5)) ai cK) rfl) (lg (cB (ms,st,r) (E.c 14) (E.gg 4) (ah (av (aq (E.ll 5)) ai dD) (ah (aq (E.ll 2)) (ah (aq (E.ll 3)) ao))) #[trivial,a] (e a)))) aV) (Qu #[T.bad,WE,jW])
 | dd w d=>
  have hw:w∈(["in","out"]:AT):=h;have f:w∉bu:=by
   simp only[d3,eA,fb]at hw;obtain rfl|rfl:=hw<;>decide +kernel
  refine aM (kB (aq (E.ll 4)) (ak (cT E.fq (E.gg 3))) rfl).1 (λz=>absurd (ed z) f) (λ_=>?_);refine aM (gH (aq (E.ll 4)) (eK rfl)).1 (λ_=>?_) (λz=>absurd hw (eP z));cases a:d.ok bs with
  | true=>
   refine aA E.g (E.ll 5) (c_ (bs,d,r) (E.c 16).give (E.gg 5) (ah (aq (E.ll 5)) (ah (aq (E.ll 1)) (ah (aq (E.ll 3)) ao))) #[trivial,a] (qq bs d)) (aj (aj ?_));exact aI (cW (ay (v_ (E.ll 3).1) (ay (aG (av (aq (E.ll 0)) (ak (aL E.jD (E.gg 7))) dD) rfl) (ay (v_ (E.ll 4).1) (ay (v_ (E.ll 5).1) bV)))) aV) #[a,rfl]
  | false=>exact vA E.g (E.ll 5) (cB (δ2:=[]) (bs,d,r) (E.c 16) (E.gg 5) (ah (aq (E.ll 5)) (ah (aq (E.ll 1)) (ah (aq (E.ll 3)) ao))) #[trivial,a] (e a)) jW
 | wy w=>
  have hw:w.Ok:=h;refine aM (kB (aq (E.ll 4)) (ak (cT E.fq (E.gg 3))) rfl).1 (λz=>absurd (show("on":Str)∈bu from ed z) Wp) (λ_=>?_);refine aM (gH (aq (E.ll 4)) (eK rfl)).1 (λz=>absurd (show("on":Str)∈(["in","out"]:AT) from ed z) Wp) (λ_=>?_);refine aM (b5 (aq (E.ll 4)) au).1 (λ_=>?_) (λz=>absurd (show("on":Str)="on" from rfl) (eP z));cases a:w.ok bs ms with
  | true=>
   refine aA E.g (E.ll 5) (c_ (bs,ms,w,r) (E.c 18).give (E.gg 6) (ah (aq (E.ll 5)) (ah (aq (E.ll 1)) (ah (aq (E.ll 2)) (ah (aq (E.ll 3)) ao)))) #[hw,a] (Jd bs ms w)) (aj (aj (aj ?_)));exact aI (cW (ay (v_ (E.ll 3).1) (ay (aG (av (aq (E.ll 0)) (ak (aL E.jD (E.gg 7))) dD) rfl) (ay (v_ (E.ll 4).1) (ay (v_ (E.ll 5).1) bV)))) aV) #[a,rfl]
  | false=>exact vA E.g (E.ll 5) (cB (δ2:=[]) (bs,ms,w,r) (E.c 18) (E.gg 6) (ah (aq (E.ll 5)) (ah (aq (E.ll 1)) (ah (aq (E.ll 2)) (ah (aq (E.ll 3)) ao)))) #[hw,a] (e a)) jW
def DI{b:Bx}(E:EX gq.N (gN gq.st) (cN gq.st) 20 7 (X.d0 (XE X W)) CL) :
  kE X W CL b gq:=by
 intro fs h f;dsimp [gq]at h f ⊢;have bO:=h.ok;have hlen:(fs.map dQ.d).length<=sizeLine:=by
  rw[d4];exact er h.l WA
 refine aA E.g (E.ll 1) (f9 (c_ _ (E.c 12) (E.gg 0) (ah (bZ (aE (iZ (p:=λd=>decide ((b8 d 2).toS="box")) (g:=λd=>.sh (b8 (b8 d 3) 0)) (bM .nil Wp) E.g.calm (cQ (v_ (E.ll 0).1)) (.inr rfl) (λC s0 j f0 e d hd=>?Gk) hlen) ?eq1)) ao) h.bl (yT _)) rfl) ?wH
 case Gk=>
  obtain⟨q,a,rfl⟩:=ew.1 hd;refine#[(b5 (av (jm 0) (ak (aL (E.iT) kD)) fV) au).1,λz=>?_];have z:q.c.Uq=true:=(WD (bO q a))▸z;obtain⟨r,bl,c⟩:=q;cases c with
  | bx n k=>exact aG (av (av (jm 0) (ak (aL (E.gB) kD)) vt) ai cK) rfl
  | md w x st=>cases z
  | dd w d=>cases z
  | wy w=>cases z
 case eq1=>
  rw[Ro (g':=λq=>T.sh _) (λq a=>WD (bO q a)) λq a z=>?_]
  .unfold Ep;rw[eI,eI];rfl
  .obtain⟨r,bl,c⟩:=q;cases c with
   | bx n k=>rfl
   | md w x st=>cases z
   | dd w d=>cases z
   | wy w=>cases z
 case wH=>
 refine aA E.g (E.ll 2) (f9 (c_ _ (E.c 12) (E.gg 0) (ah (bZ (aE (iZ (p:=λd=>decide ((b8 d 2).toS∈bu)) (g:=λd=>.sh (b8 (b8 d 3) 0)) (bM .nil Wp) E.g.calm (cQ (v_ (E.ll 0).1)) (.inr rfl) (λC s0 j f0 e d hd=>?Gm) hlen) ?eq2)) ao) h.ml (yT _)) rfl) ?wI
 case Gm=>
  obtain⟨q,a,rfl⟩:=ew.1 hd;refine#[(kB (av (jm 0) (ak (aL (E.iT) kD)) fV) (ak (cT (E.fq) kD)) rfl).1,λz=>?_];have z:q.c.Uu=true:=(WG (bO q a))▸z;obtain⟨r,bl,c⟩:=q;cases c with
  | md w x st=>exact aG (av (av (jm 0) (ak (aL (E.gB) kD)) vt) ai cK) rfl
  | bx n k=>cases z
  | dd w d=>cases z
  | wy w=>cases z
 case eq2=>
  rw[Ro (g':=λq=>T.sh _) (λq a=>WG (bO q a)) λq a z=>?_]
  .unfold C9;rw[eI,eI];rfl
  .obtain⟨r,bl,c⟩:=q;cases c with
   | md w x st=>rfl
   | bx n k=>cases z
   | dd w d=>cases z
   | wy w=>cases z
 case wI=>
 refine Qv (vC (p:=λ_=>true) (ok:=λd=>Uv fs (FP fs d)) (g:=λd=>.sh ((FP fs d).n (Ep fs) (C9 fs))) E.st E.fm (bM (.cons (E.ll 1).1 (.inl (E.cc 0)) (.cons (E.ll 2).1 (.inl (E.cc 1)) .nil)) Wp) E.g.calm (cQ (v_ (E.ll 0).1)) (.inr rfl) (λC s0 j f0 e i d hd lt ll=>?aco) hlen) (λt z=>?eq3)
 case aco=>
  obtain⟨q,a,rfl⟩:=ew.1 (fw hd);refine#[rfl,λ_=>?_];show uR _ _ _ _ _ (λt=>Uv fs _=true/\t=T.sh _) _;rw[uz bO a];exact tN (Ep fs,C9 fs,q) (NZ.cx (E.c 19)) kD (ah (ak (v_ (Vn.wx (Al 0)))) (ah (ak (v_ (Vn.wx (Am 1)))) (ah (ak (v_ (Vn.wx (Am 2)))) ao))) (bO q a) (λz=>show dS e W _ (some _) from LX bO hd (bO q a) lt z▸(ll _ _ (f (FN a z)))) (λ_=>WL _ _ q)
 case eq3=>
  obtain⟨z,rfl⟩:=z;exact#[KW bO z,by rw[WK bO]]
theorem Mz{b:Bx}(E:lI kN 21 0 X CL) :
  k9 X CL b kN:=by
 intro x h;dsimp only [kN]at h ⊢;have k:x.length<=sizeLine:=h;refine aM (dY (fB (b5 (aq (E.ll 0)) au).1 (λu=>(fB (nV (ak (uh E.b7 (aq (E.ll 0)) (k) (E.gg 0))) (ak (aL E.wA (E.gg 1)))).1 (λq=>(gb (Ih (aq (E.ll 0)) (ak (cT E.Bf (E.gg 2))) (rfl) rfl).1)))))) (λhp=>?_) (λhp=>aj ?_)
 .refine aI fu ?_;have hp:(decide (x="") || (decide ((12:Int)<(x.length:Nat)) || decide (x∈Ay)))=true:=hp;show T.sh _=T.sh (.bl (aO x));refine congrArg (λz=>T.sh (.bl z)) ?_;simp only[lr,fo]at hp;unfold aO;obtain z|z|z:=hp
  .subst z;decide +kernel
  .rw[eu (p:=x.length<=12) Wl,h9,gm]
  .rw[eD z,Bool.not_true,h9,gm,gm]
 have hp:(decide (x="") || (decide ((12:Int)<(x.length:Nat)) || decide (x∈Ay)))=false:=hp;simp only[Bool.or_eq_false_iff,pd]at hp;obtain⟨h1,v,s⟩:=hp;have t:1<=x.length:=by
  obtain z|z:=Nat.eq_zero_or_pos x.length
  .exact absurd (Az z) h1
  .exact z
 have m:x.cps.toList.length=x.length:=by simp[Str.length]
 have i:aO x=(isLt (x.cps.toList.getD 0 0)&&x.cps.toList.all (λc=>isLt c || gV c)):=by
  unfold aO;rw[eD t,eD (show x.length<=12 by lia),eu s];rfl
 refine aM (mJ (ak (zU (aq (E.ll 0)) ai k (zZ 0 Wl Wl))) (ak (vj E.Mi (E.gg 3))) rfl).1 (λhp=>?_) (λhp=>aj ?_)
 .refine aI fu ?_;rw[vN]at hp;have hp:(!isLt (x.cps.toList.getD 0 0))=true:=hp;rw[jb]at hp;show T.sh _=T.sh (.bl (aO x));rw[i,hp];rfl
 rw[vN]at hp;have hp:(!isLt (x.cps.toList.getD 0 0))=false:=hp;rw[Bool.not_eq_false']at hp;refine iG E.g (E.ll 1) (λj δ=>(∃o,δ=[some (.sh (.str x)),o])/\(x.cps.toList.take j).all (λc=>isLt c || gV c)=true)
  (PL (v_ (E.ll 0).1)) #[#[_,rfl],rfl] (λj δ ⟨⟨_,e⟩,_⟩=>by subst e;exact eE rfl) ?turn ?fin
 case turn=>
  rintro j d δ n ⟨⟨o,rfl⟩,f⟩;obtain⟨c,rfl,l⟩:=vO n;refine aM (mJ (aq (E.ll 1)) (ak (vj E.lW (E.gg 4))) rfl).1 (λa=>?_) (λa=>aj (aj #[#[_,rfl],?_]))
  .refine aI fu ?_;rw[IG]at a;have a:(isLt c || gV c)=false:=by simpa using a
   show T.sh _=T.sh (.bl (aO x));have r:x.cps.toList.all (λc=>isLt c || gV c)=false:=by
    rw[tI];exact#[c,fw l,by rw[a];decide]
   rw[i,r,gm]
  .rw[IG]at a;have a:(!(isLt c || gV c))=false:=a;rw[Bool.not_eq_false']at a;rw[hZ,l,List.all_append,f];show(true&&([c].all λc=>isLt c || gV c))=true;rw[jO,a];rfl
 case fin=>
  rintro δ ⟨⟨o,rfl⟩,f⟩;refine aI fu ?_;rw[show(fU x).length=x.cps.toList.length by simp[fU],hS]at f;show T.sh _=T.sh (.bl (aO x));rw[i,hp,f];rfl
def Gn{b:Bx}(E:EX iu.N (gN iu.st) (cN iu.st) 23 2 (X.d0 (XE X W)) CL) :
  kE X W CL b iu:=by
 rintro⟨x,r⟩ h a;dsimp only [iu,Ir]at h a ⊢;refine aM (cj (cA (c_ x (E.c 21) (E.gg 0) (ah (aq (E.ll 0)) ao) h rfl))) (λz=>?_) (λz=>aj (aI (v_ (E.ll 0).1) #[nf z,rfl]));exact cU E.g.calm (E.c 22) (E.gg 1) (ah (aq (E.ll 1)) ao) (a (nt z))
theorem x6{b:Bx}(E:lI fW 24 0 X CL) :
  k9 X CL b fW:=by
 intro x h;dsimp only [fW]at h ⊢;have k:x.length<=sizeLine:=h;have q:=aK x;refine aM (dY (fB (b5 (aq (E.ll 0)) au).1 (λn=>fB (nV (ak (uh E.b7 (aq (E.ll 0)) (k) (E.gg 0))) (ak (aL E.wB (E.gg 1)))).1 (λ_=>gb (b5 (ak (zU (aq (E.ll 0)) ai k (zZ 0 Wl ?ix))) au).1)))) (λhp=>?_) (λhp=>aj ?_)
 case ix=>
  obtain z|z:=Nat.eq_zero_or_pos x.length
  .exact absurd (Az z) (eP n)
  .lia
 .refine aI fu ?_;have hp:(decide (x="") || (decide ((30:Int)<(x.length:Nat)) || decide ((#[(List.toArray [x.cps.toList.getD 0 0])]:Str)="0")))=true:=hp;show T.sh _=T.sh (.bl (gM x));refine congrArg (λz=>T.sh (.bl z)) ?_;simp only[lr,fo]at hp;unfold gM;obtain z|z|z:=hp
  .subst z;decide +kernel
  .rw[eu (p:=x.length<=30) Wl,h9,gm]
  .have e:x.cps.toList.getD 0 0=48:=by
    rw[show("0":Str)=#[(List.toArray [48])] by decide +kernel]at z;have:=congrArg (λs:Str=>s.cps.toList) z;exact(hR this).1
   rw[eD e,Bool.not_true,h9,gm,gm]
 have hp:(decide (x="") || (decide ((30:Int)<(x.length:Nat)) || decide ((#[(List.toArray [x.cps.toList.getD 0 0])]:Str)="0")))=false:=hp;simp only[Bool.or_eq_false_iff,pd]at hp;obtain⟨h1,v,i⟩:=hp;have u:1<=x.length:=by
  obtain z|z:=Nat.eq_zero_or_pos x.length
  .exact absurd (Az z) h1
  .exact z
 have i:¬ x.cps.toList.getD 0 0=48:=λz=>i (by rw[z];decide +kernel);have m:gM x=x.cps.toList.all gV:=by
  unfold gM;rw[eD u,eD (show x.length<=30 by lia),eu i];rfl
 refine iG E.g (E.ll 1) (λj δ=>(∃o,δ=[some (.sh (.str x)),o])/\(x.cps.toList.take j).all gV=true)
  (PL (v_ (E.ll 0).1)) #[#[_,rfl],rfl] (λj δ ⟨⟨_,e⟩,_⟩=>by subst e;exact eE rfl) ?turn ?fin
 case turn=>
  rintro j d δ r ⟨⟨o,rfl⟩,f⟩;obtain⟨c,rfl,l⟩:=vO r;refine aM (mJ (aq (E.ll 1)) (ak (vj E.Ml (E.gg 2))) rfl).1 (λa=>?_) (λa=>aj (aj #[#[_,rfl],?_]))
  .refine aI fu ?_;rw[IL]at a;have a:gV c=false:=by simpa using a
   show T.sh _=T.sh (.bl (gM x));have t:x.cps.toList.all gV=false:=by
    rw[tI];exact#[c,fw l,by rw[a];decide]
   rw[m,t]
  .rw[IL]at a;have a:(!gV c)=false:=a;rw[Bool.not_eq_false']at a;rw[hZ,l,List.all_append,f];show(true&&[c].all gV)=true;rw[jO,a];rfl
 case fin=>
  rintro δ ⟨⟨o,rfl⟩,f⟩;refine aI fu ?_;rw[show(fU x).length=x.cps.toList.length by simp[fU],hS]at f;show T.sh _=T.sh (.bl (gM x));rw[m,f]
theorem DJ{b:Bx}(E:lI iJ 25 1 X CL) :
  k9 X CL b iJ:=by
 intro x h;dsimp only [iJ]at h ⊢;have h:x.length<=sizeLine:=h;have e:(jr x).length<=sizeLine:=by
  unfold jr;split
  .rw[<- aK];show(x.cps.toList.drop 1).length<=sizeLine;rw[oT,aK];lia
  .exact h
 refine aA E.g (E.ll 1) (zS (t:=.sh (.str (jr x))) (cA (Ls (aq (E.ll 0)) au)) (λz=>aE (K5 (aq (E.ll 0)) h (pY ai) pX) ?e1) (λz=>aE (v_ (E.ll 0).1) ?e2)) ?rest
 case e1=>
  rw[qJ]at z;have a:=ed z;cases d:x.cps.toList with
  | nil=>rw[d]at a;cases a
  | cons c l=>rw[Mg d,jr,di a]
 case e2=>
  rw[qJ]at z;rw[jr,cq (eP z)]
 case rest=>
 exact aI (HV (b5 (aq (E.ll 0)) au).2 (λ_=>gf (aE (c_ (jr x) (E.c 24) (E.gg 0) (ah (aq (E.ll 1)) ao) e rfl) (t2:=.sh (.bl (gM (jr x)))) rfl))) rfl
def Bk{b:Bx}(E:EX fL.N (gN fL.st) (cN fL.st) 26 2 (X.d0 (XE X W)) CL) :
  kE X W CL b fL:=by
 rintro⟨x,r⟩ h a;dsimp only [fL,Ir]at h a ⊢;refine aM (cj (cA (c_ x (E.c 25) (E.gg 0) (ah (aq (E.ll 0)) ao) h rfl))) (λz=>?_) (λz=>aj ?_)
 .exact cU E.g.calm (E.c 22) (E.gg 1) (ah (aq (E.ll 1)) ao) (a (nt z))
 have z:=nf z;obtain⟨e,d⟩:=Jk z;exact aI (Ak E.DF (aq (E.ll 0)) e d (E.gg 2)) #[z,rfl]
theorem Gp{b:Bx}(E:EX iy.N (gN iy.st) (cN iy.st) 27 3 (X.d0 (XE X W)) CL) :
  kE X W CL b iy:=by
 rintro⟨x,r⟩ h d;dsimp only [iy,Ir]at h d ⊢;have k:x.length<=sizeLine:=h;cases f:iW x with
 | true=>
  have e:xX x=some (("":Str),intOf x):=di f;obtain⟨j,i⟩:=Jk f;refine aM (cA (aE (c_ x (E.c 25) (E.gg 0) (ah (aq (E.ll 0)) ao) k rfl) (t2:=.sh (.bl true)) (congrArg (λz=>T.sh (.bl z)) f))) (λ_=>?_) (λz=>absurd z WA);exact aI (cW (ds:=[.str "",.int (intOf x)]) (bF bQ (bF (Ak E.DF (aq (E.ll 0)) j i (E.gg 1)) dX)) aV) #[by rw[e];rfl,by unfold Rw;rw[e];rfl]
 | false=>
 refine aM (cA (aE (c_ x (E.c 25) (E.gg 0) (ah (aq (E.ll 0)) ao) k rfl) (t2:=.sh (.bl false)) (congrArg (λz=>T.sh (.bl z)) f))) (λz=>absurd z WA) (λ_=>aj ?_);refine aA E.g (E.ll 2) (zS (t:=.sh (.str (xH x))) (PK au (aq (E.ll 0)) rfl).1 (λq=>aE bQ (congrArg (λz=>T.sh (.str z)) (di q).symm)) (λq=>aE bQ (congrArg (λz=>T.sh (.str z)) (cq (by rw[q];decide)).symm))) ?_;obtain⟨a,m,c,ep,la,lc⟩:=FY x (xH x);have e:xX x=if aO a=true then(if m="" then some (a,0) else if gM c=true then some (a,if xH x="+" then intOf c else -intOf c) else none) else none:=by
  unfold xX;rw[cq (by rw[f];decide),ep];rfl
 refine aA E.g (E.ll 3) (CQ (l:=[a,m,c]) (aq (E.ll 0)) (aq (E.ll 2)) (Tx x) k ep) ?_;unfold Rw;rw[e]at d ⊢;refine Fi E.g (E.ll 4) (tN (a,r) (E.c 23) (E.gg 2) (ah (av (aq (E.ll 3)) ai cK) (ah (aq (E.ll 1)) ao)) (show a.length<=sizeLine by lia) (λz=>d (by rw[cq (by rw[show aO a=false from z];decide)];rfl)) (λ_=>rfl)) ?_;rintro _ ⟨na,rfl⟩;have na:aO a=true:=na;rw[di na]at d ⊢;refine aM (b5 (av (aq (E.ll 3)) ai dD) au).1 (λq=>?_) (λq=>aj ?_)
 .rw[di (ed q)];exact aI (cW (ds:=[.str a,.int 0]) (bF (v_ (E.ll 4).1) (bF gZ dX)) aV) #[rfl,rfl]
 rw[cq (eP q)]at d ⊢;refine aM (cj (cA (c_ c (E.c 24) (E.gg 3) (ah (av (aq (E.ll 3)) ai fV) ao) (show c.length<=sizeLine by lia) rfl))) (λz=>?_) (λz=>aj ?_)
 .exact cU E.g.calm (E.c 22) (E.gg 4) (ah (aq (E.ll 1)) ao) (d (by rw[cq (by rw[nt z];decide)];rfl))
 have z:=nf z;obtain⟨j,i⟩:=WU z;rw[di z];refine aA E.g (E.ll 5) (Ak E.DF (av (aq (E.ll 3)) ai fV) j i (E.gg 1)) ?_;exact aI (cW (ds:=[.str a,.int (if xH x="+" then intOf c else -intOf c)]) (bF (v_ (E.ll 4).1) (bF (zS (t:=.sh (.int (if xH x="+" then intOf c else -intOf c))) (b5 (aq (E.ll 2)) au).1 (λq=>aE (v_ (E.ll 5).1) (congrArg (λz=>T.sh (.int z)) (di (ed q)).symm)) (λq=>aE (cI (aq (E.ll 5))) (congrArg (λz=>T.sh (.int z)) (cq (eP q)).symm))) dX)) aV) #[rfl,rfl]
theorem Gq{b:Bx}(E:EX iz.N (gN iz.st) (cN iz.st) 28 4 (X.d0 (XE X W)) CL) :
  kE X W CL b iz:=by
 rintro⟨ws,r⟩ h d;dsimp only [iz,Ir]at h d ⊢;have h:∀w∈ws,w.length<=sizeLine:=h;by_cases f:ws.length=2
 .obtain⟨w,n,rfl⟩:=yX f;refine aM (dY (cH (aU (ak (aX (n:=2) rfl E.b7 (aq (E.ll 0)) (E.gg 0))) ai).1 λ_=>dJ (b5 (aF (aq (E.ll 0)) ai cK) au).1)) (λz=>?_) (λz=>aj ?_)
  .have z:w="call":=ed z;subst z;refine g8 (gK (ds:=[.str "call",.str n]) (fj bQ (fQ (tN (n,r) (E.c 23) (E.gg 1) (ah (aF (aq (E.ll 0)) ai dD) (ah (aq (E.ll 1)) ao)) (show n.length<=sizeLine from h n WE) (λz=>d (by rw[Tu (λy=>Bool.noConfusion (y.symm.trans z))];rfl)) (λ_=>rfl)) jq))) (λy=>?_);rw[De y.1];exact#[rfl,by unfold N2;rw[De y.1];rfl]
  have z:¬ w="call":=eP z;refine aM (dY (cH (q:=false) (aU (ak (aX (n:=2) (rfl) E.b7 (aq (E.ll 0)) (E.gg 0))) ai).1 λz=>absurd (ed z) Wl)) (λz=>by rw[gm]at z;cases z) (λ_=>aj ?_);exact cU E.g.calm (E.c 22) (E.gg 3) (ah (aq (E.ll 1)) ao) (d (by rw[show mR [w,n]=none from cq λy=>z y.1];rfl))
 refine aM (dY (cH (q:=false) (aU (ak (aX (n:=ws.length) (d4 ..) E.b7 (aq (E.ll 0)) (E.gg 0))) ai).1 λz=>absurd (ed z) Wl)) (λz=>by rw[gm]at z;cases z) (λ_=>aj ?_);by_cases e:ws.length=3
 .obtain⟨w,n,t,rfl⟩:=YS e;refine aM (dY (cH (aU (ak (aX (n:=3) rfl E.b7 (aq (E.ll 0)) (E.gg 0))) ai).1 λ_=>dJ (gH (aF (aq (E.ll 0)) ai cK) (eK rfl)).1)) (λz=>?_) (λz=>aj ?_)
  .have z:w∈(["put","say"]:AT):=ed z;refine g8 (gK (ds:=[.str w,.str n,Rw t]) (fj (aG (aF (aq (E.ll 0)) ai cK) rfl) (fQ (tN (n,r) (E.c 23) (E.gg 1) (ah (aF (aq (E.ll 0)) ai dD) (ah (aq (E.ll 1)) ao)) (show n.length<=sizeLine from h n WE) (λy=>d (by rw[Rx (.inl y)];rfl)) (λ_=>rfl)) (fQ (tN (t,r) (E.c 27) (E.gg 2) (ah (aF (aq (E.ll 0)) ai fV) (ah (aq (E.ll 1)) ao)) (show t.length<=sizeLine from h t WE) (λy=>d (by rw[Rx (.inr y)];rfl)) (λ_=>rfl)) jq)))) (λy=>?_);obtain⟨a,b⟩:=WV z y.1 y.2.1;exact#[a,congrArg T.sh b.symm]
  have z:¬ w∈(["put","say"]:AT):=eP z;exact cU E.g.calm (E.c 22) (E.gg 3) (ah (aq (E.ll 1)) ao) (d (by rw[Df z];rfl))
 refine aM (dY (cH (q:=false) (aU (ak (aX (n:=ws.length) (d4 ..) E.b7 (aq (E.ll 0)) (E.gg 0))) ai).1 λz=>absurd (ed z) Wl)) (λz=>by rw[gm]at z;cases z) (λ_=>aj ?_);exact cU E.g.calm (E.c 22) (E.gg 3) (ah (aq (E.ll 1)) ao) (d (by rw[A1 f e];rfl))
theorem Gr{b:Bx}(E:lI jw 29 0 X CL) :
  k9 X CL b jw:=by
 intro ws h;dsimp only [jw]at h ⊢;obtain⟨⟨r,v⟩,B⟩:=h;refine aA E.g (E.ll 1) (g6 dX (fc _)) ?_;refine iG E.g (E.ll 2) (λj δ=>∃o,δ=[some (.sh (.lst (ws.map .str))),some (.lst (((ws.take j).foldl pS []).map lT)),o]) (cQ (v_ (E.ll 0).1)) #[_,rfl] (by rintro j δ ⟨_,rfl⟩;exact eE rfl) ?turn ?fin
 case turn=>
  rintro j d δ w ⟨o,rfl⟩;obtain⟨x,rfl,n,_,A,_,_⟩:=vh w;have y:(ws.take (j+1)).foldl pS []=pS ((ws.take j).foldl pS []) x:=by
   rw[LR n,hY];rfl
  have s:=AJ (ws.take j) [];rw[hJ]at s;have hlen:((ws.take j).foldl pS []).length<=1000000:=by
   have:=s.2;simp at this;lia
  have u:x∉fk->0<((ws.take j).foldl pS []).length:=λa=>by
   subst v;cases j with
   | zero=>
    cases n;exact absurd (show("on":Str)∈fk by decide +kernel) a
   | succ j=>
    rw[List.take_succ_cons,ip,show pS [] "on" = [[("on":Str)]] from di (show("on":Str)∈fk by decide +kernel)];exact hz Nat.zero_lt_one (AJ (r.take j) [[("on":Str)]]).1
  rw[y];have hpl:∀p∈(ws.take j).foldl pS [],p.length<=1000000:=λp e=>by
   have:=QW (ws.take j) [] 0 (λq e=>by(cases e)) p e;rw[hJ]at this;lia
  generalize (ws.take j).foldl pS []=st at hlen u hpl ⊢;refine aM (SE (l:=FG) E.jM (E.gg 0) (aq (E.ll 2))) (λz=>?_) (λz=>?_)
  .rw[QT]at z;refine Aj (uo (E.ll 1).1 rfl) rfl rfl (aE (g6 (tl:=[.sh (.str x)]) (bF (v_ (E.ll 2).1) dX) aV) (t2:=lT [x]) rfl) rfl rfl (by rw[d4];lia) (aj (aj ?_));have:pS st x=st++[[x]]:=di (ed z);rw[this,fx];exact#[_,rfl]
  .rw[QT]at z;have a:=eP z;have h0:=u a;have i:NK (st.map lT).length (-1)=some (st.length-1):=by
    rw[d4];exact AG h0
   have t:(st.map lT)[st.length-1]? = some (lT (st.getD (st.length-1) [])):=by
    rw[fT,eM,gc (show st.length-1<st.length by lia)];rfl
   have f:T.Ah [.ix (st.length-1)] (lT (st.getD (st.length-1) []++[x])) (.lst (st.map lT))=.lst ((st.map lT).set (st.length-1) (lT (st.getD (st.length-1) []++[x]))):=by
    show(match (st.map lT)[st.length-1]? with|some k=>_|none=>_)=_;rw[t];rfl
   have m:T.lst (((st.getD (st.length-1) []).map L3.D.str).map T.sh++[T.sh (.str x)])=lT (st.getD (st.length-1) []++[x]):=by
    unfold lT;rw[fx,fx];rfl
   have c:T.tM [.ix (st.length-1)] (.lst (st.map lT))=some (lT (st.getD (st.length-1) [])):=by
    show((st.map lT)[st.length-1]?).bind (λx=>some x.core)=_;rw[t];rfl
   refine Aj (p:=[.ix (st.length-1)]) (Qn (uo (E.ll 1).1 rfl) rfl rfl (ak (cI ai)) i) rfl c (v_ (E.ll 2).1) rfl c (by rw[d4,d4];exact hpl _ (ql [] h0)) (aj (aj ?_));have:pS st x=st.set (st.length-1) (st.getD (st.length-1) []++[x]):=cq a;rw[this,List.map_set,<- f,<- m];exact#[_,rfl]
 case fin=>
  rintro δ ⟨o,rfl⟩;rw[d4,hS];exact aI (vM (E.ll 1).1) rfl
theorem Gs{b:Bx}(E:EX iA.N (gN iA.st) (cN iA.st) 30 3 (X.d0 (XE X W)) CL) :
  kE X W CL b iA:=by
 rintro⟨p,r⟩ h d;dsimp only [iA,Ir]at h d ⊢;obtain⟨h0,h⟩:=h;obtain⟨a,l,rfl⟩:=ui h0;refine aM (uO (aF (aq (E.ll 0)) ai cK) au).1 (λz=>?_) (λz=>aj ?_)
 .have e:qx (a::l)=some (("":Str),("new":Str)):=di λy=>by rw[show a="to" from y]at z;exact absurd z Wp
  exact aI (cW (ds:=[.str "",.str "new"]) (ay bQ (ay bQ bV)) aV) #[by rw[e];rfl,by unfold r4;rw[e];rfl]
 have z:a="to":=Classical.byContradiction λy=>by rw[eu y]at z;cases z
 subst z;by_cases i:l.length=1
 .obtain⟨n,rfl⟩:=list1 i;refine aM (aU (ak (aX (n:=2) rfl E.b7 (aq (E.ll 0)) (E.gg 0))) ai).1 (λ_=>?_) (λz=>absurd z WA);refine g8 (gK (ds:=[.str n,.str "new"]) (fQ (tN (n,r) (E.c 23) (E.gg 1) (ah (aF (aq (E.ll 0)) ai dD) (ah (aq (E.ll 1)) ao)) (show n.length<=sizeLine from h n WE) (λy=>d (by rw[Ts y];rfl)) (λ_=>rfl)) (fj bQ jq))) (λy=>?_);exact#[by rw[A2 y.1];rfl,by unfold r4;rw[A2 y.1];rfl]
 refine aM (aU (ak (aX (n:=l.length+1) (d4 ..) E.b7 (aq (E.ll 0)) (E.gg 0))) ai).1 (λz=>absurd (ed z) Wl) (λ_=>aj ?_);by_cases f:l.length=2
 .obtain⟨n,m,rfl⟩:=yX f;refine aM (dY (cH (aU (ak (aX (n:=3) rfl E.b7 (aq (E.ll 0)) (E.gg 0))) ai).1 λ_=>dJ (gH (aF (aq (E.ll 0)) ai fV) (eK rfl)).1)) (λz=>?_) (λz=>aj ?_)
  .have z:m∈(["near","far"]:AT):=ed z;refine g8 (gK (ds:=[.str n,.str m]) (fQ (tN (n,r) (E.c 23) (E.gg 1) (ah (aF (aq (E.ll 0)) ai dD) (ah (aq (E.ll 1)) ao)) (show n.length<=sizeLine from h n WE) (λy=>d (by rw[FZ (λu=>Bool.noConfusion (u.2.symm.trans y))];rfl)) (λ_=>rfl)) (fj (aG (aF (aq (E.ll 0)) ai fV) rfl) jq))) (λy=>?_);exact#[by rw[A3 z y.1];rfl,by unfold r4;rw[A3 z y.1];rfl]
  have z:¬ m∈(["near","far"]:AT):=eP z;exact cU E.g.calm (E.c 22) (E.gg 2) (ah (aq (E.ll 1)) ao) (d (by rw[FZ (λu=>z u.1)];rfl))
 refine aM (dY (cH (q:=false) (aU (ak (aX (n:=l.length+1) (d4 ..) E.b7 (aq (E.ll 0)) (E.gg 0))) ai).1 λz=>absurd (ed z) Wl)) (λz=>by rw[gm]at z;cases z) (λ_=>aj ?_);exact cU E.g.calm (E.c 22) (E.gg 2) (ah (aq (E.ll 1)) ao) (d (by rw[gl_none i f];rfl))
theorem MB{b:Bx}(E:EX jx.N (gN jx.st) (cN jx.st) 31 4 (X.d0 (XE X W)) CL) :
  kE X W CL b jx:=by
 rintro⟨ws,r⟩ h d;dsimp only [jx,Ir]at h d ⊢;have h:∀w∈ws,w.length<=sizeLine:=h;by_cases i:ws.length=2
 .obtain⟨w,n,rfl⟩:=yX i;refine aM (dY (cH (aU (ak (aX (n:=2) rfl E.b7 (aq (E.ll 0)) (E.gg 0))) ai).1 λ_=>dJ (gH (aF (aq (E.ll 0)) ai cK) (eK rfl)).1)) (λz=>?_) (λz=>aj ?_)
  .have z:w∈(["open","shut"]:AT):=ed z;refine g8 (gK (ds:=[.str w,.str n]) (fj (aG (aF (aq (E.ll 0)) ai cK) rfl) (fQ (tN (n,r) (E.c 23) (E.gg 1) (ah (aF (aq (E.ll 0)) ai dD) (ah (aq (E.ll 1)) ao)) (show n.length<=sizeLine from h n WE) (λy=>d (by rw[show nY [w,n]=none from cq λu=>Bool.noConfusion (u.2.symm.trans y)];rfl)) (λ_=>rfl)) jq))) (λy=>?_);have e:nY [w,n]=some (.i6 w n):=di #[z,y.1];exact#[by rw[e];rfl,by unfold Uw;rw[e];rfl]
  have z:¬ w∈(["open","shut"]:AT):=eP z;refine aM (dY (cH (q:=false) (aU (ak (aX (n:=2) (rfl) E.b7 (aq (E.ll 0)) (E.gg 0))) ai).1 λz=>absurd (ed z) Wl)) (λz=>by rw[gm]at z;cases z) (λ_=>aj ?_);exact cU E.g.calm (E.c 22) (E.gg 4) (ah (aq (E.ll 1)) ao) (d (by rw[show nY [w,n]=none from cq λy=>z y.1];rfl))
 refine aM (dY (cH (q:=false) (aU (ak (aX (n:=ws.length) (d4 ..) E.b7 (aq (E.ll 0)) (E.gg 0))) ai).1 λz=>absurd (ed z) Wl)) (λz=>by rw[gm]at z;cases z) (λ_=>aj ?_);by_cases f:ws.length=3
 .obtain⟨s,w,t,rfl⟩:=YS f;refine aM (dY (cH (aU (ak (aX (n:=3) rfl E.b7 (aq (E.ll 0)) (E.gg 0))) ai).1 λ_=>dJ (kB (aF (aq (E.ll 0)) ai dD) (ak (cT E.uE (E.gg 2))) rfl).1)) (λz=>?_) (λz=>aj ?_)
  .have z:w∈ju:=ed z;refine g8 (gK (ds:=[.str w,Rw s,Rw t]) (fj (aG (aF (aq (E.ll 0)) ai dD) rfl) (fQ (tN (s,r) (E.c 27) (E.gg 3) (ah (aF (aq (E.ll 0)) ai cK) (ah (aq (E.ll 1)) ao)) (show s.length<=sizeLine from h s WE) (λy=>d (by rw[Ry (.inl y)];rfl)) (λ_=>rfl)) (fQ (tN (t,r) (E.c 27) (E.gg 3) (ah (aF (aq (E.ll 0)) ai fV) (ah (aq (E.ll 1)) ao)) (show t.length<=sizeLine from h t WE) (λy=>d (by rw[Ry (.inr y)];rfl)) (λ_=>rfl)) jq)))) (λy=>?_);obtain⟨a,b⟩:=WW z y.1 y.2.1;exact#[a,congrArg T.sh b.symm]
  have z:¬ w∈ju:=eP z;exact cU E.g.calm (E.c 22) (E.gg 4) (ah (aq (E.ll 1)) ao) (d (by rw[show nY [s,w,t]=none from cq z];rfl))
 refine aM (dY (cH (q:=false) (aU (ak (aX (n:=ws.length) (d4 ..) E.b7 (aq (E.ll 0)) (E.gg 0))) ai).1 λz=>absurd (ed z) Wl)) (λz=>by rw[gm]at z;cases z) (λ_=>aj ?_);exact cU E.g.calm (E.c 22) (E.gg 4) (ah (aq (E.ll 1)) ao) (d (by rw[Jl i f];rfl))
theorem MC{b:Bx}(E:EX jy.N (gN jy.st) (cN jy.st) 32 5 (X.d0 (XE X W)) CL) :
  kE X W CL b jy:=by
 rintro⟨ws,r⟩ h k;dsimp only [jy,Ir]at h k ⊢;obtain⟨⟨l,rfl⟩,M,hw⟩:=h;have F:=NU hw;refine aA E.g (E.ll 2) (f9 (d:=.lst ((pF ("on"::l)).map lD)) (c_ (("on":Str)::l) (E.c 29) (E.gg 0) (ah (aq (E.ll 0)) ao) #[#[l,rfl],M] (L0 _)) (WX _)) ?_;show cg (X.d0 (XE X W)) CL b _ [some (.sh (.lst ((("on":Str)::l).map .str))),some (.sh (.int r)),some (.sh (.lst ((pF ("on"::l)).map lD))),none,none,none,none,none] _;generalize pF ("on"::l)=ps at F k ⊢;rw[gv]at M;have P:=F.l;refine aA E.g (E.ll 3) bQ ?_;refine iG E.g (E.ll 4) (λj δ=>∃(y:Str) (A J H v:Option T),δ=[some (.sh (.lst ((("on":Str)::l).map .str))),some (.sh (.int r)),some (.sh (.lst (ps.map lD))),some (.sh (.str y)),A,J,H,v]/\((j=0/\y="")\/(y∈fk/\lV (gT (ps.getD 0 [])) ((ps.drop 1).map gT)=lV y ((ps.drop j).map gT)))) (cQ (v_ (E.ll 2).1)) #[_,_,_,_,_,rfl,.inl #[rfl,rfl]] (λj δ ⟨_,_,_,_,_,e,_⟩=>by subst e;exact eE rfl) ?turn ?fin
 case turn=>
  rintro j d δ O ⟨y,A,J,H,v,rfl,u⟩;rw[fT]at O;obtain⟨p,hp,rfl⟩:=hW.1 O;have D:=fw hp;obtain⟨x,m,rfl⟩:=F.ne p D;have L:x∈fk:=F.fk _ D;obtain⟨rfl,rfl⟩|⟨u,he⟩:=u
  .refine aM (dY (cH (q:=false) (uO (aq (E.ll 3)) au).1 λz=>absurd z Wp)) (λz=>absurd z Wp) (λ_=>aj ?_);refine aA E.g (E.ll 3) (aG (aF (ds:=(x::m).map .str) (aq (E.ll 4)) ai cK) rfl) (aj #[x,_,_,_,_,rfl,.inr #[L,?_]]);have:ps.getD 0 []=x::m:=by rw[eM,hp];rfl
   rw[this];rfl
  .obtain⟨k1,k2,_⟩:=WZ u;rw[Jm hp,eJ]at he;have he:lV (gT (ps.getD 0 [])) ((ps.drop 1).map gT)=(decide (x∈iS y)&&lV x ((ps.drop (j+1)).map gT)):=he;refine aM (dY (cH (uO (aq (E.ll 3)) au).1 λ_=>dJ (p8 (aF (ds:=(x::m).map .str) (aq (E.ll 4)) ai cK) (ak (SA (l:=FG) E.jM (E.gg 1) (aq (E.ll 3)) k1)) rfl rfl).1)) (λz=>?_) (λz=>aj ?_)
   .rw[et]at z;have z:(!decide (x∈iS y))=true:=z.2;exact cU E.g.calm (E.c 22) (E.gg 2) (ah (aq (E.ll 1)) ao) (k (by unfold AY;rw[he,nt z,h9,h9]))
   .have z:(!decide (y="") && !decide (x∈iS y))=false:=z;rw[eu k2]at z;rw[nf (show(!decide (x∈iS y))=false from z),hG]at he;exact aA E.g (E.ll 3) (aG (aF (ds:=(x::m).map .str) (aq (E.ll 4)) ai cK) rfl) (aj #[x,_,_,_,_,rfl,.inr #[L,he]])
 case fin=>
 rintro δ ⟨la,A,J,H,v,rfl,u⟩;have s:=F.p0;have S:lV (gT (ps.getD 0 [])) ((ps.drop 1).map gT)=true:=by
  rw[d4]at u;obtain⟨z,_⟩|⟨_,z⟩:=u
  .lia
  .rw[z,List.drop_length];rfl
 have R:AY ps=(decide ((ps.getD 0 []).length=2)&&((ps.filter isA).all (λp=>(nY p.tail).isSome)&&((ps.filter xS).all (λp=>(mR p.tail).isSome)&&((qx (gy ps)).isSome&&aO ((ps.getD 0 []).getD 1 ""))))):=by unfold AY;rw[S,hG]
 rw[R]at k ⊢;have h0:mw (ps.map lD) 0=some (lD (ps.getD 0 [])):=fY (j:=0) (by rw[fT,eM,gc s];rfl);refine aM (g5 (ak (aX (n:=(ps.getD 0 []).length) (d4 ..) E.b7 (aF (aq (E.ll 2)) ai h0) (E.gg 3))) ai).1 (λz=>?_) (λz=>aj ?_)
 .have z:¬ (ps.getD 0 []).length=2:=λy=>by
   rw[y]at z;exact absurd z WA
  exact cU E.g.calm (E.c 22) (E.gg 2) (ah (aq (E.ll 1)) ao) (k (by rw[eu z];rfl))
 have z:(ps.getD 0 []).length=2:=Classical.byContradiction λy=>by
  have z:(!decide ((((ps.getD 0 []).length:Nat):Int)=2))=false:=z;rw[eu Wl]at z;cases z
 obtain⟨a,sg,e0⟩:=yX z;have B:(ps.getD 0 []).getD 1 "" = sg:=by rw[e0];rfl
 rw[eD z,hG,B]at k ⊢;have K:sg.length<=sizeLine:=F.w _ (e0▸Tb s) sg WE;have hlen:(ps.map lD).length<=sizeLine:=by rw[d4,fA];lia
 refine qf (p:=λd=>isA (v5 d)) (ok:=λd=>(nY (v5 d).tail).isSome) (g:=λd=>.sh (Uw (v5 d).tail)) E.g (E.ll 5) E.st E.fm (bM (.cons (E.ll 1).1 (.inl (E.cc 0)) .nil) Wp) (cQ (v_ (E.ll 2).1)) (.inr rfl) (λC s0 V f0 U i d hd _ lt=>?Gk) hlen (λa1=>?wH) (by exact eE rfl) (jh #[_,rfl])
 case Gk=>
  obtain⟨p,hp,rfl⟩:=ew.1 (fw hd);obtain⟨x,m,rfl⟩:=F.ne p hp;refine#[(gH (aF (ds:=(x::m).map .str) (ak (v_ (Vn.wx (Al 0)))) ai cK) (eK rfl)).1,λz=>?_];show uR _ _ _ _ _ (λt=>(nY (v5 (lD (x::m))).tail).isSome=true/\t=T.sh (Uw (v5 (lD (x::m))).tail)) _;rw[oW];exact tN (m,r) (NZ.cx (E.c 31)) kD (ah (d:=.lst (m.map .str)) (bZ (aE (pZ (ds:=(x::m).map .str) (ak (v_ (Vn.wx (Al 0)))) (ji _) (pY ai) pX) (by rw[eJ,w4]))) (ah (ak (v_ (Vn.wx (Am 1)))) ao)) (λw hw=>F.w _ hp w (ee _ hw)) (λy=>lt _ _ (k (by rw[A4 (o:=λp=>(nY p.tail).isSome) hp z y];rfl))) (λ_=>Ta m)
 case wH=>
 rw[To];have a1:(ps.filter isA).all (λp=>(nY p.tail).isSome)=true:=RA a1;rw[a1,hG]at k ⊢;show cg (X.d0 (XE X W)) CL b _ [some (.sh (.lst ((("on":Str)::l).map .str))),some (.sh (.int r)),some (.sh (.lst (ps.map lD))),some (.sh (.str la)),A,some (.lst (((yV ps).as.map ic.d).map T.sh)),H,v] _;refine qf (p:=λd=>xS (v5 d)) (ok:=λd=>(mR (v5 d).tail).isSome) (g:=λd=>.sh (N2 (v5 d).tail)) E.g (E.ll 6) E.st E.fm (bM (.cons (E.ll 1).1 (.inl (E.cc 0)) .nil) Wp) (cQ (v_ (E.ll 2).1)) (.inr rfl) (λC s0 V f0 U i d hd _ lt=>?Gm) hlen (λa2=>?wI) (by exact eE rfl) (jh #[_,rfl])
 case Gm=>
  obtain⟨p,hp,rfl⟩:=ew.1 (fw hd);obtain⟨x,m,rfl⟩:=F.ne p hp;refine#[(gH (aF (ds:=(x::m).map .str) (ak (v_ (Vn.wx (Al 0)))) ai cK) (eK rfl)).1,λz=>?_];show uR _ _ _ _ _ (λt=>(mR (v5 (lD (x::m))).tail).isSome=true/\t=T.sh (N2 (v5 (lD (x::m))).tail)) _;rw[oW];exact tN (m,r) (NZ.cx (E.c 28)) kD (ah (d:=.lst (m.map .str)) (bZ (aE (pZ (ds:=(x::m).map .str) (ak (v_ (Vn.wx (Al 0)))) (ji _) (pY ai) pX) (by rw[eJ,w4]))) (ah (ak (v_ (Vn.wx (Am 1)))) ao)) (λw hw=>F.w _ hp w (ee _ hw)) (λy=>lt _ _ (k (by rw[A4 (o:=λp=>(mR p.tail).isSome) hp z y];rfl))) (λ_=>RB m)
 case wI=>
 rw[Th];have a2:(ps.filter xS).all (λp=>(mR p.tail).isSome)=true:=RA a2;rw[a2,hG]at k ⊢;show cg (X.d0 (XE X W)) CL b _ [some (.sh (.lst ((("on":Str)::l).map .str))),some (.sh (.int r)),some (.sh (.lst (ps.map lD))),some (.sh (.str la)),A,some (.lst (((yV ps).as.map ic.d).map T.sh)),some (.lst (((yV ps).ds.map ia.d).map T.sh)),v] _;have G:=ql (l:=ps) [] s;refine Fi E.g (E.ll 7) (tN (gy ps,r) (E.c 30) (E.gg 4) (ah (aF (aq (E.ll 2)) (ak (cI ai)) (C1 (f:=lD) [] s)) (ah (aq (E.ll 1)) ao)) #[(λz=>by obtain⟨x,m,e⟩:=F.ne _ G;rw[show gy ps=x::m from e]at z;cases z),F.w _ G] (λy=>k (by rw[show(qx (gy ps)).isSome=false from y];rfl)) (λ_=>rfl)) ?_;rintro _ ⟨I,rfl⟩;have I:(qx (gy ps)).isSome=true:=I;rw[I,hG]at k ⊢;refine g8 (Ao (fQ (tN (sg,r) (E.c 23) (E.gg 5) (ah (aF (ds:=[.str a,.str sg]) (aF (aq (E.ll 2)) ai (h0.trans (by rw[e0];rfl))) ai dD) (ah (aq (E.ll 1)) ao)) K k (λ_=>rfl)) (fj (vM (E.ll 5).1) (fj (vM (E.ll 6).1) (fj (aG (av (ds:=[.str ((qx (gy ps)).getD ("","")).1,.str ((qx (gy ps)).getD ("","")).2]) (aq (E.ll 7)) ai cK) rfl) (fj (aG (av (ds:=[.str ((qx (gy ps)).getD ("","")).1,.str ((qx (gy ps)).getD ("","")).2]) (aq (E.ll 7)) ai dD) rfl) jq)))))) (λy=>#[y.1,?_]);show _=T.tup [.sh (.str (yV ps).sg),_,_,_,_];rw[show(yV ps).sg=sg from B];rfl
theorem x8{b:Bx}(E:EX eO.N (gN eO.st) (cN eO.st) 33 6 (X.d0 (XE X W)) CL) :
  kE X W CL b eO:=by
 rintro⟨ws,r⟩ h f;dsimp only [eO,Ir]at h f ⊢;obtain⟨h0,m,h⟩:=h;obtain⟨w,l,rfl⟩:=ui h0;refine aA E.g (E.ll 2) (aG (aF (aq (E.ll 0)) ai cK) rfl) ?_;refine aM (p:=decide (w="box")&&decide (((l.length+1:Nat):Int)=3)) (dY (cH (b5 (aq (E.ll 2)) au).1 λ_=>dJ (aU (ak (aX (n:=l.length+1) (d4 ..) E.b7 (aq (E.ll 0)) (E.gg 0))) ai).1)) (λz=>?_) (λz=>aj ?_)
 .obtain⟨rfl,z⟩:=bt z;obtain⟨a,c,rfl⟩:=yX (show l.length=2 by lia);refine g8 (gK (ds:=[.str a,.int (intOf c)]) (fQ (tN (a,r) (E.c 23) (E.gg 1) (ah (aF (aq (E.ll 0)) ai dD) (ah (aq (E.ll 1)) ao)) (show a.length<=sizeLine from h _ WE) (λy=>f (by rw[Jo (.inl y)];rfl)) (λ_=>rfl)) (fQ (tN (c,r) (E.c 26) (E.gg 2) (ah (aF (aq (E.ll 0)) ai fV) (ah (aq (E.ll 1)) ao)) (show c.length<=sizeLine from h _ WE) (λy=>f (by rw[Jo (.inr y)];rfl)) (λ_=>rfl)) jq))) (λy=>?_);have e:=RC y.1 y.2.1;exact#[by rw[e];rfl,by unfold L1;rw[e];rfl]
 have n1:¬ (w="box" /\ l.length=2):=λy=>bf z #[y.1,by have:=y.2;lia];refine aM (p:=decide (w="one")&&decide (((l.length+1:Nat):Int)=3)) (dY (cH (b5 (aq (E.ll 2)) au).1 λ_=>dJ (aU (ak (aX (n:=l.length+1) (d4 ..) E.b7 (aq (E.ll 0)) (E.gg 0))) ai).1)) (λz=>?_) (λz=>aj ?_)
 .obtain⟨rfl,z⟩:=bt z;obtain⟨a,c,rfl⟩:=yX (show l.length=2 by lia);refine g8 (gK (ds:=[.str a,.str c]) (fQ (tN (a,r) (E.c 23) (E.gg 1) (ah (aF (aq (E.ll 0)) ai dD) (ah (aq (E.ll 1)) ao)) (show a.length<=sizeLine from h _ WE) (λy=>f (by rw[Jp (.inl y)];rfl)) (λ_=>rfl)) (fQ (tN (c,r) (E.c 23) (E.gg 1) (ah (aF (aq (E.ll 0)) ai fV) (ah (aq (E.ll 1)) ao)) (show c.length<=sizeLine from h _ WE) (λy=>f (by rw[Jp (.inr y)];rfl)) (λ_=>rfl)) jq))) (λy=>?_);have e:=RD y.1 y.2.1;exact#[by rw[e];rfl,by unfold L1;rw[e];rfl]
 have n2:¬ (w="one" /\ l.length=2):=λy=>bf z #[y.1,by have:=y.2;lia];refine aM (p:=decide (w∈(["leaf","all"]:AT))&&decide (((l.length+1:Nat):Int)=2)) (dY (cH (gH (aq (E.ll 2)) (eK rfl)).1 λ_=>dJ (aU (ak (aX (n:=l.length+1) (d4 ..) E.b7 (aq (E.ll 0)) (E.gg 0))) ai).1)) (λz=>?_) (λz=>aj ?_)
 .obtain⟨hw,z⟩:=bt z;obtain⟨a,rfl⟩:=list1 (show l.length=1 by lia);have e:=Jq (a:=a) hw;refine g8 (gK (ds:=[.str a,.str ""]) (fQ (tN (a,r) (E.c 23) (E.gg 1) (ah (aF (aq (E.ll 0)) ai dD) (ah (aq (E.ll 1)) ao)) (show a.length<=sizeLine from h _ WE) (λy=>f (by rw[e,cq (λu=>Bool.noConfusion (u.symm.trans y))];rfl)) (λ_=>rfl)) (fj bQ jq))) (λy=>?_);have i:aO a=true:=y.1;rw[di i]at e;exact#[by rw[e];rfl,by unfold L1;rw[e];rfl]
 have k:¬ (w∈(["leaf","all"]:AT)/\l.length=1):=λy=>bf z #[y.1,by have:=y.2;lia];refine aM (gH (aq (E.ll 2)) (eK rfl)).1 (λz=>?_) (λz=>aj ?_)
 .have z:w∈(["in","out"]:AT):=ed z;have e:=RG (l:=l) z;refine g8 (tN (l,r) (E.c 28) (E.gg 3) (ah (d:=.lst (l.map .str)) (bZ (aE (pZ (ds:=(w::l).map .str) (aq (E.ll 0)) (ji _) (pY ai) pX) (by rw[eJ,w4]))) (ah (aq (E.ll 1)) ao)) (λw hw=>h w (ee _ hw)) (λy=>f (by rw[e,ph];exact y)) (λ_=>RB l)) (λy=>#[by rw[e,ph];exact y,?_]);have y:(mR l).isSome=true:=y;obtain⟨d,hd⟩:=iv.1 y;show T.sh (N2 l)=(L1 (w::l)).t;unfold L1 N2;rw[e,hd];rfl
 have j:¬ w∈(["in","out"]:AT):=eP z;refine aM (b5 (aq (E.ll 2)) au).1 (λz=>?_) (λz=>aj ?_)
 .have z:w="on":=ed z;subst z;have e:=RH (l:=l);refine g8 (tN ((("on":Str)::l),r) (E.c 32) (E.gg 4) (ah (aq (E.ll 0)) (ah (aq (E.ll 1)) ao)) #[#[l,rfl],m,h] (λy=>f (by rw[e,cq (λu=>Bool.noConfusion (u.symm.trans y))];rfl)) (λ_=>yZ _)) (λy=>?_);have y:AY (pF (("on":Str)::l))=true:=y;rw[di y]at e;exact#[by rw[e];rfl,by unfold L1;rw[e];rfl]
 exact cU E.g.calm (E.c 22) (E.gg 5) (ah (aq (E.ll 1)) ao) (f (by rw[v7 n1 n2 k j (eP z)];rfl))
theorem Gu{b:Bx}(E:EX iB.N (gN iB.st) (cN iB.st) 34 7 (X.d0 (XE X W)) CL) :
  kE X W CL b iB:=by
 rintro⟨x,r⟩ h f;dsimp only [iB,Ir]at h f ⊢;have h:x.length<=900000:=h;have a:∀{n:Nat},n<=1000000->n<=sizeLine:=λh=>by rw[fA];lia
 have i:=(qy x).2;have d:=S3 x;refine aA E.g (E.ll 2) (Lv (aq (E.ll 0)) au (a Wl) (show Txt.lstripChars x " " = iH x from rfl)) ?_;refine aA E.g (E.ll 3) (rL (aq (E.ll 2)) au Wp (a Wl) (show Txt.split (iH x) " " = xZ x from rfl) (a Wl)) ?_;have he:((x.length:Nat):Int)-((iH x).length:Nat)=(mS x:Nat):=by unfold mS;lia
 obtain⟨w,l,hw⟩:=ui (show xZ x≠[] from Dh _ _);have h0:mw ((xZ x).map L3.D.str) 0=some (.str w):=by
  rw[hw];exact fY (j:=0) rfl
 refine g8 (Ao (fj (v_ (E.ll 1).1) (fj (aE (kU (ak (uh E.b7 (aq (E.ll 0)) (a Wl) (E.gg 0))) (ak (uh E.b7 (aq (E.ll 2)) (a Wl) (E.gg 0)))) (t2:=.sh (.int (mS x:Nat))) (congrArg (λz=>T.sh (.int z)) he)) (fj (aG (aF (vL (E.ll 3).1) ai h0) rfl) (fQ (tN (xZ x,r) (E.c 33) (E.gg 1) (ah (vL (E.ll 3).1) (ah (aq (E.ll 1)) ao)) #[Dh _ _,Wl,λw hw=>a (er (NO hw) Wl)] f (λ_=>y9 _)) jq))))) (λy=>#[y.1,?_]);obtain⟨c,d⟩:=iv.1 (show(lZ (xZ x)).isSome=true from y.1);have e:(iD x).w=w:=by
  unfold iD L1;rw[d];rw[hw]at d;exact KO d
 show _=T.tup [.sh (.int r),.sh (.int (mS x:Nat)),.sh (.str (iD x).w),_];rw[e];rfl
def DK{b:Bx}(E:lI iK 35 0 X CL) :
  k9 X CL b iK:=by
 rintro⟨f,pw,mb⟩ h;dsimp only [iK]at h ⊢;obtain⟨hw,hp⟩:=h;rw[qz];refine aA E.g (E.ll 3) (aG (av (ds:=[.int f.r,.int f.bl,.str f.c.w,f.c.d]) (aq (E.ll 0)) (ak (aL E.iT (E.gg 0))) fV) rfl) ?_;refine aA E.g (E.ll 4) (aG (av (ds:=[.int f.r,.int f.bl,.str f.c.w,f.c.d]) (aq (E.ll 0)) (ak (aL E.jD (E.gg 1))) dD) rfl) ?_;generalize f.c.w=w at hw ⊢;refine aM (b5 (aq (E.ll 3)) au).1 (λz=>?_) (λz=>aj ?_)
 .have z:w="box":=ed z;exact aI (gi (aU (aq (E.ll 4)) ai).2 (λ_=>gf (aU (aq (E.ll 2)) (ak (cI ai))).2)) (congrArg (λz=>T.sh (.bl z)) (di z).symm)
 have z:¬ w="box":=eP z;unfold ig;rw[cq z];refine aM (aU (aq (E.ll 2)) (ak (cI ai))).1 (λy=>?_) (λy=>aj ?_)
 .exact aI (gi (aU (aq (E.ll 4)) ai).2 (λ_=>gf (kB (aq (E.ll 3)) (ak (cT E.fq (E.gg 2))) rfl).2)) (congrArg (λz=>T.sh (.bl z)) (di (ed y)).symm)
 have y:¬ mb=-1:=eP y;rw[cq y];refine aM (kB (aq (E.ll 3)) (ak (cT E.fq (E.gg 2))) rfl).1 (λu=>?_) (λu=>aj ?_)
 .exact aI (P7 HG HG ai (aq (E.ll 4)) (ak (eF (aq (E.ll 2)) ai)) (by with_unfolding_all rfl)).2 (congrArg (λz=>T.sh (.bl z)) (di (ed u)).symm)
 have u:¬ w∈bu:=eP u;rw[cq u];obtain⟨a,k⟩:=hp.resolve_left y;obtain⟨c,e⟩:∃c,fK.lookup w=some c:=by
  simp only[qA,d3,eA,fb]at hw;obtain rfl|rfl|rfl|rfl|rfl|rfl|rfl:=hw
  .exact absurd rfl z
  .exact#[0,Wp]
  .exact#[0,Wp]
  .exact#[0,Wp]
  .exact#[1,Wp]
  .exact#[2,Wp]
  .exact#[3,Wp]
 refine aI (gi (aU (aq (E.ll 4)) (ak (eF (aq (E.ll 2)) ai))).2 (λ_=>gf (O5 (i:=a) (j:=c) (ak (Yv E.uF (E.gg 3) (aq (E.ll 1)) k)) (ak (Yv E.uF (E.gg 3) (aq (E.ll 3)) e))).2)) ?_;rw[show A5 pw=a by unfold A5;rw[k];rfl,show A5 w=c by unfold A5;rw[e];rfl]
theorem MD{b:Bx}(E:EX jz.N (gN jz.st) (cN jz.st) 36 8 (X.d0 (XE X W)) CL) :
  kE X W CL b jz:=by
 intro x h K;dsimp only [jz,Ir]at h K ⊢;have h:x.length<=900000:=h;have U:=S1 x;have hle:∀y∈fO x,y.length<=900000:=λy P=>er (NN P) h;refine aA E.g (E.ll 1) (g6 dX (fc _)) ?_;refine aA E.g (E.ll 2) bQ ?_;refine aA E.g (E.ll 3) (cI ai) ?_;refine rJ E.g (p9 E.g.nd E.g.calm (E.ll 4) (E.ll 5)) (λj δ=>∃(pw:Str) (mb:Int) (p o m:Option T),δ=[some (.sh (.str x)),some (.lst ((xJ 1 ((fO x).take j)).map dQ.t)),some (.sh (.str pw)),some (.sh (.int mb)),p,o,m]/\(rq "" (-1) (fO x)=rq pw mb ((fO x).drop j)/\zb 1 "" (-1) (fO x)=zb ((j:Nat)+1:Int) pw mb ((fO x).drop j))/\(mb=-1\/∃a,fK.lookup pw=some a))
  (mH (f:=λy:Str=>L3.D.str y) (l:=fO x) "" E.iN (f9 (rL (aq (E.ll 0)) au Wp (by rw[fA];lia) (show Txt.split x "\n" = fO x from rfl) (by rw[fA];lia)) (cC _)) (E.gg 0)) #[_,_,_,_,_,rfl,#[rfl,rfl],.inl rfl]
  (λj δ ⟨_,_,_,_,_,e,_⟩=>by subst e;intro i hi;simp only[d3,eA,fb]at hi;obtain rfl|rfl:=hi<;>exact eE rfl) ?turn ?fin
 case turn=>
  rintro j d δ R ⟨pw,mb,p,o,m,rfl,⟨k,n⟩,J⟩;obtain⟨i,rfl,hi,S,_,_,_⟩:=vh R;have s:i<(fO x).length:=gC.1 S;obtain rfl:i=j:=by
   rw[hU (by have:=(gz.1 hi).1;rwa [gx]at this)]at hi;exact(e5 hi).symm
  refine#[_,rfl,?_];have I:(fO x)[i]? = some ((fO x).getD i ""):=by
   rw[eM,gc s];rfl
  have q:=hle _ (fw I);rw[Jm I]at k n;have G:(fO x).take (i+1)=(fO x).take i++[(fO x).getD i ""]:=by rw[hZ,I];rfl
  have r:=Di ((fO x).getD i "") ((fO x).take i) 1;rw[hJ,Nat.min_eq_left (hH s),show(1:Int)+((i:Nat):Int)=(i:Nat)+1 from Int.add_comm _ _]at r;have L:((xJ 1 ((fO x).take i)).map dQ.t).length<=1000000:=by
   rw[d4,A6,hJ];lia
  show cg (X.d0 (XE X W)) CL b _ [some (.sh (.str x)),some (.lst ((xJ 1 ((fO x).take i)).map dQ.t)),some (.sh (.str pw)),some (.sh (.int mb)),some (.sh (.int i)),some (.sh (.str ((fO x).getD i ""))),m] {nx:=λδ=>∃(pw:Str) (mb:Int) (p o m:Option T),δ=[some (.sh (.str x)),some (.lst ((xJ 1 ((fO x).take (i+1))).map dQ.t)),some (.sh (.str pw)),some (.sh (.int mb)),p,o,m]/\(rq "" (-1) (fO x)=rq pw mb ((fO x).drop (i+1))/\zb 1 "" (-1) (fO x)=zb ((i+1:Nat)+1:Int) pw mb ((fO x).drop (i+1)))/\(mb=-1\/∃a,fK.lookup pw=some a),rt:=_,bk:=_,ct:=_};rw[G,r,fx];generalize (fO x).getD i "" = y at q k n ⊢;generalize (xJ 1 ((fO x).take i)).map dQ.t=fs at L ⊢;have k:rq "" (-1) (fO x)=((l0 y).isSome&&(ig pw mb (mS y) (iD y).w&&rq (iD y).w (Jr mb y) ((fO x).drop (i+1)))):=k;have n:zb 1 "" (-1) (fO x)=if (l0 y).isSome=true/\ig pw mb (mS y) (iD y).w=true then zb ((i:Nat)+1+1:Int) (iD y).w (Jr mb y) ((fO x).drop (i+1)) else((i:Nat)+1:Int):=n
  refine Fi E.g (E.ll 6) (tN (y,((i:Nat)+1:Int)) (E.c 34) (E.gg 1) (ah (aq (E.ll 5)) (ah (ak (eF (aq (E.ll 4)) ai)) ao)) q (λu=>?ex1) (λ_=>za _)) ?next
  case ex1=>
   have u:(l0 y).isSome=false:=u;have:=K (by rw[k,u];rfl)
   rwa [n,cq (λz=>Bool.noConfusion (z.1.symm.trans u))]at this
  case next=>
  rintro _ ⟨u,rfl⟩;have u:(l0 y).isSome=true:=u;obtain⟨M,_,_⟩:=z1 u;rw[u,hG]at k;refine aM (cj (cA (c_ (#[((i:Nat)+1:Int),mS y,iD y],pw,mb) (E.c 35) (E.gg 2) (ah (vB (E.ll 6).1) (ah (aq (E.ll 2)) (ah (aq (E.ll 3)) ao))) #[M,J] rfl))) (λz=>?_) (λz=>aj ?_)
  .have z:ig pw mb (mS y) (iD y).w=false:=nt z;have:=K (by rw[k,z];rfl);rw[n,cq (λv=>Bool.noConfusion (v.2.symm.trans z))]at this;exact cU E.g.calm (E.c 22) (E.gg 3) (ah (av (ds:=[.int ((i:Nat)+1:Int),.int (mS y),.str (iD y).w,(iD y).d]) (vE (E.ll 6).1 rfl (qz _)) (ak (aL E.Zj (E.gg 4))) cK) ao) this
  have z:ig pw mb (mS y) (iD y).w=true:=nf z;rw[z,hG]at k;rw[di #[u,z]]at n;refine aA E.g (E.ll 2) (aG (av (ds:=[.int ((i:Nat)+1:Int),.int (mS y),.str (iD y).w,(iD y).d]) (vE (E.ll 6).1 rfl (qz _)) (ak (aL E.iT (E.gg 5))) fV) rfl) ?_;have H:Jr mb y=-1\/∃a,fK.lookup (iD y).w=some a:=by
   refine(RJ M z).imp_left λe=>?_;unfold Jr;rw[cq e.2];exact e.1
  have fin:∀{o m O:Option T},∃(B:Str) (A:Int) (p F C:Option T),[some (T.sh (.str x)),some (T.lst (fs++[dQ.t #[((i:Nat)+1:Int),mS y,iD y]])),some (.sh (.str (iD y).w)),some (.sh (.int (Jr mb y))),o,m,O]=[some (.sh (.str x)),some (.lst (fs++[(#[((i:Nat)+1:Int),mS y,iD y]:dQ)].map dQ.t)),some (.sh (.str B)),some (.sh (.int A)),p,F,C]/\(rq "" (-1) (fO x)=rq B A ((fO x).drop (i+1))/\zb 1 "" (-1) (fO x)=zb ((i+1:Nat)+1:Int) B A ((fO x).drop (i+1)))/\(A=-1\/∃a,fK.lookup B=some a):=#[_,_,_,_,_,rfl,#[k,n],H];refine aM (kB (aq (E.ll 2)) (ak (cT E.fq (E.gg 6))) rfl).1 (λv=>?_) (λv=>aj ?_)
  .have e:Jr mb y=mS y:=di (ed v);rw[e]at fin;refine aA E.g (E.ll 3) (aG (av (ds:=[.int ((i:Nat)+1:Int),.int (mS y),.str (iD y).w,(iD y).d]) (vE (E.ll 6).1 rfl (qz _)) (ak (aL E.jD (E.gg 7))) dD) rfl) (aj ?_);exact p6 (E.ll 1).1 rfl (vM (E.ll 6).1) rfl L (aj fin)
  .have e:Jr mb y=mb:=cq (eP v);rw[e]at fin;exact p6 (E.ll 1).1 rfl (vM (E.ll 6).1) rfl L (aj fin)
 case fin=>
  rintro δ ⟨pw,mb,p,o,m,rfl,⟨k,_⟩,_⟩;rw[d4,gx,List.drop_length]at k;rw[d4,gx,hS];exact aI (vM (E.ll 1).1) #[k,rfl]
theorem DL{b:Bx}(E:lI iL 37 0 X CL) :
  k9 X CL b iL:=by
 intro es h;obtain⟨h,C⟩:=h;apply aA E.g (E.ll 1) (g6 dX (fc _));apply aA E.g (E.ll 2) (g6 dX (fc _));have k:xW es=(List.range _).map _:=rfl;refine rJ E.g (p9 E.g.nd E.g.calm (E.ll 3) (E.ll 4)) (λj δ=>∃o n,δ=[some _,some (.lst (((es.take j).map .int).map T.sh)),some (.lst (((kc es j).map .int).map T.sh)),o,n])
  (mH (l:=xW es) 0 E.iN (v_ (E.ll 0).1) (E.gg 0)) #[_,_,rfl]
  (λj δ ⟨_,_,e⟩=>by subst e;intro i hi;simp at hi;obtain rfl|rfl:=hi<;>exact eE rfl) ?turn ?fin
 case turn=>
  rintro j d δ x ⟨o,n,rfl⟩;obtain⟨i,rfl,hi,B,_,_,_⟩:=vh x;have r:=by
   have:=gC.1 B;exact this
  have y:=by
   rw[hU (by have:=(gz.1 hi).1;rwa [gx]at this)]at hi;exact(e5 hi).symm
  subst y;have f:i<es.length:=by rwa [k,d4,gx]at r
  have A:(xW es).getD i 0=((dM es i).length):=by
   rw[k,eM,fT,hU f];rfl
  obtain⟨v,c⟩:=RO h f;refine#[_,rfl,?_];rw[A];have s:cutD ((kc es i).map L3.D.int) none (some ((dM es i).length))=((dM es i).reverse).map .int:=by
   rw[SR,<- List.map_take,v]
  have w:((dM es i).reverse).length<=es.length+1:=by
   rw[sx];exact Au _ _ _
  apply aA E.g (E.ll 2) (aE (pZ (vL (E.ll 2).1) (kr _) pX (pY (aq (E.ll 4)))) (by rw[s]));have hsz:((((dM es i).reverse).map L3.D.int).map T.sh).length<=1000000:=by
   rw[d4,d4];lia
  have u:(((es.take i).map L3.D.int).map T.sh).length<=1000000:=by
   rw[d4,d4,hJ];lia
  have p:((es.take i).map L3.D.int).map T.sh++[T.sh (.int (es.getD i 0))]=((es.take (i+1)).map L3.D.int).map T.sh:=by
   rw[hZ,eM,gc f,fx,fx];rfl
  have m:(((dM es i).reverse).map L3.D.int).map T.sh++[T.sh (.int i)]=((kc es (i+1)).map L3.D.int).map T.sh:=by
   rw[<- Xk,fx,fx];rfl
  generalize (dM es _).reverse=ln at c hsz m ⊢;generalize ((dM es i).length)=dp;refine p6 (δ1:=[some (.sh (.lst ((xW es).map .int))),some _,some (.lst ((ln.map .int).map T.sh)),some (.sh (.int i)),some (.sh (.int dp))]) (E.ll 1).1 rfl (zS (t:=.sh (.int (es.getD i 0))) (YE (vL (E.ll 2).1)) (λq=>?el1) (λq=>?el2)) rfl u ?rest
  case el1=>
   have h0:0<ln.length:=by
    cases ln with
    | nil=>cases q
    | cons a l=>exact Nat.succ_pos _
   have e1:ln.getD (ln.length-1) 0=es.getD i 0:=by
    rw[List.getLast?_eq_getElem?,gc Wl]at c;rw[eM,gc Wl];split at c
    .cases c
    .exact e5 c
   exact aE (aG (aF (vL (E.ll 2).1) (ak (cI ai)) (C1 0 h0)) rfl) (congrArg (λz=>T.sh _) e1)
  case el2=>
   have e0:ln=[]:=by
    cases ln with
    | nil=>rfl
    | cons a l=>cases q
   subst e0;have e1:es.getD i 0=-1:=by
    by_cases z:es.getD i 0=-1
    .exact z
    .rw[cq z]at c;cases c
   exact aE (cI ai) (by rw[e1])
  case rest=>
  refine p6 (E.ll 2).1 rfl (v_ (E.ll 3).1) rfl hsz (aj ?_);rw[p,m];exact#[_,_,rfl]
 case fin=>
  rintro δ ⟨o,n,rfl⟩;have e:es.take ((List.range (xW es).length).map λ(i:Nat)=>L3.D.tup [.int i,L3.D.int ((xW es).getD i 0)]).length=es:=by
   rw[d4,gx,k,d4,gx,hS]
  rw[e];exact aI (vM (E.ll 1).1) rfl
theorem Gv{b:Bx}(E:lI jA 38 0 X CL) :
  k9 X CL b jA:=by
 rintro⟨c,b⟩ h;dsimp only [jA]at h ⊢;have h:N3 c:=h;have bO:=nK h;have S:=Q8 h.1;have U:=h.rl;have F:∀k∈bu,k≠(if b then("in":Str) else "out"):=by
  cases b<;>decide +kernel
 generalize M:(if b then("in":Str) else "out")=w at F ⊢;have G:w="in" \/ w="out":=by
  cases b with
  | true=>exact .inl M.symm
  | false=>exact .inr M.symm
 have a:w≠"box" /\ w≠"on":=by
  obtain e|e:=G<;>rw[e]<;>decide +kernel
 have t:c.rows.foldl (gD w) []=c.dl b:=M▸RQ h b;refine aA E.g (E.ll 2) (g6 dX (fc _)) ?_;refine iG E.g (E.ll 3) (λj δ=>∃o,δ=[some (.sh (.lst c.tO)),some (.sh (.str w)),some (.lst (((c.rows.take j).foldl (gD w) []).map tT)),o]) (cQ (v_ (E.ll 0).1)) #[_,rfl] (by rintro j δ ⟨_,rfl⟩;exact eE rfl) ?turn ?fin
 case turn=>
  rintro j d δ B ⟨o,rfl⟩;have P:j<c.rows.length:=by
   have:=(gz.1 B).1
   rwa [CH.tO,d4,gx]at this
  have f:c.rows[j]? = some (c.rows.getD j (.bx "" 0)):=by
   rw[eM,gc P];rfl
  have W:d=(c.rows.getD j (.bx "" 0)).nf ((j:Nat)+1:Int):=by
   unfold CH.tO at B;rw[fT,hU P]at B;exact(e5 B).symm
  subst W;have N:=bO _ (fw f);have hp:=QZ S j _ f;have V:(c.rows.take (j+1)).foldl (gD w) []=gD w ((c.rows.take j).foldl (gD w) []) (c.rows.getD j (.bx "" 0)):=by
   rw[hZ,f,hY];rfl
  have Y:=FH (w:=w) (c.rows.take j) [];rw[hJ]at Y;have hlen:((c.rows.take j).foldl (gD w) []).length<=1000000:=by
   have:([]:EU).length=0:=rfl;lia
  have i:∀p∈(c.rows.take j).foldl (gD w) [],p.length<=1000000:=λp hp=>by
   have:=Rj (w:=w) (c.rows.take j) [] 0 (λq f=>by(cases f)) p hp;rw[hJ]at this;lia
  have O:=Ri (w:=w) (c.rows.take j) (-1) [] (λz=>absurd rfl z);dsimp only;rw[V];generalize c.rows.getD j (.bx "" 0)=q at N hp ⊢;generalize (c.rows.take j).foldl (gD w) []=st at hlen i O ⊢;generalize (c.rows.take j).foldl rv (-1)=mb at hp O;have r:=AO N;have Z:q.cn.j6=true:=uv N;refine aM (kB (av (ds:=[.int ((j:Nat)+1:Int),.int q.bl,.str q.word,q.cn]) (aq (E.ll 3)) (ak (aL E.iT (E.gg 0))) fV) (ak (cT E.fq (E.gg 1))) rfl).1 (λz=>?_) (λz=>?_)
  .cases q with
   | bx n k=>exact nomatch (r.symm.trans z)
   | io n v d=>exact nomatch (r.symm.trans z)
   | wy n v=>exact nomatch (r.symm.trans z)
   | md n k x s y=>
    refine Aj (uo (E.ll 2).1 rfl) rfl rfl (g6 (tl:=[]) dX (fc _)) rfl rfl (by rw[d4];exact hlen) (aj (aj ?_));show ∃o,_=[_,_,some (T.lst ((st++[[]]).map tT)),o];rw[fx];exact#[_,rfl]
  .refine aM (b5 (av (ds:=[.int ((j:Nat)+1:Int),.int q.bl,.str q.word,q.cn]) (aq (E.ll 3)) (ak (aL E.iT (E.gg 0))) fV) (aq (E.ll 1))).1 (λy=>?_) (λy=>aj (aj (aj ?_)))
   .have y:q.word=w:=ed y;cases q with
    | bx n k=>exact absurd (show("box":Str)=w from y) λe=>a.1 e.symm
    | md n k x s u=>exact nomatch (r.symm.trans z)
    | wy n v=>exact absurd (show("on":Str)=w from y) λe=>a.2 e.symm
    | io n v d=>
     have y:v=w:=y;have h0:0<st.length:=O hp.2.1;have I:NK (st.map tT).length (-1)=some (st.length-1):=by
      rw[d4];exact AG h0
     have R:(st.map tT)[st.length-1]? = some (tT (st.getD (st.length-1) [])):=by
      rw[fT,eM,gc (show st.length-1<st.length by lia)];rfl
     have H:T.Ah [.ix (st.length-1)] (tT (st.getD (st.length-1) []++[d])) (.lst (st.map tT))=.lst ((st.map tT).set (st.length-1) (tT (st.getD (st.length-1) []++[d]))):=by
      show(match (st.map tT)[st.length-1]? with|some k=>_|none=>_)=_;rw[R];rfl
     have L:T.lst ((st.getD (st.length-1) []).map T.sh++[T.sh d])=tT (st.getD (st.length-1) []++[d]):=by
      unfold tT;rw[fx];rfl
     have m:T.tM [.ix (st.length-1)] (.lst (st.map tT))=some (tT (st.getD (st.length-1) [])):=by
      show((st.map tT)[st.length-1]?).bind (λx=>some x.core)=_;rw[R];rfl
     refine Aj (p:=[.ix (st.length-1)]) (Qn (uo (E.ll 2).1 rfl) rfl rfl (ak (cI ai)) I) rfl m (aG (av (ds:=[.int ((j:Nat)+1:Int),.int (n+1:Nat),.str v,d]) (aq (E.ll 3)) (ak (aL E.gB (E.gg 2))) vt) Z) rfl m (by rw[d4];exact i _ (ql [] h0)) (aj (aj (aj ?_)));have:gD w st (.io n v d)=st.set (st.length-1) (st.getD (st.length-1) []++[d]):=di y;rw[this,List.map_set,<- H,<- L];exact#[_,rfl]
   .have y:¬ q.word=w:=eP y;have:gD w st q=st:=by
     cases q with
     | bx n k=>rfl
     | md n k x s u=>exact nomatch (r.symm.trans z)
     | wy n v=>rfl
     | io n v d=>exact cq y
    rw[this];exact#[_,rfl]
 case fin=>
  rintro δ ⟨o,rfl⟩;have e:(c.rows.take c.tO.length).foldl (gD w) []=c.dl b:=by
   rw[CH.tO,d4,gx,hS,t]
  rw[e];have K:∀l∈c.dl b,D.bP l=true:=λl A=>gG λd hd=>by
   cases b with
   | true=>exact FI (h.is l A d hd)
   | false=>exact FI (h.os l A d hd)
  have J:(c.dl b).length<=sizeLine:=by
   have:=FH (w:=w) c.rows [];rw[t]at this;have e0:([]:EU).length=0:=rfl;rw[fA];lia
  refine aI (aE (iZ (p:=λ_=>true) (g:=λd=>.sh (.tup (Lk d))) (bM .nil Wp) E.g.calm (cQ (f9 (d:=.lst ((c.dl b).map .lst)) (vM (E.ll 2).1) (Wy _))) (.inr rfl) (λC s0 H0 f0 b' d hd=>?blk) (by rw[d4];exact J)) (t2:=.lst (((c.dl b).map L3.D.tup).map T.sh)) ?eq) rfl
  case blk=>
   obtain⟨l,A,rfl⟩:=ew.1 hd;exact#[rfl,λ_=>ku (by exact E.qN) (jm 0) (K l A) kD]
  case eq=>
   rw[fG,eI,eI];rfl
theorem MF{b:Bx}(E:lI kO 39 0 X CL) :
  k9 X CL b kO:=by
 intro c h;dsimp only [kO]at h ⊢;have h:N3 c:=h;have bO:=nK h;have r:=h.rl;refine aA E.g (E.ll 1) (g6 dX (fc _)) ?_;refine aA E.g (E.ll 2) (cI ai) ?_;refine iG E.g (E.ll 3) (λj δ=>∃o,δ=[some (.sh (.lst c.tO)),some (.lst (((c.rows.take j).foldl gW ([],-1)).1.map T.sh)),some (.sh (.int ((c.rows.take j).foldl gW ([],-1)).2)),o]) (cQ (v_ (E.ll 0).1)) #[_,rfl] (by rintro j δ ⟨_,rfl⟩;exact eE rfl) ?turn ?fin
 case turn=>
  rintro j d δ f ⟨o,rfl⟩;have m:j<c.rows.length:=by
   have:=(gz.1 f).1
   rwa [CH.tO,d4,gx]at this
  have p:c.rows[j]? = some (c.rows.getD j (.bx "" 0)):=by
   rw[eM,gc m];rfl
  have A:d=(c.rows.getD j (.bx "" 0)).nf ((j:Nat)+1:Int):=by
   unfold CH.tO at f;rw[fT,hU m]at f;exact(e5 f).symm
  subst A;have i:=bO _ (fw p);have t:(c.rows.take (j+1)).foldl gW ([],-1)=gW ((c.rows.take j).foldl gW ([],-1)) (c.rows.getD j (.bx "" 0)):=by
   rw[hZ,p,hY];rfl
  have l:=FJ (c.rows.take j) ([],-1);rw[hJ]at l;have hlen:((c.rows.take j).foldl gW ([],-1)).1.length<=1000000:=by
   have l:((c.rows.take j).foldl gW ([],-1)).1.length<=0+min j c.rows.length:=l;lia
  dsimp only;rw[t];generalize c.rows.getD j (.bx "" 0)=q at i ⊢;generalize (c.rows.take j).foldl gW ([],-1)=st at hlen ⊢;obtain⟨ws,mo⟩:=st;have a:=AO i;have B:q.cn.j6=true:=uv i;refine aM (kB (av (ds:=[.int ((j:Nat)+1:Int),.int q.bl,.str q.word,q.cn]) (aq (E.ll 3)) (ak (aL E.iT (E.gg 0))) fV) (ak (cT E.fq (E.gg 1))) rfl).1 (λz=>?_) (λz=>?_)
  .cases q with
   | bx n k=>exact nomatch (a.symm.trans z)
   | io n v d=>exact nomatch (a.symm.trans z)
   | wy n v=>exact nomatch (a.symm.trans z)
   | md n k x s y=>exact Zk E.g (E.ll 2) rfl ai (aj (aj #[_,rfl]))
  .refine aM (b5 (av (ds:=[.int ((j:Nat)+1:Int),.int q.bl,.str q.word,q.cn]) (aq (E.ll 3)) (ak (aL E.iT (E.gg 0))) fV) au).1 (λy=>?_) (λy=>aj (aj (aj ?_)))
   .have y:q.word="on":=ed y;cases q with
    | bx n k=>exact absurd y (show ¬ ("box":Str)="on" by decide +kernel)
    | md n k x s u=>exact nomatch (a.symm.trans z)
    | io n v d=>
     have y:v="on":=y;have:=i.2.1;rw[y]at this;exact absurd this Wp
    | wy n v=>
     refine p6 (E.ll 1).1 rfl (Qd (ds:=[.int mo]) (xU:=[.str v.sg,.tup v.qs,.tup v.ds,.int v.tg,.str v.md]) (cW (ay (v_ (E.ll 2).1) bV) aV) (aG (av (ds:=[.int ((j:Nat)+1:Int),.int (n+1:Nat),.str "on",(RW.wy n v).cn]) (aq (E.ll 3)) (ak (aL E.gB (E.gg 2))) vt) B) (hq _ _) aV) rfl (by rw[d4];exact hlen) (aj (aj (aj ?_)));show ∃o,_=[_,some (T.lst ((ws++[L3.D.tup [.int mo,.str v.sg,.tup v.qs,.tup v.ds,.int v.tg,.str v.md]]).map T.sh)),_,o];rw[fx];exact#[_,rfl]
   .have y:¬ q.word="on":=eP y;have:gW (ws,mo) q=(ws,mo):=by
     cases q with
     | bx n k=>rfl
     | md n k x s u=>exact nomatch (a.symm.trans z)
     | wy n v=>exact absurd rfl y
     | io n v d=>rfl
    rw[this];exact#[_,rfl]
 case fin=>
  rintro δ ⟨o,rfl⟩;have e:((c.rows.take c.tO.length).foldl gW ([],-1)).1=c.ws.map WY.d:=by
   rw[CH.tO,d4,gx,hS,YX h.ws λw hw=>(h.wn w hw).2]
  rw[e];exact aI (vM (E.ll 1).1) rfl
theorem Xr{b:Bx}(E:lI qK 40 0 X CL) :
  k9 X CL b qK:=by
 rintro⟨ks,es,ss,m⟩ h;obtain⟨c,h0,h1,hlen⟩:=h;apply aA E.g (E.ll 2) (g6 dX (fc _));apply aA E.g (E.ll 3) (aG (aF (b6 E.dZ E.bW (aq (E.ll 0)) cX) (aq (E.ll 1)) (mG h0 h1)) rfl);have hm:=c.at h0 h1;apply Ie E.g (λn δ=>∃(k:Int) (l:BN),δ=[some _,some _,some (.lst ((l.map .int).map T.sh)),some (.sh (.int k))] /\ -1<=k/\k<n/\k<es.length/\l++vD n es k=dM es m/\l.length+n<=es.length+1) (es.length+1)
  #[ _,[],rfl,hm.1,Wl,Wl,rfl,WE]
 rintro n δ ⟨k,l,rfl,k0,k1,k2,k3,f⟩;refine#[_,_,(g5 (aq (E.ll 3)) (ak (cI ai))).1,λhp=>?_,λhp=>?_]
 .have a:=by simpa using hp
  have d:=c.at Wl k2;cases n with
  | zero=>lia
  | succ n=>
   apply p6 (E.ll 2).1 rfl (v_ (E.ll 3).1) rfl WJ;apply aA E.g (E.ll 3) (aG (aF (b6 E.dZ E.bW (aq (E.ll 0)) cX) (aq (E.ll 3)) (mG Wl k2)) rfl);refine aj #[n,o1 _,_,l++[k],?_,d.1,Wl,Wl,?_,WJ]
   .simp
   .rw[<- k3,vD,cq a,eB];rfl
 .have a:=by simpa using hp
  subst a;have e:l=dM es m:=by
   rw[<- k3];cases n with
   | zero=>rw[vD,e6]
   | succ n=>rw[vD,di rfl,e6]
  subst e;exact aI (vM (E.ll 2).1) rfl
def Xs{b:Bx}(E:lI qL 41 1 X CL) :
  k9 X CL b qL:=by
 rintro⟨ks,es,ss,m⟩ h;have a:((dM es m).map L3.D.int).length=(dM es m).length:=by simp
 exact aI (aX a E.b7 (bZ (c_ (ks,es,ss,m) (E.c 40) (E.gg 1) (ah (aq (E.ll 0)) (ah (aq (E.ll 1)) ao)) h (sR _))) (E.gg 0)) rfl
theorem pC{b:Bx}(E:lI ck 42 2 X CL) :
  k9 X CL b ck:=by
 rintro⟨ks,es,ss⟩ h;dsimp only [ck]at h ⊢;obtain⟨hp,h1,u⟩:=h;have l:=hp.1;have e0:es.getD (0:Int).toNat 0=-1:=by
  have:=l.at (k:=0) Wl Wl;lia
 have c0:dM es ((0:Nat):Int)=[]:=(vx l Wl).2;refine aM (g5 (i:=-1) (aF (b6 E.dZ E.bW (aq (E.ll 0)) cX) ai ((mG Wl Wl).trans (by rw[e0]))) (ak (cI ai))).1 (λa=>absurd a WA) (λ_=>aj ?_);refine iG E.g (E.ll 1) (λj δ=>∃p o,(∀m:Nat,m<j+1->(dM es m).length<=12)/\δ=[some (.sh (kF ks es ss)),p,o])
  (KN E.qM ai (ak (aX (d4 ..) E.b7 (b6 E.dZ E.bW (aq (E.ll 0)) cX) (E.gg 1))) Wl (E.gg 0)) #[_,_,λm hm=>by rw[show m=0 by lia,c0];exact fc _,rfl] (by rintro j δ ⟨_,_,_,rfl⟩;exact eE rfl) ?turn ?fin
 case turn=>
  rintro j d δ s ⟨p,o,n,rfl⟩;obtain⟨rfl,f⟩:=uV s;have f:j+1<es.length:=by simp at f;lia
  have t:(dM es (j:Int)).length<=12:=n j Wl;have q:(1+(j:Int))-1=(j:Int):=by lia
  refine aA E.g (E.ll 2) (aE (jH (ds:=[.int (j:Int)]) (xU:=(dM es (j:Int)).map .int) (bZ (ds:=[.int (j:Int)]) (aE (g6 (bF (kU (aq (E.ll 1)) ai) dX) aV) (by rw[q];rfl))) (bZ (aE (c_ (ks,es,ss,(j:Int)) (E.c 40) (E.gg 2) (ah (aq (E.ll 0)) (ah (Yl (ak (kU (aq (E.ll 1)) ai)) (congrArg L3.D.int q)) ao)) (by dsimp only [qK];exact#[l,Wl,Wl,Wl]) (oS _)) rfl)) rfl (kr _) (Nat.le_of_lt (cL WJ))) (t2:=.lst ((((j:Int)::dM es (j:Int)).map .int).map T.sh)) rfl) ?_;have hm:es.getD (1+(j:Int)).toNat 0∈(j:Int)::dM es (j:Int):=by
   have:=hp.2 j f;rw[show(1+(j:Int)).toNat=j+1 by lia];obtain z|z:=this
   .rw[z];exact d6
   .exact ee _ z
  refine aM (dY (fB (Vp (i:=es.getD (1+(j:Int)).toNat 0) (aF (b6 E.dZ E.bW (aq (E.ll 0)) cX) (aq (E.ll 1)) (mG Wl Wl)) (vL (E.ll 2).1) rfl rfl).1 (λ_=>gb (nV (ak (aE (c_ (ks,es,ss,1+(j:Int)) (E.c 41) (E.gg 3) (ah (aq (E.ll 0)) (ah (aq (E.ll 1)) ao)) (by dsimp only [qL];exact#[l,Wl,Wl,Wl]) rfl) (t2:=.sh (.int ((dM es (1+(j:Int))).length:Nat))) rfl)) (ak (aL E.Mm (E.gg 4)))).1))) (λa=>?_) (λa=>aj (aj #[_,_,λm r=>?_,rfl]))
  .rw[eD hm]at a;have a:12<((dM es (1+(j:Int))).length:Int):=ed a;refine aI fu ?_;unfold mT;have e:((j+1:Nat):Int)=1+(j:Int):=by lia
   rw[QB (x:=j+1) (gC.2 f) (eu (by rw[e];lia))]
  .rw[eD hm]at a;have a:¬ 12<((dM es (1+(j:Int))).length:Int):=eP a;by_cases e:m=j+1
   .rw[e,show((j+1:Nat):Int)=1+(j:Int) by lia];lia
   .exact n m Wl
 case fin=>
  rintro δ ⟨p,o,n,rfl⟩;have e:(d8 1 (((es.length:Nat):Int)-1).toNat).length=es.length-1:=by simp[d8]
  refine aI fu ?_;unfold mT;rw[fR.2 λm hm=>eD (n m ?_)];have:=gC.1 hm
  first
   | (rw[e];lia)
   | (simp[d8];lia)
theorem qP{b:Bx}(E:lI cM 43 0 X CL) :
  k9 X CL b cM:=by
 rintro⟨ks,es,ss⟩ h;dsimp [cM]at h ⊢;apply aA E.g (E.ll 1) Il;refine iG E.g (E.ll 2) (λj δ=>∃f c a,δ=[some _,some (.iO (Qz (adds (es.take j)))),f,c,a])
  (cQ (uY E.dZ E.bW (v_ (E.ll 0).1) cX)) #[_,_,_,rfl] (by rintro j δ ⟨_,_,_,rfl⟩;exact eE rfl) ?turn ?fin
 case turn=>
  rintro j d δ m ⟨f,c,a,rfl⟩;obtain⟨x,rfl,_,_,t,_,n⟩:=vh m;have r:=(rQ (es.take j) []).1;have o:(Qz (adds (es.take j))).length<=1000000:=by unfold Qz adds;rw[d4];simp at r;lia
  refine YI (.inl x) E.u (E.ll 1).1 fu (aq (E.ll 2)) rfl o (aj ?_);rw[Wj,<- LN,<- n];exact#[_,_,_,rfl]
 case fin=>
 rintro δ ⟨f,c,a,rfl⟩;rw[d4,hS];have p:∀x,decide (x∈adds es)=decide (x∈es):=λx=>nv.2 (((rQ es []).2 x).trans WE);refine rJ E.g (p9 E.g.nd E.g.calm (E.ll 3) (E.ll 4)) (λj δ=>∃f c a,rR (rA ks es) (List.range ks.length) j/\δ=[some _,some _,f,c,a])
  (mH Str.empty E.iN (uY E.dZ E.i7 (v_ (E.ll 0).1) oR) (E.gg 0)) #[_,_,_,.zero,rfl] (λj δ ⟨_,_,_,_,e⟩=>by subst e;intro i hi;simp at hi;obtain rfl|rfl:=hi<;>exact eE rfl) ?Tf ?fin2
 case Tf=>
  rintro j d δ m ⟨f,c,a,q,rfl⟩;obtain⟨i,k,rfl⟩:∃i,(List.range _)[j]? = some i/\_=d:=by rw[fT]at m;exact hW.1 m
  have s:=fw k;refine#[_,rfl,?_];refine aM (dY (fB (p8 (l:=AF) (aq (E.ll 4)) (ak (cT E.fq (E.gg 1))) rfl rfl).1 (λ_=>gb (PU (ak (b5 (aq (E.ll 4)) au).2) (ak (aE (YA _ E.u (aq (E.ll 3)) (vE (E.ll 1).1 rfl (by rw[T.d7])) rfl) (congrArg (λz=>T.sh _) ((Wk _ _).trans (p _))))) rfl rfl rfl).1))) (λhp=>?_) (λhp=>aj (aj #[_,_,_,q.next k ?_,rfl]))
  .apply aI fu;unfold LQ;rw[QB s ?_];unfold rA;generalize decide (ks.getD i _∈AF)=b1 at hp ⊢;generalize decide (ks.getD i _="leaf")=b2 at hp ⊢;generalize decide ((i:Int)∈es)=b3 at hp ⊢
   revert hp
   cases b1<;>cases b2<;>cases b3<;>first|(intro _;rfl)|(intro hp;simp at hp)
  .unfold rA;generalize decide (ks.getD i _∈AF)=b1 at hp ⊢;generalize decide (ks.getD i _="leaf")=b2 at hp ⊢;generalize decide ((i:Int)∈es)=b3 at hp ⊢
   revert hp
   cases b1<;>cases b2<;>cases b3<;>first|(intro _;rfl)|(intro hp;simp at hp)
 case fin2=>
  rintro δ ⟨f,c,a,q,rfl⟩;apply aI fu;unfold LQ;rw[rR.all (by simpa using q)]
def Gw{b:Bx}(E:lI jB 44 0 X CL) :
  k9 X CL b jB:=by
 rintro⟨i,ds⟩ h;dsimp only [jB]at h ⊢;exact aI (P7 HG HF ai (aq (E.ll 0)) (ak (aX rfl E.b7 (aq (E.ll 1)) (E.gg 0))) (by with_unfolding_all rfl)).2 rfl
theorem pD{b:Bx}(E:lI cu 45 1 X CL) :
  k9 X CL b cu:=by
 rintro⟨ks,es,ss⟩ h;dsimp [cu]at h ⊢;refine rJ E.g (p9 E.g.nd E.g.calm (E.ll 1) (E.ll 2)) (λj δ=>∃m l,rR (YG ks es ss) (List.range ss.length) j/\δ=[some _,m,l])
  (mH 0 E.iN (uY E.dZ E.jX (v_ (E.ll 0).1) sV) (E.gg 0)) #[_,_,.zero,rfl] (λj δ ⟨_,_,_,e⟩=>by subst e;intro i hi;simp at hi;obtain rfl|rfl:=hi<;>exact eE rfl) ?turn ?fin
 case turn=>
  rintro j d δ o ⟨m,l,f,rfl⟩;obtain⟨i,a,rfl⟩:∃i,(List.range _)[j]? = some i/\_=d:=by rw[fT]at o;exact hW.1 o
  have p:=fw a;have u:=gC.1 p;refine#[_,rfl,?_];have t:mw (ks.map L3.D.str) i=some _:=(zY Str.empty Wl Wl).trans (by rw[i1]);have bad:YG ks es ss i=false->(T.sh _)=T.sh (.bl (Fx ks es ss)):=λe=>by
   unfold Fx;rw[QB p e]
  refine aM (uO (aF (b6 E.dZ E.i7 (aq (E.ll 0)) oR) (aq (E.ll 1)) t) au).1 (λhp=>?_) (λhp=>?_)
  .have e1:¬ ks.getD i Str.empty="one":=by simpa using hp
   refine aM (g5 (aq (E.ll 2)) (ak (cI ai))).1 (λhp=>?_) (λhp=>aj (aj (aj #[_,_,f.next a ?_,rfl])))
   .refine aI fu (bad ?_);unfold YG;rw[cq e1];simpa using hp
   .unfold YG;rw[cq e1];simpa using hp
  .have e1:ks.getD i Str.empty="one":=by simpa using hp
   by_cases e2:xG (ss.getD i 0) es.length=true
   .have k:=e2;unfold xG at k;rw[et]at k;have p0:=ed k.1;have r:=ed k.2;have n:xG (ss.getD i 0) (es.map L3.D.int).length=true:=by rw[d4];exact e2
    refine aM (dY (fB (cj (cA (aE (c_ (ss.getD i 0,es.map _) (E.c 44) (E.gg 1) (ah (aq (E.ll 2)) (ah (b6 E.dZ E.bW (aq (E.ll 0)) cX) ao)) trivial rfl) (congrArg (λz=>T.sh _) n)))) (λ_=>gb (g5 (aF (b6 E.dZ E.bW (aq (E.ll 0)) cX) (aq (E.ll 2)) (mG p0 r)) (aq (E.ll 1))).1))) (λhp=>?_) (λhp=>aj (aj (aj #[_,_,f.next a ?_,rfl])))
    .refine aI fu (bad ?_);unfold YG;rw[di e1,e2];simpa using hp
    .unfold YG;rw[di e1,e2];simpa using hp
   .have e2:xG (ss.getD i 0) es.length=false:=by simpa using e2
    have n:xG (ss.getD i 0) (es.map L3.D.int).length=false:=by rw[d4];exact e2
    refine aM (dY (fB (q:=true) (cj (cA (aE (c_ (ss.getD i 0,es.map _) (E.c 44) (E.gg 1) (ah (aq (E.ll 2)) (ah (b6 E.dZ E.bW (aq (E.ll 0)) cX) ao)) trivial rfl) (congrArg (λz=>T.sh _) n)))) (λs=>by cases s))) (λhp=>?_) (λhp=>by cases hp);refine aI fu (bad ?_);unfold YG;rw[di e1,e2];rfl
 case fin=>
  rintro δ ⟨m,l,f,rfl⟩;apply aI fu;unfold Fx;rw[rR.all (by simpa using f)]
theorem tU{b:Bx}(E:lI eX 46 3 X CL) :
  k9 X CL b eX:=by
 rintro⟨ks,es,ss,nm⟩ h;dsimp only [eX]at h ⊢;obtain⟨⟨hp,a⟩,kl,sl,d⟩:=h;refine aA E.g (E.ll 2) (aX (n:=es.length) ((d4 ..).trans kl) E.b7 (b6 E.dZ E.i7 (aq (E.ll 0)) oR) (E.gg 0)) ?_;refine aM (dY (fB (aU (aq (E.ll 2)) ai).1 (λ_=>fB (g5 (ak (aX (n:=es.length) (d4 ..) E.b7 (b6 E.dZ E.bW (aq (E.ll 0)) cX) (E.gg 0))) (aq (E.ll 2))).1 (λ_=>fB (g5 (ak (aX (n:=es.length) ((d4 ..).trans sl) E.b7 (b6 E.dZ E.jX (aq (E.ll 0)) sV) (E.gg 0))) (aq (E.ll 2))).1 (λ_=>gb (g5 (ak (aX (n:=es.length) d E.b7 (aq (E.ll 1)) (E.gg 0))) (aq (E.ll 2))).1))))) (λz=>?_) (λz=>aj ?_)
 .have z:es.length=0:=by simpa using z
  refine aI fu ?_;unfold F3;rw[eu (show ¬ 0<es.length by lia)];rfl
 have z:¬ es.length=0:=by simpa using z
 have e:F3 ks es ss=(mT es&&(LQ ks es&&Fx ks es ss)):=by
  unfold F3;rw[eD (show 0<es.length by lia),hG]
 rw[e];exact aI (gi (aE (c_ (ks,es,ss) (E.c 42) (E.gg 1) (ah (aq (E.ll 0)) ao) (by dsimp only [ck];exact#[hp,Wl,a]) rfl) (t2:=.sh (.bl (mT es))) rfl) (λ_=>gi (aE (c_ (ks,es,ss) (E.c 43) (E.gg 2) (ah (aq (E.ll 0)) ao) (by dsimp only [cM];lia) rfl) (t2:=.sh (.bl (LQ ks es))) rfl) (λ_=>gf (aE (c_ (ks,es,ss) (E.c 45) (E.gg 3) (ah (aq (E.ll 0)) ao) (by dsimp only [cu];exact#[kl,sl,a]) rfl) (t2:=.sh (.bl (Fx ks es ss))) rfl)))) rfl
theorem qQ{b:Bx}(E:lI cO 47 1 X CL) :
  k9 X CL b cO:=by
 intro l h;dsimp only [cO]at h ⊢;obtain⟨h1,k⟩:=h;refine iG E.g (E.ll 1) (λj δ=>∃o,rR aO l j/\δ=[some (.sh (.lst (l.map .str))),o]) (cQ (v_ (E.ll 0).1)) #[_,.zero,rfl] (by rintro j δ ⟨_,_,rfl⟩;exact eE rfl) ?turn ?fin
 case turn=>
  rintro j d δ i ⟨o,e,rfl⟩;obtain⟨x,a,rfl⟩:∃x,l[j]? = some x/\L3.D.str x=d:=by rw[fT]at i;exact hW.1 i
  have f:x∈l:=fw a;refine aM (cj (cA (aE (c_ x (E.c 21) (E.gg 0) (ah (aq (E.ll 1)) ao) (Nat.le_of_lt (cL (h1 x f))) rfl) (t2:=.sh (.bl (aO x))) rfl))) (λhp=>?_) (λhp=>aj (aj #[_,e.next a (by simpa using hp),rfl]));refine aI fu ?_;unfold mO;rw[QB f (by simpa using hp)];rfl
 case fin=>
  rintro δ ⟨o,e,rfl⟩;rw[d4]at e;refine aI (aE (aU (ak (Fe E.g E.b7 E.MO (aq (E.ll 0)) k (E.gg 1) (E.gg 2))) (ak (aX (d4 ..) E.b7 (aq (E.ll 0)) (E.gg 1)))).2 (t2:=.sh (.bl (mO l))) (congrArg (λz=>T.sh (.bl z)) ?_)) rfl;unfold mO;rw[e.all,hG];refine nv.2 ?_;rw[<- Zl];lia
def Bl{b:Bx}(E:lI gR 48 0 X CL) :
  k9 X CL b gR:=by
 intro i h;dsimp only [gR]at h ⊢;exact aI (P7 HF HF (ak (cI (ak (uN ai ai #[WA,WA,WA])))) (aq (E.ll 0)) (ak (uN ai ai #[WA,WA,WA])) (by with_unfolding_all rfl)).2 rfl
theorem qR{b:Bx}(E:lI dN 49 2 X CL) :
  k9 X CL b dN:=by
 intro l h;dsimp only [dN]at h ⊢;obtain⟨h1,n⟩:=h;refine iG E.g (E.ll 1) (λj δ=>∃o,rR (λq:Str×Int=>Wd q.2) l j/\δ=[some (.sh (.lst (l.map YF))),o]) (cQ (v_ (E.ll 0).1)) #[_,.zero,rfl] (by rintro j δ ⟨_,_,rfl⟩;exact eE rfl) ?turn ?fin
 case turn=>
  rintro j d δ i ⟨o,e,rfl⟩;obtain⟨q,a,rfl⟩:∃q,l[j]? = some q/\YF q=d:=by rw[fT]at i;exact hW.1 i
  refine aM (cj (cA (aE (c_ q.2 (E.c 48) (E.gg 0) (ah (av (aq (E.ll 1)) ai dD) ao) trivial rfl) (t2:=.sh (.bl (Wd q.2))) rfl))) (λhp=>?_) (λhp=>aj (aj #[_,e.next a (by simpa using hp),rfl]));refine aI fu ?_;unfold CY;rw[QB (p:=λq:Str×Int=>Wd q.2) (List.mem_of_getElem? a) (by simpa using hp)];rfl
 case fin=>
  rintro δ ⟨o,e,rfl⟩;rw[d4]at e;have m:∀x∈l.map (·.1),x.length<=1000:=λx k=>by
   obtain⟨q,f,rfl⟩:=ew.1 k;exact h1 q f
  refine aI (aE (c_ (l.map (·.1)) (E.c 47) (E.gg 1) (ah (bZ (aE (iZ (p:=λ_=>true) (g:=λd=>T.sh (.str d.IH.toS)) (bM .nil Wp) E.g.calm (cQ (v_ (E.ll 0).1)) (.inr rfl) (λC s0 s f0 r d hd=>?blk) (Nat.le_of_lt (cL (by rw[List.length_map];lia)))) ?ceq)) ao) (by dsimp only [cO];exact#[m,by rw[List.length_map];exact n]) rfl) (t2:=.sh (.bl (mO (l.map (·.1))))) rfl) ?res
  case blk=>
   obtain⟨q,f,rfl⟩:=ew.1 hd;exact#[rfl,λ_=>aG (av (jm 0) ai cK) rfl]
  case ceq=>
   rw[fG,eI,eI,eI];rfl
  case res=>
   unfold CY;rw[e.all];rfl
def tV{b:Bx}(E:lI eY 50 1 X CL) :
  k9 X CL b eY:=by
 rintro⟨bs,nm,tr,is,os,ws,i,c⟩ h;dsimp only [eY]at h ⊢;exact aI (gi (HV (aU (av (aq (E.ll 1)) ai rfl) (ak (cI ai))).2 (λ_=>gf (aE (c_ (i,bs) (E.c 44) (E.gg 0) (ah (av (aq (E.ll 1)) ai rfl) (ah (b6 E.bL E.fX (aq (E.ll 0)) jK) ao)) trivial rfl) (t2:=.sh (.bl (xG i bs.length))) rfl))) (λ_=>gf (aE (c_ c (E.c 48) (E.gg 1) (ah (av (aq (E.ll 1)) ai rfl) ao) trivial rfl) (t2:=.sh (.bl (Wd c))) rfl))) rfl
def tW{b:Bx}(E:lI eZ 51 2 X CL) :
  k9 X CL b eZ:=by
 rintro⟨bs,nm,tr,is,os,ws,q⟩ h;dsimp only [eZ]at h ⊢;cases q with
 | put i a c=>
  refine aA E.g (E.ll 2) (aG (av (aq (E.ll 1)) ai cK) rfl) ?_;refine aM (b5 (aq (E.ll 2)) au).1 (λ_=>?_) (λhp=>absurd (eP hp) Wp);exact aI (gi (aE (c_ (i,bs) (E.c 44) (E.gg 0) (ah (av (aq (E.ll 1)) ai dD) (ah (b6 E.bL E.fX (aq (E.ll 0)) jK) ao)) trivial rfl) (t2:=.sh (.bl (xG i bs.length))) rfl) (λ_=>gf (aE (c_ (bs,nm,tr,is,os,ws,a,c) (E.c 50) (E.gg 1) (ah (aq (E.ll 0)) (ah (av (aq (E.ll 1)) ai fV) ao)) trivial rfl) (t2:=.sh (.bl (Fw bs.length a c))) rfl))) rfl
 | say x a c=>
  have d:x.length<=1000:=h;refine aA E.g (E.ll 2) (aG (av (aq (E.ll 1)) ai cK) rfl) ?_;refine aM (b5 (aq (E.ll 2)) au).1 (λhp=>absurd (ed hp) Wp) (λ_=>aj ?_);refine aM (b5 (aq (E.ll 2)) au).1 (λ_=>?_) (λhp=>absurd (eP hp) Wp);exact aI (gi (aE (c_ x (E.c 21) (E.gg 2) (ah (av (aq (E.ll 1)) ai dD) ao) (hH (cL d)) rfl) (t2:=.sh (.bl (aO x))) rfl) (λ_=>gf (aE (c_ (bs,nm,tr,is,os,ws,a,c) (E.c 50) (E.gg 1) (ah (aq (E.ll 0)) (ah (av (aq (E.ll 1)) ai fV) ao)) trivial rfl) (t2:=.sh (.bl (Fw bs.length a c))) rfl))) rfl
 | call x=>
  have d:x.length<=1000:=h;refine aA E.g (E.ll 2) (aG (av (aq (E.ll 1)) ai cK) rfl) ?_;refine aM (b5 (aq (E.ll 2)) au).1 (λhp=>absurd (ed hp) Wp) (λ_=>aj ?_);refine aM (b5 (aq (E.ll 2)) au).1 (λhp=>absurd (ed hp) Wp) (λ_=>aj ?_);exact aI (aE (gi (b5 (aq (E.ll 2)) au).2 (λ_=>gf (aE (c_ x (E.c 21) (E.gg 2) (ah (av (aq (E.ll 1)) ai dD) ao) (hH (cL d)) rfl) (t2:=.sh (.bl (aO x))) rfl))) (t2:=.sh (.bl (aO x))) (congrArg (λz=>T.sh (.bl z)) (by rw[eD rfl];rfl))) rfl
theorem qS{b:Bx}(E:lI cP 52 3 X CL) :
  k9 X CL b cP:=by
 rintro⟨bs,nm,tr,is,os,ws⟩ h;dsimp [cP]at h ⊢;obtain⟨h1,s,u,t,r⟩:=h;apply aA E.g (E.ll 1) (aX rfl E.b7 (b6 E.bL E.cF (aq (E.ll 0)) d9) (E.gg 0));refine aM (dY (fB (g5 (ak (aX ((d4 ..).trans h1) E.b7 (b6 E.bL E.m9 (aq (E.ll 0)) yO) (E.gg 0))) (aq (E.ll 1))).1 (λ_=>gb (g5 (ak (aX ((d4 ..).trans s) E.b7 (b6 E.bL E.lF (aq (E.ll 0)) vJ) (E.gg 0))) (aq (E.ll 1))).1))) (λhp=>?_) (λ_=>aj ?_)
 .simp at hp
 have im:=b9 (f:=λl:List Iz=>L3.D.tup (l.map Eo)) (b9 (λq=>by cases q<;>rfl));refine iG E.g (E.ll 2) (λj δ=>∃k a,δ=[some _,some _,k,a])
  (cQ (Ii (aE (jH (xU:=(ws.map (·.dl)).map _) (bZ (aE (jH (b6 E.bL E.m9 (aq (E.ll 0)) yO) (b6 E.bL E.lF (aq (E.ll 0)) vJ) (im is) (im os) (hH (cL WJ))) (by rw[<- fx]))) (bZ (aE (iZ (p:=λ_=>true) (g:=λd=>T.sh (Kk d)) (bM .nil Wp) E.g.calm (cQ (uY E.bL E.lG (v_ (E.ll 0).1) vK)) (.inr rfl) (λC s0 x f0 v d hd=>?blk) (hH (cL (by rw[d4];lia)))) ?ceq)) (im _) (im _) (hH (cL WJ))) (by rw[<- fx])))) #[_,_,rfl] (by rintro j δ ⟨_,_,rfl⟩;exact eE rfl) ?turn ?fin
 case blk=>
  obtain⟨w,hw,rfl⟩:=ew.1 hd;exact#[rfl,λ_=>aG (av (jm 0) (ak (aL (E.Xq) kD)) vt) (b9 (λq=>by cases q<;>rfl) _)]
 case ceq=>
  rw[fG,eI,eI,eI];rfl
 case turn=>
  rintro j d δ o ⟨k,a,rfl⟩;obtain⟨l,n,rfl⟩:=ew.1 (fw o);have m:=r l n;refine iG E.g (E.ll 3) (λj δ=>∃a,δ=[some _,some _,some _,a]) (O9 (v_ (E.ll 2).1)) #[_,rfl] (by rintro j δ ⟨_,rfl⟩;exact eE rfl) ?Tf ?fin2
  case Tf=>
   rintro i d δ hi ⟨a,rfl⟩;obtain⟨q,e,rfl⟩:=ew.1 (fw hi);exact aM (cj (cA (aE (c_ (bs,nm,tr,is.map _,os.map _,ws.map Wi,q) (E.c 51) (E.gg 1) (ah (aq (E.ll 0)) (ah (aq (E.ll 3)) ao)) (m q e).1 rfl) (congrArg (λz=>T.sh _) (m q e).2)))) (λhp=>absurd hp WA) (λ_=>aj (aj #[_,rfl]))
  case fin2=>
   rintro δ ⟨a,rfl⟩;exact aj #[_,_,rfl]
 case fin=>
  rintro δ ⟨k,a,rfl⟩;exact aI fu rfl
def wJ{b:Bx}(E:lI fM 53 2 X CL) :
  k9 X CL b fM:=by
 rintro⟨bs,nm,tr,is,os,ws,q⟩ h;dsimp only [fM]at h ⊢;cases q with
 | i6 x m=>
  refine aA E.g (E.ll 2) (aG (av (aq (E.ll 1)) ai cK) rfl) ?_;refine aM (gH (l:=["open","shut"]) (aq (E.ll 2)) (eK rfl)).1 (λ_=>?_) (λhp=>absurd (show x∈(["open","shut"]:AT) from h) (eP hp));exact aI (aE (c_ (m,nm) (E.c 44) (E.gg 0) (ah (av (aq (E.ll 1)) ai dD) (ah (b6 E.bL E.cF (aq (E.ll 0)) d9) ao)) trivial rfl) rfl) rfl
 | num mk a1 c1 a2 c2=>
  refine aA E.g (E.ll 2) (aG (av (aq (E.ll 1)) ai cK) rfl) ?_;refine aM (gH (l:=["open","shut"]) (aq (E.ll 2)) (eK rfl)).1 (λhp=>absurd (ed hp) h) (λ_=>aj ?_);exact aI (gi (Ih (l:=["<","<=","=","!="]) (aq (E.ll 2)) (ak (cT E.uE (E.gg 1))) rfl rfl).2 (λ_=>gi (aE (c_ (bs,nm,tr,is,os,ws,a1,c1) (E.c 50) (E.gg 2) (ah (aq (E.ll 0)) (ah (av (aq (E.ll 1)) ai dD) ao)) trivial rfl) (t2:=.sh (.bl (Fw bs.length a1 c1))) rfl) (λ_=>gf (aE (c_ (bs,nm,tr,is,os,ws,a2,c2) (E.c 50) (E.gg 2) (ah (aq (E.ll 0)) (ah (av (aq (E.ll 1)) ai fV) ao)) trivial rfl) (t2:=.sh (.bl (Fw bs.length a2 c2))) rfl)))) rfl
def wK{b:Bx}(E:lI fN 54 3 X CL) :
  k9 X CL b fN:=by
 rintro⟨bs,nm,tr,is,os,ws,src,sg,al,dd,tg,md⟩ h;dsimp only [fN]at h ⊢;obtain⟨h1,⟨s,r⟩,p,n,m⟩:=h;refine aA E.g (E.ll 2) (aG (av (aq (E.ll 1)) (ak (aL E.S8 (E.gg 0))) (fY (j:=4) rfl)) rfl) ?_;refine aA E.g (E.ll 3) (aG (av (aq (E.ll 1)) (ak (aL E.RF (E.gg 1))) (fY (j:=5) rfl)) rfl) ?_;refine aM (dY (fB (cj (cA (aE (c_ (src,nm) (E.c 44) (E.gg 2) (ah (av (aq (E.ll 1)) (ak (aL E.wC (E.gg 3))) cK) (ah (b6 E.bL E.cF (aq (E.ll 0)) d9) ao)) trivial rfl) (t2:=.sh (.bl true)) (congrArg (λz=>T.sh (.bl z)) h1)))) (λ_=>fB (cj (cA (aE (c_ sg (E.c 21) (E.gg 4) (ah (av (aq (E.ll 1)) (ak (aL E.RE (E.gg 5))) dD) ao) (hH (cL s)) rfl) (t2:=.sh (.bl true)) (congrArg (λz=>T.sh (.bl z)) r)))) (λ_=>gb (p8 (l:=["new","near","far"]) (aq (E.ll 3)) (ak (cT E.Bg (E.gg 6))) rfl rfl).1)))) (λhp=>?_) (λ_=>aj ?_)
 .rw[eD p]at hp;exact absurd hp WA
 refine JE (λδ=>δ=[some (.sh (iR bs nm tr is os ws)),some (.sh (.tup [.int src,.str sg,.tup (al.map Wf),.tup dd,.int tg,.str md])),some (.sh (.int tg)),some (.sh (.str md)),none]) (λδ2 e2=>?_) (λk=>?_)
 .subst e2;refine iG E.g (E.ll 4) (λj δ=>∃o,δ=[some (.sh (iR bs nm tr is os ws)),some (.sh (.tup [.int src,.str sg,.tup (al.map Wf),.tup dd,.int tg,.str md])),some (.sh (.int tg)),some (.sh (.str md)),o])
   (O9 (aG (av (aq (E.ll 1)) (ak (aL E.Rl (E.gg 7))) fV) (Qy al))) #[_,rfl] (by rintro j δ ⟨_,rfl⟩;exact eE rfl) ?turn ?fin
  case turn=>
   rintro j d δ i ⟨o,rfl⟩;obtain⟨q,f,rfl⟩:=ew.1 (fw i);obtain⟨e,a⟩:=m q f;exact aM (cj (cA (aE (c_ (bs,nm,tr,is,os,ws,q) (E.c 53) (E.gg 8) (ah (aq (E.ll 0)) (ah (aq (E.ll 4)) ao)) e rfl) (t2:=.sh (.bl true)) (congrArg (λz=>T.sh (.bl z)) a)))) (λhp=>absurd hp WA) (λ_=>aj (aj #[_,rfl]))
  case fin=>
   rintro δ ⟨o,rfl⟩;exact aI fu rfl
 obtain⟨e1,e2⟩|⟨e1,e2⟩:=n
 .refine aM (aU (aq (E.ll 2)) (ak (cI ai))).1 (λ_=>?_) (λhp=>absurd e1 (eP hp));refine aM (uO (aq (E.ll 3)) au).1 (λhp=>?_) (λ_=>aj (aj (k _ rfl)));rw[eD e2]at hp;exact absurd hp WA
 .refine aM (aU (aq (E.ll 2)) (ak (cI ai))).1 (λhp=>absurd (ed hp) e1) (λ_=>?_);refine aM (cj (cA (aE (c_ (tg,nm) (E.c 44) (E.gg 2) (ah (aq (E.ll 2)) (ah (b6 E.bL E.cF (aq (E.ll 0)) d9) ao)) trivial rfl) (t2:=.sh (.bl true)) (congrArg (λz=>T.sh (.bl z)) e2)))) (λhp=>absurd hp WA) (λ_=>aj (aj (k _ rfl)))
theorem r9{b:Bx}(E:lI cY 55 4 X CL) :
  k9 X CL b cY:=by
 rintro⟨bs,nm,tr,is,os,ws⟩ h;dsimp [cY]at h ⊢;obtain⟨h1,p⟩:=h;apply aA E.g (E.ll 1) gZ;refine iG E.g (E.ll 2) (λj δ=>∃(l:Int) (o:Option T),(∀w∈ws.drop j,l<=w.src)/\δ=[some _,some (.sh (.int l)),o])
  (cQ (uY E.bL E.lG (v_ (E.ll 0).1) vK)) #[0,_,λw hw=>?_,rfl] (by rintro j δ ⟨_,_,_,rfl⟩;exact eE rfl) ?turn ?fin
 .have:=(h1 w (List.mem_of_mem_drop hw)).1;unfold xG at this;rw[et]at this;exact ed this.1
 case turn=>
  rintro j d δ f ⟨l,o,n,rfl⟩;obtain⟨w,hw,rfl⟩:∃w,ws[j]? = some w/\Wi w=d:=by rw[fT]at f;exact hW.1 f
  have k:=(gz.1 hw).1;have a:ws.drop j=w::ws.drop (j+1):=by rw[ue k,(gz.1 hw).2]
  have e:=fw hw;have m:=n w (a▸d6);refine aM (dY (fB (nU (av (aq (E.ll 2)) (ak (aL E.wC (E.gg 0))) cK) (aq (E.ll 1))).1 (λ_=>gb (cj (cA (aE (c_ (bs,nm,tr,is,os,ws.map Wi,w.src,w.sign,w.al,w.dl.map Eo,w.j2,w.mode) (E.c 54) (E.gg 1) (ah (aq (E.ll 0)) (ah (aq (E.ll 2)) ao)) (h1 w e) rfl) rfl)))))) (λhp=>?_) (λ_=>aj ?_)
  .rw[eu Wl]at hp;exact absurd hp WA
  refine aA E.g (E.ll 1) (aG (av (aq (E.ll 2)) (ak (aL E.wC (E.gg 0))) cK) rfl) (aj #[ _,_,λv hv=>?_,rfl]);have hp:=p.drop (i:=j);rw[a]at hp;exact(List.pairwise_cons.1 hp).1 v hv
 case fin=>
  rintro δ ⟨l,o,_,rfl⟩;exact aI fu rfl
theorem MG{b:Bx}(E:EX jC.N (gN jC.st) (cN jC.st) 56 5 (X.d0 (XE X W)) CL) :
  kE X W CL b jC:=by
 rintro⟨bs,nm,ks,es,ss,is,os,ws⟩ h a;dsimp only [jC,Ir]at h a ⊢;have h:xI bs nm ks es ss is os ws:=h;have e:(nm.map L3.D.str).length=nm.length:=d4 ..;have j:(bs.map YF).length=bs.length:=d4 ..;have a:(F3 ks es ss&&(mO nm&&CY bs))=false->dS b W (CL (if F3 ks es ss=false then "BadTree" else if mO nm=false then "BadName" else "BadBox")) none:=a;have hw:(nm.map L3.D.str).length=nm.length:=e;cases d:F3 ks es ss with
 | false=>
  refine aM (cj (cA (aE (c_ (ks,es,ss,nm.map L3.D.str) (E.c 46) (E.gg 0) (ah (b6 E.bL E.lH (aq (E.ll 0)) vI) (ah (b6 E.bL E.cF (aq (E.ll 0)) d9) ao)) #[#[h.pre,er h.l4 WA],h.kl,h.sl,e.trans h.nl] rfl) (t2:=.sh (.bl false)) (congrArg (λz=>T.sh (.bl z)) d)))) (λ_=>?_) (λhp=>absurd hp WA);rw[d]at a;exact Ae E.g.calm (E.gg 1) E.wF E.Ge (a rfl)
 | true=>
 refine aM (cj (cA (aE (c_ (ks,es,ss,nm.map L3.D.str) (E.c 46) (E.gg 0) (ah (b6 E.bL E.lH (aq (E.ll 0)) vI) (ah (b6 E.bL E.cF (aq (E.ll 0)) d9) ao)) #[#[h.pre,er h.l4 WA],h.kl,h.sl,e.trans h.nl] rfl) (t2:=.sh (.bl true)) (congrArg (λz=>T.sh (.bl z)) d)))) (λhp=>absurd hp WA) (λ_=>aj ?_);have i:nm.length<=1000:=by have:=h.nl;have:=h.l4;lia
 cases hm:mO nm with
 | false=>
  refine aM (cj (cA (aE (c_ nm (E.c 47) (E.gg 2) (ah (b6 E.bL E.cF (aq (E.ll 0)) d9) ao) #[h.n1,i] rfl) (t2:=.sh (.bl false)) (congrArg (λz=>T.sh (.bl z)) hm)))) (λ_=>?_) (λhp=>absurd hp WA);rw[d,hm]at a;exact Ae E.g.calm (E.gg 3) E.wG E.Gf (a rfl)
 | true=>
 refine aM (cj (cA (aE (c_ nm (E.c 47) (E.gg 2) (ah (b6 E.bL E.cF (aq (E.ll 0)) d9) ao) #[h.n1,i] rfl) (t2:=.sh (.bl true)) (congrArg (λz=>T.sh (.bl z)) hm)))) (λhp=>absurd hp WA) (λ_=>aj ?_);cases f:CY bs with
 | false=>
  refine aM (cj (cA (aE (c_ bs (E.c 49) (E.gg 4) (ah (b6 E.bL E.fX (aq (E.ll 0)) jK) ao) #[h.b1,h.b2] rfl) (t2:=.sh (.bl false)) (congrArg (λz=>T.sh (.bl z)) f)))) (λ_=>?_) (λhp=>absurd hp WA);rw[d,hm,f]at a;exact Ae E.g.calm (E.gg 5) E.zf E.Mp (a rfl)
 | true=>
 refine aM (cj (cA (aE (c_ bs (E.c 49) (E.gg 4) (ah (b6 E.bL E.fX (aq (E.ll 0)) jK) ao) #[h.b1,h.b2] rfl) (t2:=.sh (.bl true)) (congrArg (λz=>T.sh (.bl z)) f)))) (λhp=>absurd hp WA) (λ_=>aj ?_);refine aM (cj (cA (aE (c_ (bs.map YF,nm.map L3.D.str,kF ks es ss,is,os,ws) (E.c 52) (E.gg 6) (ah (aq (E.ll 0)) ao) (by dsimp only [cP];rw[e,j];exact#[h.il,h.ol,h.nl▸h.l4,h.wl,h.dd]) rfl) (t2:=.sh (.bl true)) rfl))) (λhp=>absurd hp WA) (λ_=>aj ?_);refine aM (cj (cA (aE (c_ (bs.map YF,nm.map L3.D.str,kF ks es ss,is.map λl=>L3.D.tup (l.map Eo),os.map λl=>L3.D.tup (l.map Eo),ws) (E.c 55) (E.gg 8) (ah (aq (E.ll 0)) ao) (by dsimp only [cY];rw[e,j];exact#[h.ww,h.wp]) rfl) (t2:=.sh (.bl true)) rfl))) (λhp=>absurd hp WA) (λ_=>aj ?_);exact aj #[rfl,rfl]
def Bm{b:Bx}(E:EX lE (gN gS) (cN gS) 57 0 X CL)(bs nm:BB)(tv:V)(is os ws:BB)(y:Addr)(h:D.bP bs=true/\D.bP nm=true/\D.bP is=true/\D.bP os=true/\D.bP ws=true) :
  cg X CL b (bJ gS) (Pr lE y "Chart" [.lst bs,.lst nm,.val tv,.lst is,.lst os,.lst ws]) {nx:=λδ=>δ[0]? = some (some (.pin y (.ins "Chart" (mL bs nm (.sh (.val tv)) is os ws)))),rt:=λ_ _=>False}:=by
 obtain⟨h1,e,d,c,a⟩:=h;refine k8 E.bL E.fX (E.ll 0).1 (iF E.ng (aq (E.ll 1)) h1 (E.gg 0) fF).m rfl (eE rfl) ?_;refine k8 E.bL E.cF (E.ll 0).1 (iF E.ng (aq (E.ll 2)) e (E.gg 0) fF).m rfl (eE rfl) ?_;refine k8 E.bL E.lH (E.ll 0).1 (v_ (E.ll 3).1).m rfl (eE rfl) ?_;refine k8 E.bL E.m9 (E.ll 0).1 (iF E.ng (aq (E.ll 4)) d (E.gg 0) fF).m rfl (eE rfl) ?_;exact k8 E.bL E.lF (E.ll 0).1 (iF E.ng (aq (E.ll 5)) c (E.gg 0) fF).m rfl (eE rfl) (k8 E.bL E.lG (E.ll 0).1 (iF E.ng (aq (E.ll 6)) a (E.gg 0) fF).m rfl (eE rfl) (aj rfl))
noncomputable def n9:dm lE ["self","boxes","names","tree","ins","outs","ways"] (aC gS):=qb
def DM{b:Bx}(E:EX m8 (gN iM) (cN iM) 57 0 X CL)(ks:AT)(es ss:BN)(y:Addr)(h:True) :
  cg X CL b (bJ iM) (Pr m8 y "Tree" [.lst (ks.map .str),.lst (es.map .int),.lst (ss.map .int)]) {nx:=λδ=>δ[0]? = some (some (.pin y (.ins "Tree" (qg ks es ss)))),rt:=λ_ _=>False}:=by
 have hi:D.bP (ks.map L3.D.str)=true:=b9 (λ_=>rfl) _;refine k8 E.dZ E.i7 (E.ll 0).1 (iF E.ng (aq (E.ll 1)) hi (E.gg 0) fF).m rfl (eE rfl) ?_;exact k8 E.dZ E.bW (E.ll 0).1 (iF E.ng (aq (E.ll 2)) (kr _) (E.gg 0) fF).m rfl (eE rfl) (k8 E.dZ E.jX (E.ll 0).1 (iF E.ng (aq (E.ll 3)) (kr _) (E.gg 0) fF).m rfl (eE rfl) (aj rfl))
noncomputable def qT:dm m8 ["self","kinds","elders","starts"] (aC iM):=qb
theorem Xu{b:Bx}(E:EX pA.N (gN pA.st) (cN pA.st) 59 9 (X.d0 (XE X W)) CL) :
  kE X W CL b pA:=by
 intro x h s;dsimp only [pA,Ir]at h s ⊢;obtain⟨I,hp⟩:=h;have I:x.length<=900000:=I;have hp:Uz x:=hp;have s:(rq "" (-1) (fO x)&&(W7 x&&(tP x).lk))=false->dS b W (CL (Er x).1) (Er x).2:=s;cases j:rq "" (-1) (fO x) with
 | false=>
  have e:Er x=(("BadRow",some [("row",.int (zb 1 "" (-1) (fO x)))]):Str×Option Bz):=di j;rw[j,e]at s;exact vA E.g (E.ll 1) (IF (E.c 20) (E.gg 0) (cB (t:=T.bad) (δ2:=[]) x (E.c 36) (E.gg 1) (ah (aq (E.ll 0)) ao) #[I,j] (s rfl)) jW (t:=T.bad) (δ2:=[])) jW
 | true=>
 have cl:(T.lst ((xJ 1 (fO x)).map dQ.t)).clean=true:=by
  rw[kh];exact yU _ λf _=>za f
 have fz:(T.lst ((xJ 1 (fO x)).map dQ.t)).d7=.lst ((rV x).map dQ.d):=by
  rw[T.d7];exact congrArg L3.D.lst (Rp _ λf _=>qz f)
 cases G:W7 x with
 | false=>
  have e:Er x=(("NoName",some [("row",.int (LW (rV x)))]):Str×Option Bz):=(cq (by rw[j];decide)).trans (di G);rw[j,G,e]at s;exact vA E.g (E.ll 1) (cB (δ2:=[]) (rV x) (E.c 20) (E.gg 0) (ah (d:=.lst ((rV x).map dQ.d)) (ak (f9 (c_ x (E.c 36).give (E.gg 1) (ah (aq (E.ll 0)) ao) #[I,j] cl) fz)) ao) #[Zg hp j,G] (s rfl)) jW
 | true=>
 obtain⟨⟨h,eb,L,_⟩,en⟩:=R3 hp j G;have e:Er x=((if F3 (tP x).ks (tP x).es (tP x).ss=false then "BadTree" else if mO (tP x).ns=false then "BadName" else "BadBox",none):Str×Option Bz):=(cq (by rw[j];decide)).trans (cq (by rw[G];decide));rw[j,G,e]at s;have en:T.lst (((rV x).map (dQ.n (Ep (rV x)) (C9 (rV x)))).map T.sh)=.lst ((tP x).tO.map T.sh):=by
  rw[<- eb,<- L,en]
 refine aA E.g (E.ll 1) (f9 (d:=.lst (tP x).tO) (aE (c_ (rV x) (E.c 20).give (E.gg 0) (ah (d:=.lst ((rV x).map dQ.d)) (ak (f9 (c_ x (E.c 36).give (E.gg 1) (ah (aq (E.ll 0)) ao) #[I,j] cl) fz)) ao) #[Zg hp j,G] (by show T.clean (T.lst _)=true;rw[en];exact bE (RT h))) en) (cC _)) ?_;show cg (X.d0 (XE X W)) CL b _ [some (.sh (.str x)),some (.sh (.lst (tP x).tO)),none,none,none,none,none] _;rw[hG,hG]at s;rw[hG,hG];clear cl fz e en L eb j G hp I;generalize tP x=c at h s ⊢;generalize x=tx;have bO:=nK h;have ae:=h.rl;have e1:c.es.length<=900:=er h.e1 WA;have hlen:c.tO.length<=sizeLine:=by
  rw[CH.tO,d4,gx,fA];lia
 have Z:c.tO=idx (λi r=>r.nf ((i:Nat)+1:Int)) c.rows:=rfl;have B:c.W6.length<=sizeLine:=er (List.length_filter_le _ _) hlen;refine E8 (p:=λd=>decide ((b8 d 2).toS∈bu)) (gg:=λd=>.sh d) E.g (E.ll 2) (bM .nil Wp) (cQ (v_ (E.ll 1).1)) (.inr rfl) (λC s0 O f0 M d hd=>?Gk) hlen ?wH (by exact eE rfl) (jh #[_,rfl])
 case Gk=>
  obtain⟨i,r,_,S,_,rfl⟩:=uw (F:=λi r=>r.nf ((i:Nat)+1:Int)) hd;exact#[(kB (av (jm 0) (ak (aL (by exact E.iT) kD)) fV) (ak (cT (by exact E.fq) kD)) rfl).1,λz=>v_ (Al 0)]
 case wH=>
 refine Qa (i:=2) (d:=.lst c.W6) rfl (cC _) ?_;show cg (X.d0 (XE X W)) CL b _ [some (.sh (.str tx)),some (.sh (.lst c.tO)),some (.sh (.lst c.W6)),none,none,none,none] _;refine E8 (p:=λ_=>true) (gg:=λd=>.sh (b8 d 2)) E.g (E.ll 3) (bM .nil Wp) (cQ (v_ (E.ll 2).1)) (.inr rfl) (λC s0 O f0 M d hd=>?Gm) B ?wI (by exact eE rfl) (jh #[_,rfl])
 case Gm=>
  obtain⟨i,n,k,x,z,rfl⟩:=qD h hd;exact#[rfl,λ_=>aG (av (jm 0) (ak (aL (by exact E.iT) kD)) fV) rfl]
 case wI=>
 have ek:T.lst ((c.W6.filter λ_=>true).map λd=>T.sh (b8 d 2))=.lst ((c.ks.map .str).map T.sh):=by
  rw[qB h (g':=λr=>.sh (.str r.word)) (λ_ _=>rfl),eI,<- h.kl];exact congrArg T.lst (yS (f:=λx=>T.sh (.str x)) c.ks)
 rw[ek];refine Qa (i:=3) (d:=.lst (c.ks.map .str)) rfl (cC _) ?_;refine aA E.g (E.ll 4) (f9 (d:=.lst (c.es.map .int)) (c_ c.es (E.c 37) (E.gg 2) (ah (d:=.lst ((xW c.es).map .int)) (bZ (aE (iZ (p:=λ_=>true) (g:=λd=>.sh (b8 d 1)) (bM .nil Wp) E.g.calm (cQ (v_ (E.ll 2).1)) (.inr rfl) (λC s0 O f0 M d hd=>?aco) B) (t2:=.lst (((xW c.es).map .int).map T.sh)) ?eq3)) ao) (by dsimp only [iL];exact#[h.pre,e1]) (bE (kr _))) (cC _)) ?afq
 case aco=>
  obtain⟨i,n,k,x,z,rfl⟩:=qD h hd;exact#[rfl,λ_=>aG (av (jm 0) (ak (aL (by exact E.jD) kD)) dD) rfl]
 case eq3=>
  rw[qB h (g':=λr=>.sh (.int r.bl)) (λ_ _=>rfl),xW,eI,eI];rfl
 case afq=>
 refine E8 (p:=λ_=>true) (gg:=λd=>.sh (b8 (b8 d 3) 1)) E.g (E.ll 5) (bM .nil Wp) (cQ (v_ (E.ll 2).1)) (.inr rfl) (λC s0 O f0 M d hd=>?aiq) B ?afr (by exact eE rfl) (jh #[_,rfl])
 case aiq=>
  obtain⟨i,n,k,x,z,rfl⟩:=qD h hd;exact#[rfl,λ_=>aG (av (av (jm 0) (ak (aL (by exact E.gB) kD)) vt) ai dD) rfl]
 case afr=>
 have es:T.lst ((c.W6.filter λ_=>true).map λd=>T.sh (b8 (b8 d 3) 1))=.lst ((c.ss.map .int).map T.sh):=by
  rw[qB h (g':=λr=>.sh (b8 r.cn 1)) (λ_ _=>rfl),eI,<- h.sl];exact congrArg T.lst (F2 (f:=λx=>T.sh (.int x)) c.ss)
 rw[es];refine Qa (i:=5) (d:=.lst (c.ss.map .int)) rfl (cC _) ?_;show cg (X.d0 (XE X W)) CL b _ [some (.sh (.str tx)),some (.sh (.lst c.tO)),some (.sh (.lst c.W6)),some (.sh (.lst (c.ks.map .str))),some (.sh (.lst (c.es.map .int))),some (.sh (.lst (c.ss.map .int))),none] _;have ib:D.bP (c.bs.map Ft)=true:=b9 (λ_=>rfl) _;have ii:D.bP (c.is.map L3.D.tup)=true:=uA h.is;have io:D.bP (c.os.map L3.D.tup)=true:=uA h.os;have U:D.bP (c.ws.map WY.d)=true:=Jw h;have J:T.d7 (.ins "Chart" (mL (c.bs.map Ft) (c.ns.map .str) (.ins "Tree" (qg c.ks c.es c.ss)) (c.is.map .tup) (c.os.map .tup) (c.ws.map WY.d)))=c.d:=by
  rw[Fp,LK];rfl
 refine aA E.g (E.ll 6) (HI (f:="tree") (t:=.ins "Tree" (qg c.ks c.es c.ss)) (E7:=rO (c.bs.map Ft) (c.ns.map .str)) (NT:=rP (c.is.map .tup) (c.os.map .tup) (c.ws.map WY.d)) (λv=>(c.bs.map Ft,c.ns.map L3.D.str,v,c.is.map L3.D.tup,c.os.map L3.D.tup,c.ws.map WY.d)) (E.c 57) (E.gg 3)
  (CD (d:=.lst (c.bs.map Ft)) (bZ (aE (iZ (p:=λd=>decide ((b8 d 2).toS="box")) (g:=λd=>.sh (b8 d 3)) (bM .nil Wp) E.g.calm (cQ (v_ (E.ll 1).1)) (.inr rfl) (λC s0 O f0 M d hd=>?air) hlen) ?eq5))
   (CD (d:=.lst (c.ns.map .str)) (bZ (aE (iZ (p:=λ_=>true) (g:=λd=>.sh (b8 (b8 d 3) 0)) (bM .nil Wp) E.g.calm (cQ (v_ (E.ll 2).1)) (.inr rfl) (λC s0 O f0 M d hd=>?ais) B) ?eq6))
    (PX (aE (mk_ (c.ks,c.es,c.ss) (E.c 58) (E.gg 4) (ah (aq (E.ll 3)) (ah (aq (E.ll 4)) (ah (aq (E.ll 5)) ao))) trivial (sW _ _ _)) rfl)
     (ah (d:=.lst (c.is.map .tup)) (bZ (aE (c_ (c,true) (E.c 38) (E.gg 5) (ah (aq (E.ll 1)) (ah au ao)) h (bE ii)) rfl))
      (ah (d:=.lst (c.os.map .tup)) (bZ (aE (c_ (c,false) (E.c 38) (E.gg 5) (ah (aq (E.ll 1)) (ah au ao)) h (bE io)) rfl))
       (ah (d:=.lst (c.ws.map WY.d)) (bZ (c_ c (E.c 39) (E.gg 6) (ah (aq (E.ll 1)) ao) h (bE U))) ao))))))
  (λv=>rfl) (λv=>#[ib,ji _,ii,io,U]) (λv=>rfl) (Av ib (ji _)) (Aw ii io U)) ?afs
 case air=>
  obtain⟨i,r,_,S,_,rfl⟩:=uw (F:=λi r=>r.nf ((i:Nat)+1:Int)) hd;exact#[(b5 (av (jm 0) (ak (aL (by exact E.iT) kD)) fV) au).1,λz=>aG (av (jm 0) (ak (aL (by exact E.gB) kD)) vt) (uv (bO r S))]
 case eq5=>
  rw[Z,AK (p:=λd=>decide ((b8 d 2).toS="box")) (g:=λd=>T.sh (b8 d 3)) (p':=RW.Uq) (g':=λr=>.sh r.cn) c.rows (λi r=>r.nf ((i:Nat)+1:Int)) (λi r S=>TM (bO r S)) (λ_ _ _ _=>rfl),TK];unfold CH.br;rw[eI,eI];rfl
 case ais=>
  obtain⟨i,n,k,x,z,rfl⟩:=qD h hd;exact#[rfl,λ_=>aG (av (av (jm 0) (ak (aL (by exact E.gB) kD)) vt) ai cK) rfl]
 case eq6=>
  rw[qB h (g':=λr=>.sh (b8 r.cn 0)) (λ_ _=>rfl),eI,<- h.nl];exact congrArg T.lst (yS (f:=λx=>T.sh (.str x)) c.ns)
 case afs=>
 have K:c.bn.length=c.bs.length:=d4 ..;have A:=h.nl;obtain⟨R,ei,li,hi⟩:=RP c.is h.is;obtain⟨P,eo,lo,j⟩:=RP c.os h.os;have V:∃qs:List Wh,c.ws.map WY.d=qs.map Wi/\qs.map (·.src)=c.ws.map (·.src)/\(∀q∈qs,q.Ok c.ns.length c.bn.length)/\∀q∈qs,∀x∈q.dl,kn x/\kq c.bn.length x=true:=by
  have hw:=h.wn;rw[<- A]at hw;generalize c.ws=l at hw
  induction l with
  | nil=>exact#[[],rfl,rfl,λq y=>by(cases y),λq y=>by(cases y)]
  | cons w l ih=>
   obtain⟨q,a1,a2,a3,a4⟩:=YW (hw w d6).1 (hw w d6).2;obtain⟨qs,b1,b2,b3,b4⟩:=ih (λx u=>hw x (ee _ u));refine#[q::qs,by rw[eJ,eJ,a1,b1],by rw[eJ,eJ,a3,b2],λx u=>?_,λx u=>?_]
   .obtain rfl|u:=d3.1 u
    .exact a2
    .exact b3 x u
   .obtain rfl|u:=d3.1 u
    .exact a4
    .exact b4 x u
 obtain⟨H,aa,sw,L4,Y⟩:=V;have gX:c.d=iR (c.bs.map YF) (c.ns.map .str) (kF c.ks c.es c.ss) (R.map λl=>L3.D.tup (l.map Eo)) (P.map λl=>L3.D.tup (l.map Eo)) (H.map Wi):=by
  unfold CH.d;rw[ei,eo,aa];rfl
 have hL:xI c.bs c.ns c.ks c.es c.ss R P H:=by
  have el:H.length=c.ws.length:=by
   have:=congrArg List.length sw
   rwa [d4,d4]at this
  have nm:∀{x:Str},aO x=true->x.length<=1000:=λh=>by
   have:=(eW h).2.1;lia
  refine#[h.pre,h.kl,h.sl,A,er h.e1 WA,λx u=>nm (h.n x u),λq y=>nm (h.bk q y).1,h.bl,by rw[li,A,h.il],by rw[lo,A,h.ol],el▸h.wl,?_,?_,?_]
  .intro l o q y;rw[<- K];obtain o|o:=eg.1 o
   .obtain o|o:=eg.1 o
    .exact hi l o q y
    .exact j l o q y
   .obtain⟨v,hv,rfl⟩:=ew.1 o;exact Y v hv q y
  .intro q y;rw[<- K];exact L4 q y
  .have a:(H.map (·.src)).Pairwise (· <= ·):=by
    rw[sw];exact List.pairwise_map.2 h.ws
   exact List.pairwise_map.1 a
 have s:(F3 c.ks c.es c.ss&&(mO c.ns&&CY c.bs))=false->dS b W (CL (if F3 c.ks c.es c.ss=false then "BadTree" else if mO c.ns=false then "BadName" else "BadBox")) none:=s;cases o:c.lk with
 | false=>exact V5 (cB (t:=T.bad) (δ2:=[]) (c.bs,c.ns,c.ks,c.es,c.ss,R,P,H) (E.c 56) (E.gg 7) (ah (vE (E.ll 6).1 rfl (J.trans gX)) ao) #[hL,o] (s o)) jW
 | true=>
 refine Ac (c_ (c.bs,c.ns,c.ks,c.es,c.ss,R,P,H) (E.c 56).give (E.gg 7) (ah (vE (E.ll 6).1 rfl (J.trans gX)) ao) #[hL,o] rfl).m ?_;exact aI (vM (E.ll 6).1) #[rfl,rfl]
structure MH(X:Cx)(CL:BC):Prop extends lI fP 60 10 X CL where
 MJ:bS X.K (CL "BadRow") "row"
 MK:bS X.K (CL "NoName") "row"
 nx:X.xe=λ_ _=>False
 ID:X.ex=[]
 IT:X.env.kindOf "e" = some .local
 ek:∀p∈([("BadRow",CL "BadRow"),("NoName",CL "NoName"),("BadTree",CL "BadTree"),("BadName",CL "BadName"),("BadBox",CL "BadBox")]:DA),LJ X.K p.1 p.2 (CL "MoodError") [("BadRow",CL "BadRow"),("NoName",CL "NoName"),("BadTree",CL "BadTree"),("BadName",CL "BadName"),("BadBox",CL "BadBox"),("BadDeed",CL "BadDeed"),("BadWay",CL "BadWay"),("TooWide",CL "TooWide"),("NoStep",CL "NoStep")]
def ML{b:Bx}(E:MH X CL) :
  k9 X CL b fP:=by
 intro x h;dsimp only [fP]at h ⊢;have hp:x.length<=900000/\Uz x:=h;refine aA E.g (E.ll 1) (O4) ?_;cases k:mc x with
 | true=>
  have o:=k;unfold mc at o;rw[et,et]at o;refine Z0 E.nx ?_;refine Ac (c_ x (E.c 59).give (E.gg 0) (ah (aq (E.ll 0)) ao) #[hp,k] (RV (R3 hp.2 o.1 o.2.1).1.v)).m (aj ?_);refine aM (P8 (aq (E.ll 1))).1 (λ_=>?_) (λz=>by cases z);exact aI O4 (di k).symm
 | false=>
 have s:kb x=.tup [.lst ((pB (Er x).1).map T.sh),.sh (.int (SV x))]:=cq (by rw[k];decide);have pk:∃(c:Str) (l:Option Bz),Er x=(c,l)/\(((c="BadRow" \/ c="NoName")/\l=(some [("row",.int (SV x))]:Option Bz)/\bS X.K (CL c) "row")\/(c≠"NoName" /\ c≠"BadRow" /\ SV x=0))/\LJ X.K c (CL c) (CL "MoodError") (J4.map λn=>(n,CL n)):=by
  have nf:∀{α:Type} (a c:α),(if true=false then a else c)=c:=λa c=>cq WA;unfold Er SV;cases hf:rq "" (-1) (fO x) with
  | false=>exact#["BadRow",_,di rfl,.inl #[.inl rfl,by rw[di rfl],E.MJ],E.ek ("BadRow",CL "BadRow") (.head _)]
  | true=>
  rw[nf,nf];cases t:W7 x with
  | false=>exact#["NoName",_,di rfl,.inl #[.inr rfl,by rw[di rfl],E.MK],E.ek ("NoName",CL "NoName") (.tail _ (.head _))]
  | true=>
   rw[nf,nf];by_cases h1:F3 (tP x).ks (tP x).es (tP x).ss=false
   .exact#["BadTree",none,by rw[di h1],.inr #[Wp,Wp,rfl],E.ek ("BadTree",CL "BadTree") (.tail _ (.tail _ (.head _)))]
   by_cases u:mO (tP x).ns=false
   .exact#["BadName",none,by rw[cq h1,di u],.inr #[Wp,Wp,rfl],E.ek ("BadName",CL "BadName") (.tail _ (.tail _ (.tail _ (.head _))))]
   .exact#["BadBox",none,by rw[cq h1,cq u],.inr #[Wp,Wp,rfl],E.ek ("BadBox",CL "BadBox") (.tail _ (.tail _ (.tail _ (.tail _ (.head _)))))]
 obtain⟨c,l,he,r,f⟩:=pk;have j:∀n∈J4,kitOne X.K (.ref (CL c)) (.ref (CL n))=some (decide (n=c)):=λn h=>f.is (n,CL n) (ew.2 #[n,h,rfl]);refine Zs (c:=(c,l)) (δ1:=[some (.sh (.str x)),some (.sh .non),none,none,none]) E.st E.fm E.nx E.ID E.g.nd (E.ll 2) E.IT (λq=>he▸aa0 (X:=X.pinned q) (Yj (X:=X.pinned q) x E.nx (E.c 59).bad.pin (E.gg 0) (ah (ak (v_ (E.ll 0).1.pin)) ao) #[hp,k])) (E.gg 1) E.Bh f.xm (by exact eE rfl) (λa d w i py=>?_);refine Zp E.g.nd (E.ll 1).hand (v_ (E.ll 2).1.hand) (aj #[.inr #[_,rfl],?_]);refine aM (V9 (aq (E.ll 1))) (λz=>by cases z) (λ_=>aj ?_);refine aA E.g (E.ll 3) (dz (ds:=[.bl (decide (("BadRow":Str)=c)),.bl (decide (("NoName":Str)=c)),.bl (decide (("BadTree":Str)=c))]) (ay (jk i f.ask E.bC (E.gg 2) (ah (aq (E.ll 1)) (ah (ak (k7 (v:=.ref (CL "BadRow")) (E.gg 3) E.Mj rfl)) ao)) (.one rfl (j "BadRow" Wp))) (ay (jk i f.ask E.bC (E.gg 2) (ah (aq (E.ll 1)) (ah (ak (k7 (v:=.ref (CL "NoName")) (E.gg 4) E.Mh rfl)) ao)) (.one rfl (j "NoName" Wp))) (ay (jk i f.ask E.bC (E.gg 2) (ah (aq (E.ll 1)) (ah (ak (k7 (v:=.ref (CL "BadTree")) (E.gg 5) E.wF rfl)) ao)) (.one rfl (j "BadTree" Wp))) bV))) aV) ?_;refine aA E.g (E.ll 3) (jH (vL (E.ll 3).1) (bZ (dz (ds:=[.bl (decide (("BadName":Str)=c)),.bl (decide (("BadBox":Str)=c)),.bl (decide (("BadDeed":Str)=c))]) (ay (jk i f.ask E.bC (E.gg 2) (ah (aq (E.ll 1)) (ah (ak (k7 (v:=.ref (CL "BadName")) (E.gg 6) E.wG rfl)) ao)) (.one rfl (j "BadName" Wp))) (ay (jk i f.ask E.bC (E.gg 2) (ah (aq (E.ll 1)) (ah (ak (k7 (v:=.ref (CL "BadBox")) (E.gg 7) E.zf rfl)) ao)) (.one rfl (j "BadBox" Wp))) (ay (jk i f.ask E.bC (E.gg 2) (ah (aq (E.ll 1)) (ah (ak (k7 (v:=.ref (CL "BadDeed")) (E.gg 8) E.Gg rfl)) ao)) (.one rfl (j "BadDeed" Wp))) bV))) aV)) rfl rfl aV) ?_;refine aA E.g (E.ll 3) (jH (vL (E.ll 3).1) (bZ (dz (ds:=[.bl (decide (("BadWay":Str)=c)),.bl (decide (("TooWide":Str)=c)),.bl (decide (("NoStep":Str)=c))]) (ay (jk i f.ask E.bC (E.gg 2) (ah (aq (E.ll 1)) (ah (ak (k7 (v:=.ref (CL "BadWay")) (E.gg 9) E.Mq rfl)) ao)) (.one rfl (j "BadWay" Wp))) (ay (jk i f.ask E.bC (E.gg 2) (ah (aq (E.ll 1)) (ah (ak (k7 (v:=.ref (CL "TooWide")) (E.gg 10) E.Gh rfl)) ao)) (.one rfl (j "TooWide" Wp))) (ay (jk i f.ask E.bC (E.gg 2) (ah (aq (E.ll 1)) (ah (ak (k7 (v:=.ref (CL "NoStep")) (E.gg 11) E.Mr rfl)) ao)) (.one rfl (j "NoStep" Wp))) bV))) aV)) rfl rfl aV) ?_;refine aA E.g (E.ll 4) gZ ?_;obtain⟨r,rfl,p⟩|⟨n1,n2,t⟩:=r
 .refine aM (dY (fB (cA (aG (aF (vL (E.ll 3).1) ai cK) rfl)) (λ_=>gb (cA (aG (aF (vL (E.ll 3).1) ai dD) rfl))))) (λ_=>?_) (λz=>by obtain rfl|rfl:=r<;>exact absurd z Wp);refine aA E.g (E.ll 4) (V6 (m:=SV x) i py (z7 ..) f.ask p (aq (E.ll 1))) (aj ?_);refine aM (dY (fB (cj (cA (jk i f.ask E.bC (E.gg 2) (ah (aq (E.ll 1)) (ah (ak (Iu (v:=.ty "ValueError") (E.gg 12) E.qO lP rfl)) ao)) (.one rfl f.ve)))) (λ_=>fB (cj (cA (y8 E.bC E.DF (E.gg 2) (E.gg 13) (aq (E.ll 4))))) (λ_=>gb (cA (Uq E.bC E.S9 (E.gg 2) (E.gg 14) (aq (E.ll 4)))))))) (λz=>absurd z WA) (λ_=>aj ?_);refine aI (uQ (bF (vM (E.ll 3).1) (bF (v_ (E.ll 4).1) dX)) aV) ?_;show _=kb x;rw[s,he];rfl
 .refine aM (dY (fB (cA (aG (aF (vL (E.ll 3).1) ai cK) rfl)) (λ_=>gb (cA (aG (aF (vL (E.ll 3).1) ai dD) rfl))))) (λz=>?_) (λ_=>aj ?_)
  .rw[eu (λe=>n2 e.symm),eu (λe=>n1 e.symm)]at z;cases z
  refine aM (dY (fB (cj (cA (jk i f.ask E.bC (E.gg 2) (ah (aq (E.ll 1)) (ah (ak (Iu (v:=.ty "ValueError") (E.gg 12) E.qO lP rfl)) ao)) (.one rfl f.ve)))) (λ_=>fB (cj (cA (y8 E.bC E.DF (E.gg 2) (E.gg 13) (aq (E.ll 4))))) (λ_=>gb (cA (Uq E.bC E.S9 (E.gg 2) (E.gg 14) (aq (E.ll 4)))))))) (λz=>absurd z WA) (λ_=>aj ?_);refine aI (uQ (bF (vM (E.ll 3).1) (bF (v_ (E.ll 4).1) dX)) aV) ?_;show _=kb x;rw[s,he,t];rfl
noncomputable def Gy:dm fP.N ["text"] (aC fP.st):=qb
theorem MI{b:Bx}(E:EX S7 (gN DE) (cN DE) 61 11 X CL) :
  Dds X CL b DE S7 nM nO nP:=by
 intro a h;dsimp only [nO,nM,nP]at h ⊢;have hs:a.length<=1000:=by lia
 have aa:=SW a;have t:=HH a;obtain⟨V,k⟩:=J5 a;refine aA E.g (E.ll 1) (Ii (ds:=(LV a 6).map .str) (c_ (a,6) (E.c 2) (E.gg 0) (ah (aq (E.ll 0)) (ah ai ao)) (show 6<=100 by decide) (vF _))) ?_;generalize LV a 6=ns at t ⊢;refine aA E.g (E.ll 2) (g6 dX (fc _)) ?_;refine aA E.g (E.ll 3) gZ ?_;refine aA E.g (E.ll 4) (cI ai) ?_;refine aA E.g (E.ll 5) gZ ?_;refine iG E.g (E.ll 6) (λj δ=>∃R due last own G F B A r m,oe ns (Xm a) j R due last own/\δ=[some (.sh (.lst (a.map .int))),some (.sh (.lst (ns.map .str))),some (.lst ((R.map .str).map T.sh)),some (.sh (.int due)),some (.sh (.int last)),some (.sh (.int own)),G,F,B,A,r,m,none,none])
  (La E.qM (ah ai (ah (Yl (ak (Vm E.g E.MM (E.gg 2) (ah (ak (aX (d4 ..) E.b7 (aq (E.ll 0)) (E.gg 3))) (ah ai ao)))) (d2:=.int (Xl a)) rfl) (ah ai ao))) Wl (E.gg 1)) #[[],0,-1,0,_,_,_,_,_,_,#[rfl,rfl,.inl #[rfl,rfl],#[_,ot],WA],rfl] (by rintro j δ ⟨_,_,_,_,_,_,_,_,_,_,_,rfl⟩;exact eE rfl) ?turn ?fin
 case turn=>
  rintro j d δ hj ⟨R,due,last,own,G,F,B,A,r,m,I,rfl⟩;obtain⟨rfl,U⟩:=step_get hj;have N:=I.next t (SX U);have O:=I.l;have W:=I.b;obtain⟨pw,S⟩:=I.s;unfold kY at U;refine aA E.g (E.ll 7) (cW (ay (aG (aF (aq (E.ll 0)) (aq (E.ll 6)) (mG (show(0:Int)<=2+(j:Int)*2 by lia) (show 2+(j:Int)*2<a.length by lia))) rfl) (ay (c_ ((a,2+(j:Int)*2+1)) (E.c 0) (E.gg 4) (ah (aq (E.ll 0)) (ah (ak (eF (aq (E.ll 6)) ai)) ao)) (show(0:Int)<=2+(j:Int)*2+1 by lia) rfl) bV)) aV) ?_;generalize a.getD (2+(j:Int)*2).toNat 0=x at N ⊢;generalize dR a (2+(j:Int)*2+1)=c at N ⊢;have K:=SQ t S x c;unfold pe at K N;unfold F8 SK at N;unfold Dy at N;obtain⟨f0,f7⟩:=Bc (a:=x) S;have M:=S.l;refine aA E.g (E.ll 8) (aE (c_ ((x,last,own)) (E.c 3) (E.gg 5) (ah (av (aq (E.ll 7)) ai rfl) (ah (aq (E.ll 4)) (ah (aq (E.ll 5)) ao))) (trivial) rfl) (t2:=.sh (.int (tQ x last own))) rfl) ?_;generalize tQ x last own=f at f0 f7 K N ⊢;have b0:=rX (a:=x) (c:=c) (f:=f) M;have b1:=Ze (a:=x) (c:=c) (f:=f) M;refine aA E.g (E.ll 9) (aE (c_ ((x,c,f,last)) (E.c 4) (E.gg 6) (ah (aq (E.ll 7)) (ah (aq (E.ll 8)) (ah (aq (E.ll 4)) ao))) (M) rfl) (t2:=.sh (.int (Sx x c f last))) rfl) ?_;generalize Sx x c f last=bl at b0 b1 K N ⊢;have m0:=fD f (show(7:Int)≠0 by decide);have m1:=f6 f (show(0:Int)<7 by decide);have n0:=fD (x / 32) (show(7:Int)≠0 by decide);have n1:=f6 (x / 32) (show(0:Int)<7 by decide);refine aA E.g (E.ll 10) (aE (c_ ((f % 7,c / 24,ns)) (E.c 8) (E.gg 7) (ah (ak (bI (aq (E.ll 8)) ai WA)) (ah (ak (bK (av (aq (E.ll 7)) ai rfl) ai #[WA,WA])) (ah (aq (E.ll 1)) ao))) (by dsimp only [gj];exact(#[#[m0,m1],t])) rfl) (t2:=.sh (.str (Str.join " " (wk ns (f % 7) (c / 24)).ws))) rfl) ?_;refine sQ (J:=λδ=>∃o,δ=[some (.sh (.lst (a.map .int))),some (.sh (.lst (ns.map .str))),some (.lst ((R.map .str).map T.sh)),some (.sh (.int due)),some (.sh (.int last)),some (.sh (.int own)),some (.sh (.int (2+(j:Int)*2))),some (.sh (.tup [.int x,.int c])),some (.sh (.int f)),some (.sh (.int bl)),some (.sh (.str (qG ns f x c))),o,none,none]) (aU (aq (E.ll 8)) ai).1 (λz=>?_) (λz=>?_) ?_
  .have z:f=7:=ed z;refine aA E.g (E.ll 11) (aE (bK (ak (bI (ak (eF (ak (zR (av (aq (E.ll 7)) ai rfl) ai (.inr #[WA,WA]))) (ak (zR (av (aq (E.ll 7)) ai rfl) ai (.inr #[WA,WA]))))) ai WA)) ai #[WA,WA]) (t2:=.sh (.int (ru x c))) rfl) ?_;refine aA E.g (E.ll 10) (c_ (wk ns (x / 32 % 7) (c / 24),ru x c) (E.c 10) (E.gg 8) (ah (ak (c_ ((x / 32 % 7,c / 24,ns)) (E.c 8) (E.gg 7) (ah (ak (bI (ak (bK (av (aq (E.ll 7)) ai rfl) ai #[WA,WA])) ai WA)) (ah (ak (bK (av (aq (E.ll 7)) ai rfl) ai #[WA,WA])) (ah (aq (E.ll 1)) ao))) (by dsimp only [gj];exact(#[#[n0,n1],t])) rfl)) (ah (aq (E.ll 11)) ao)) #[(lz t _ _).1,F9 t _ n0 n1] rfl) (aj ?_);rw[show qG ns f x c=UA (wk ns (x / 32 % 7) (c / 24)) (ru x c) from di z];exact#[_,rfl]
  .have z:¬ f=7:=eP z;refine aj ?_;rw[show qG ns f x c=Str.join " " (wk ns (f % 7) (c / 24)).ws from cq z];exact#[_,rfl]
  rintro _ ⟨o,rfl⟩;generalize qG ns f x c=v at K N ⊢;obtain⟨n,rfl⟩:=i9 b0;rw[str_len]at K;refine p6 (E.ll 2).1 rfl (aH (ak (Ip au (aq (E.ll 9)) (RU Wl))) (aq (E.ll 10)) (by rw[fA];lia)) rfl (by rw[d4,d4];lia) ?_;have en:(R.map L3.D.str).map T.sh++[T.sh (.str (Txt.mul " " (n:Int)++v))]=((R++[Txt.mul " " (n:Int)++v]).map L3.D.str).map T.sh:=by
   rw[fx,fx];rfl
  rw[en];generalize R++[Txt.mul " " (n:Int)++v]=R1 at N ⊢;have P:=N.l;refine aM (cj (cA (c_ ((f,(n:Int),last,own)) (E.c 11) (E.gg 9) (ah (aq (E.ll 8)) (ah (aq (E.ll 9)) (ah (aq (E.ll 4)) (ah (aq (E.ll 5)) ao)))) (trivial) rfl))) (λq=>?_) (λq=>?_)
  .have q:JK f n last own=false:=by simpa using q
   rw[q]at N;simp only[Bool.false_eq_true,false_and,if_false]at N;refine aM (aU (aq (E.ll 3)) ai).1 (λz=>?_) (λz=>aj (aj (aj ?_)))
   .have z:due=0:=ed z;rw[di z]at N;refine aA E.g (E.ll 3) (aX (n:=j+1) ((d4 ..).trans P) E.b7 (vL (E.ll 2).1) (E.gg 3)) (aj (aj (aj ?_)));exact#[_,_,_,_,_,_,_,_,_,_,N,rfl]
   .have z:¬ due=0:=eP z;rw[cq z]at N;exact#[_,_,_,_,_,_,_,_,_,_,N,rfl]
  .have q:JK f n last own=true:=by simpa using q
   rw[q]at N;simp only[if_true,true_and]at N;refine aM (nU (aq (E.ll 8)) ai).1 (λz=>?_) (λz=>?_)
   .have z:f<3:=ed z;rw[di z,di z]at N;refine aA E.g (E.ll 4) (v_ (E.ll 9).1) ?_;refine aA E.g (E.ll 5) gZ (aj (aj (aj ?_)));exact#[_,_,_,_,_,_,_,_,_,_,N,rfl]
   .have z:¬ f<3:=eP z;rw[cq z,cq z]at N;refine aM (nU (aq (E.ll 8)) ai).1 (λy=>?_) (λy=>aj (aj (aj (aj ?_))))
    .have y:f<6:=ed y;rw[di y]at N;refine aA E.g (E.ll 5) (kU (aq (E.ll 8)) ai) (aj (aj (aj (aj ?_))));exact#[_,_,_,_,_,_,_,_,_,_,N,rfl]
    .have y:¬ f<6:=eP y;rw[cq y]at N;exact#[_,_,_,_,_,_,_,_,_,_,N,rfl]
 case fin=>
  rintro δ ⟨R,due,last,own,G,F,B,A,r,m,I,rfl⟩;obtain⟨Y,Z⟩:=I.fin (by rw[nW,d4,gx,V]);have k:(Xm a).length<=40:=V▸k;generalize Xm a=ps at Y Z k;subst Y Z;have T0:=J3 t ps k false;have O:=qH ns ps (-1) 0;have L:(Str.join "\n" (dB ns (-1) 0 ps)).length<=900000:=T0.2.1;have W:=λy H=>Be t ps ot y H;have L:(Str.join "\n" (dB ns (-1) 0 ps)).length<=900000:=T0.2.1;have jo:JoinOk "\n" (dB ns (-1) 0 ps)=true:=DB (λy H=>by have:=W y H;lia) Wl;have dep:rj 60 (.lst ((dB ns (-1) 0 ps).map .str)):=.lst λd hd=>by
   obtain⟨y,H,rfl⟩:=ew.1 hd;exact .str _ _ (MW (Bd t ps (m5 _) y H))
  have en:decide ((dB ns (-1) 0 ps).map L3.D.str=[])=decide (ps=[]):=nv.2 (by
   rw[nN,<- t5,O,t5])
  have ej:Txt.join "\n" (dB ns (-1) 0 ps)=Gd ns ps false:=StrLaws.glued_eq_join _ _;have ef:Gd ns ps true=Gd ns ps false++"\n":=rfl;have e3:Es ps true=if Es ps false=0 then(((dB ns (-1) 0 ps).length:Nat):Int)+1 else Es ps false:=by
   rw[O];unfold Es;by_cases z:ps=[]
   .rw[di z,di z,cq WA]
   rw[cq z,cq z,cq (show ¬ (jF 1 (-1) 0 ps=0/\false=true) fromλy=>Bool.noConfusion y.2)];by_cases y:jF 1 (-1) 0 ps=0
   .rw[di #[y,rfl],di y,Int.add_comm]
   .rw[cq (λw=>y w.1),cq y]
  refine sQ (J:=λδ=>δ=[some (.sh (.lst (a.map .int))),some (.sh (.lst (ns.map .str))),some (.lst (((dB ns (-1) 0 ps).map .str).map T.sh)),some (.sh (.int (Es ps false))),some (.sh (.int last)),some (.sh (.int own)),G,F,B,A,r,m,none,none]) (Pn E.u (vL (E.ll 2).1) (bZ (dz (ds:=[]) bV aV)) dep (.lst λd hd=>by cases hd)).1 (λz=>?_) (λz=>?_) ?_
  .have z:ps=[]:=ed (en.symm.trans ((SY _).symm.trans z));refine aA E.g (E.ll 3) gZ (aj ?_);rw[show Es ps false=1 from di z];rfl
  .have z:¬ ps=[]:=eP (en.symm.trans ((SY _).symm.trans z));refine aj ?_;rw[show Es ps false=jF 1 (-1) 0 ps from(cq z).trans (cq λy=>Bool.noConfusion y.2)]
  rintro _ rfl;refine aA E.g (E.ll 12) (aE (VF au (vL (E.ll 2).1) jo) (t2:=.sh (.str (Gd ns ps false))) (by rw[ej])) ?_;have L:(Gd ns ps false).length<=900000:=L;refine sQ (J:=λδ=>δ=[some (.sh (.lst (a.map .int))),some (.sh (.lst (ns.map .str))),some (.lst (((dB ns (-1) 0 ps).map .str).map T.sh)),some (.sh (.int (Es ps (decide (dR a 1 / 5 % 8=1))))),some (.sh (.int last)),some (.sh (.int own)),G,F,B,A,r,m,some (.sh (.str (Gd ns ps (decide (dR a 1 / 5 % 8=1))))),none]) (aU (ak (bI (ak (bK (ak (c_ ((a,1)) (E.c 0) (E.gg 4) (ah (aq (E.ll 0)) (ah ai ao)) (show(0:Int)<=1 by lia) rfl)) ai #[WA,WA])) ai WA)) ai).1 (λz=>?_) (λz=>?_) ?_
  .have z:dR a 1 / 5 % 8=1:=ed z;rw[eD z];refine aA E.g (E.ll 12) (aH (aq (E.ll 12)) au (by rw[fA];have:("\n":Str).length=1:=rfl;lia)) ?_;rw[<- ef];refine aM (aU (aq (E.ll 3)) ai).1 (λy=>?_) (λy=>aj (aj ?_))
   .have y:Es ps false=0:=ed y;refine aA E.g (E.ll 3) (eF (ak (zV E.b7 (vL (E.ll 2).1) (E.gg 3))) ai) (aj (aj ?_));rw[e3,di y,d4];rfl
   .have y:¬ Es ps false=0:=eP y;rw[e3,cq y];rfl
  .have z:¬ dR a 1 / 5 % 8=1:=eP z;rw[eu z];exact aj rfl
  rintro _ rfl;obtain⟨t1,t2,t3,t4⟩:=J3 t ps k (decide (dR a 1 / 5 % 8=1));have told:=Xp t3 t4;generalize Gd ns ps (decide (dR a 1 / 5 % 8=1))=x at t1 t2 told ⊢;generalize Es ps (decide (dR a 1 / 5 % 8=1))=d at told ⊢;refine aA E.g (E.ll 13) (f9 (d:=Zh x) (c_ x (E.c 60) (E.gg 10) (ah (aq (E.ll 12)) ao) #[t2,t1] (DC x).1) (DC x).2) ?_;refine aM (aU (aq (E.ll 3)) ai).1 (λz=>?_) (λz=>aj ?_)
  .have z:d=0:=ed z;rw[di z]at told;obtain e|⟨c,hc,e⟩:=told
   .rw[e];exact aI (HV (q:=true) (Xo (aq (E.ll 13))) (λz=>by cases z)) rfl
   .rw[e];refine aI (HV (q:=true) (Wc (ds:=[.lst (pB c),.int (SV x)]) (aq (E.ll 13))) (λ_=>gf (aE (XX (aG (aF (ds:=pB c) (av (ds:=[.lst (pB c),.int (SV x)]) (aq (E.ll 13)) ai cK) ai cK) rfl)) (t2:=.sh (.bl true)) ?_))) rfl;show T.sh (.bl (!decide (("BadRow":Str)=c)))=_;rw[eu (λe=>hc e.symm)];rfl
  .have z:¬ d=0:=eP z;rw[cq z]at told;rw[told];refine aI (RI (d:=.tup [.lst (pB "BadRow"),.int d]) E.u (aq (E.ll 13)) (ak (cW (ay (f9 (d:=.lst (pB "BadRow")) (aE (iZ (p:=λ_=>true) (g:=λd=>.sh (.bl (decide (d.Cq=0)))) (bM .nil Wp) E.g.calm (uU E.qM ai WA (E.gg 1)) (.inr rfl) (λC s0 H0 f0 b' d hd=>?aiv) (hH (cL (by simp[d8])))) (t2:=.lst ((pB "BadRow").map T.sh)) ?e9) (cC _)) (ay (v_ (E.ll 3).1) bV)) aV)) (Xn d)) rfl
   case aiv=>
    obtain⟨i,hi,rfl⟩:=ew.1 hd;exact#[rfl,λ_=>(aU (jm 0) ai).2]
   case e9=>
    rw[fG];unfold d8 pB;have:=congrArg (λl:List Bool=>T.lst (l.map λb=>T.sh (.bl b))) HU.symm;simp only[eI]at this ⊢;exact this
noncomputable def Tg:dm S7 ["script"] (aC DE):=qb
def all_mk{l:PySem.W.OpenLaw}{fa qU sY MN c3 n t nh N F M qV sZ qW tu L J:Addr}(c:K.In h)(G:h.Ns mainGlobals mg)(cm:mg "law" = some (.ref fa))
  {Bo DN MP Zm:FuncData}
  (J6:En K "Chart" n) (bL:Ej K n) (Ti:makesIn K n=true) (Tj:keepIn K (.ref n)=true)
  (x9:bS K n "boxes")
  (yb:bS K n "names")
  (Bp:bS K n "tree")
  (DP:bS K n "ins")
  (Bq:bS K n "outs")
  (Br:bS K n "ways")
  (Tp:En K "Tree" t) (dZ:Ej K t) (Xv:makesIn K t=true) (Xw:keepIn K (.ref t)=true)
  (Bs:bS K t "kinds")
  (yc:bS K t "elders")
  (yd:bS K t "starts")
  (tD:En K "MoodError" nh)
  (zj:En K "BadTree" N)
  (Gz:k6 K N)
  (zk:En K "BadName" F)
  (GA:k6 K F)
  (DQ:En K "BadBox" M)
  (MQ:k6 K M)
  (zl:En K "BadDeed" qV)
  (DR:En K "BadWay" sZ)
  (zm:En K "TooWide" qW)
  (DS:En K "NoStep" tu)
  (DT:En K "BadRow" L)
  (zo:XJ K "BadRow" "row" "BadRow.__init__" L (inClass (top 22) 0))
  (DU:En K "NoName" J)
  (zq:XJ K "NoName" "row" "NoName.__init__" J (inClass (top 23) 0))
  (dw:Wq 4 (∀p∈([("BadRow",L),("NoName",J),("BadTree",N),("BadName",F),("BadBox",M)]:DA),LJ K p.1 p.2 (nh) [("BadRow",L),("NoName",J),("BadTree",N),("BadName",F),("BadBox",M),("BadDeed",qV),("BadWay",sZ),("TooWide",qW),("NoStep",tu)]))
  (MR:gJ K "_law_cell_at" (top 86) )
  (MS:gJ K "_law_name_by" (top 87) )
  (GB:gJ K "_law_names_by" (top 88) )
  (MT:gJ K "_law_form_by" (top 95) )
  (DV:gJ K "_law_blanks_by" (top 96) )
  (MV:gJ K "_law_term_by" (top 89) )
  (MX:gJ K "_law_deed_by" (top 90) )
  (MY:gJ K "_law_asks_by" (top 91) )
  (GC:gJ K "_law_right_by" (top 92) )
  (Tq:gJ K "_law_odd_by" (top 93) )
  (Bt:gJ K "_law_spoiled_by" (top 94) )
  (Tr:gJ K "_law_stands" (top 97) )
  (Tt:gJ K "places" (top 70) )
  (GF:gJ K "place_of" (top 76) )
  (tX:gJ K "numbered_term" (top 75) )
  (tY:gJ K "numbered_deed" (top 74) )
  (wL:gJ K "numbered_ask" (top 73) )
  (wM:gJ K "numbered_way" (top 72) )
  (tZ:gJ K "numbered_form" (top 71) )
  (GH:gJ K "numbered" (top 69) )
  (MZ:gJ K "is_name" (top 12) )
  (M0:gJ K "name_of" (top 58) )
  (ye:gJ K "are_figures" (top 61) )
  (DW:gJ K "is_number" (top 60) )
  (DX:gJ K "number_of" (top 59) )
  (M3:gJ K "term_of" (top 62) )
  (M4:gJ K "deed_of" (top 63) )
  (GJ:gJ K "parts_of" (top 66) )
  (M5:gJ K "goal_of" (top 67) )
  (Tv:gJ K "ask_of" (top 64) )
  (Tw:gJ K "way_of" (top 65) )
  (Bu:gJ K "content_of" (top 57) )
  (M6:gJ K "form_of" (top 56) )
  (DY:gJ K "may_stand" (top 81) )
  (Tz:gJ K "formed" (top 80) )
  (DZ:gJ K "elders_of" (top 82) )
  (GK:gJ K "deeds_of" (top 83) )
  (M7:gJ K "ways_of" (top 84) )
  (Xx:gJ K "above" (top 26) )
  (Xy:gJ K "depth" (top 27) )
  (pG:gJ K "are_elders_right" (top 35) )
  (qY:gJ K "are_kinds_right" (top 36) )
  (GL:gJ K "is_place" (top 46) )
  (pH:gJ K "are_starts_right" (top 37) )
  (t6:gJ K "is_tree_right" (top 34) )
  (qZ:gJ K "are_names_right" (top 38) )
  (Bv:gJ K "is_bounded" (top 47) )
  (rg:gJ K "are_boxes_right" (top 39) )
  (t7:gJ K "is_term_right" (top 45) )
  (t8:gJ K "is_deed_right" (top 44) )
  (ri:gJ K "are_deeds_right" (top 40) )
  (wN:gJ K "is_ask_right" (top 43) )
  (wO:gJ K "is_way_right" (top 42) )
  (sd:gJ K "are_ways_right" (top 41) )
  (TF:gJ K "looked" (top 33) )
  (D:VY K n "__init__" "Chart.__init__" gS qU Bo)
  (I:VY K t "__init__" "Tree.__init__" iM sY DN)
  (du:gJ K "read" (top 79) )
  (M8:Us K "_law_refusal" (top 98) MN MP)
  (B:Us K "law" DE c3 Zm)
  (cw:IA K "len")
  (Xz:IA K "range")
  (cv:IA K "max")
  (de:IA K "str")
  (D0:IA K "enumerate")
  (XA:IA K "tuple")
  {dt:Tok} (dc:qd K "ROW" 0 dt)
  {XC:Tok} (dr:qd K "WORD" 2 XC)
  {GN:Tok} (M9:qd K "CONTENT" 3 GN)
  {J7:Addr} {TH:B2} {fq:Nat} {TJ:CU} {GO GP GQ:Tok} (XD:nsIn K mainGlobals "KINDS" = some (some (.ref J7))) (TL:K.lookup J7=some #[.type "tuple",TH,.seq (List.toArray [.str "leaf" GO,.str "one" GP,.str "all" GQ]) fq,TJ])
  {Nb:Tok} (TN:qd K "BLANKS" 1 Nb)
  {t9:Tok} (wQ:qd K "LONGEST_NAME" 12 t9)
  {J8:Addr} {TQ:B2} {Bf:Nat} {TR:CU} {GR GU GV GX GY GZ G0 G3 G4 G5 D3 D4 D5 D6 D7 D8 D9 Ea Eb:Tok} (XF:nsIn K mainGlobals "WORDS" = some (some (.ref J8))) (TV:K.lookup J8=some #[.type "tuple",TQ,.seq (List.toArray [.str "all" GR,.str "and" GU,.str "box" GV,.str "call" GX,.str "do" GY,.str "far" GZ,.str "if" G0,.str "in" G3,.str "leaf" G4,.str "near" G5,.str "on" D3,.str "one" D4,.str "open" D5,.str "out" D6,.str "put" D7,.str "say" D8,.str "shut" D9,.str "then" Ea,.str "to" Eb]) Bf,TR])
  {G6:Tok} (Nf:nsIn K mainGlobals "LETTERS" = some (some (.str "abcdefghijklmnopqrstuvwxyz" G6)))
  {lJ:Tok} (lX:nsIn K mainGlobals "LETTERS_AND_FIGURES" = some (some (.str "abcdefghijklmnopqrstuvwxyz0123456789" lJ)))
  {ua:Tok} (wR:qd K "MOST_FIGURES" 30 ua)
  {G7:Tok} (Ng:nsIn K mainGlobals "FIGURES" = some (some (.str "0123456789" G7)))
  (da:IA K "int")
  {ni:Addr} {jM:Nat} {oh oi oj om oq ou:Int} {oz oB oE oF oG oH se sf sj sq su sy sA sC sE sF sG sH sJ:Tok} {jY jZ j0 j3 j4 j5:Addr} {wU wV wW wX wY wZ:B2} {yf yg yh yi yj yk:Nat} {w6 xg xh xo xq xr:CU} (Ec:nsIn K mainGlobals "FOLLOWERS" = some (some (.ref ni))) (Bw:Wq 3 ((ni==sysModules)=false)) (By:K.lookup ni=some #[.type "dict",none,.dict ([#[oh,.str "on" oz,.ref jY],#[oi,.str "if" oB,.ref jZ],#[oj,.str "and" oE,.ref j0],#[om,.str "do" oF,.ref j3],#[oq,.str "then" oG,.ref j4],#[ou,.str "to" oH,.ref j5]]:List DictEntry).toArray jM,#[]]) (BD:Wq 6 (KeysLit w.params [#[oh,.str "on" oz,.ref jY],#[oi,.str "if" oB,.ref jZ],#[oj,.str "and" oE,.ref j0],#[om,.str "do" oF,.ref j3],#[oq,.str "then" oG,.ref j4],#[ou,.str "to" oH,.ref j5]])) (xu:K.lookup jY=some #[.type "tuple",wU,.seq (List.toArray [.str "if" se,.str "do" sf,.str "to" sj]) yf,w6]) (xA:K.lookup jZ=some #[.type "tuple",wV,.seq (List.toArray [.str "and" sq,.str "do" su,.str "to" sy]) yg,xg]) (xB:K.lookup j0=some #[.type "tuple",wW,.seq (List.toArray [.str "and" sA,.str "do" sC,.str "to" sE]) yh,xh]) (xC:K.lookup j3=some #[.type "tuple",wX,.seq (List.toArray [.str "then" sF,.str "to" sG]) yi,xo]) (xD:K.lookup j4=some #[.type "tuple",wY,.seq (List.toArray [.str "then" sH,.str "to" sJ]) yj,xq]) (xE:K.lookup j5=some #[.type "tuple",wZ,.seq #[] yk,xr])
  {J9:Addr} {TX:B2} {uE:Nat} {TY:CU} {G8 G9 Hf Hg:Tok} (XG:nsIn K mainGlobals "MARKS" = some (some (.ref J9))) (T3:K.lookup J9=some #[.type "tuple",TX,.seq (List.toArray [.str "<" G8,.str "<=" G9,.str "=" Hf,.str "!=" Hg]) uE,TY])
  {r:Addr} {Ed:Array DictEntry} {uF:Nat} {Hh Hi Hj Hl Ho Hq:Tok} (XH:nsIn K mainGlobals "RANKS" = some (some (.ref r))) (T4:K.lookup r=some #[.type "dict",none,.dict Ed uF,#[]]) (T5:Wq 6 (KeysLit w.params Ed.toList)) (Nh:nsIn K r "leaf" = some (some (.int 0 Hh))) (Ni:nsIn K r "one" = some (some (.int 0 Hi))) (Nj:nsIn K r "all" = some (some (.int 0 Hj))) (Nk:nsIn K r "in" = some (some (.int 1 Hl))) (Nm:nsIn K r "out" = some (some (.int 2 Ho))) (Nn:nsIn K r "on" = some (some (.int 3 Hq)))
  {Hr:Tok} (Np:qd K "DEEPEST" 12 Hr)
  (c8:IA K "set")
  {T6:Tok} (XI:qd K "DEEDS" 3 T6)
  {Nq:Tok} (T7:qd K "TARGET" 4 Nq)
  {XM:Tok} (dq:qd K "MODE" 5 XM)
  {Nr:Tok} (T8:qd K "SOURCE" 0 Nr)
  {XO:Tok} (dk:qd K "SIGN" 1 XO)
  {Ka:Addr} {T9:B2} {Bg:Nat} {Ua:CU} {Hs Ht Hu:Tok} (XQ:nsIn K mainGlobals "MODES" = some (some (.ref Ka))) (Ub:K.lookup Ka=some #[.type "tuple",T9,.seq (List.toArray [.str "new" Hs,.str "near" Ht,.str "far" Hu]) Bg,Ua])
  {XR:Tok} (dj:qd K "ASKS" 2 XR)
  (df:IA K "list")
  (BE:IA K "isinstance")
  (BF:IA K "ValueError")
  (y_bool:IA K "bool")
  (c5:IA K "min")
  : ∃fd:FuncData,(∀(s:Shared) (v:Value),BindsTo s fd #[[v],[]] [("script",v)])/\∀base:Heap,K.In base->base.Ns mainGlobals mg->eU l.prog w K mg base tG 12 fa fd ["script"] (HW K (λ_=>0) 1 nM nO nP):=by
 have e:=cm.symm.trans (e7 c G B.m);cases e;obtain⟨o,j⟩:∃o,o=si K:=#[_,rfl];have cp:∀x,uM x=true->o x=0:=λx h=>j▸Wa h;obtain rfl:=iQ j J6;obtain rfl:=iQ j Tp;obtain rfl:=iQ j tD;obtain rfl:=iQ j zj;obtain rfl:=iQ j zk;obtain rfl:=iQ j DQ;obtain rfl:=iQ j zl;obtain rfl:=iQ j DR;obtain rfl:=iQ j zm;obtain rfl:=iQ j DS;obtain rfl:=iQ j DT;obtain rfl:=iQ j DU;have BG:=D.bA ["self","boxes","names","tree","ins","outs","ways"];have Ef:=I.bA ["self","kinds","elders","starts"];have dC:=e7 c G B.m;have dA:=B.bA ["script"];have XS:=e7 c G J6;have dy:=e7 c G Tp;have Eg:=e7 c G tD;have Nu:=e7 c G zj;have Nv:=e7 c G zk;have Uc:=e7 c G DQ;have Nx:=e7 c G zl;have Ud:=e7 c G DR;have Ny:=e7 c G zm;have Ue:=e7 c G DS;have Ug:=e7 c G DT;have Uh:=e7 c G DU;have XT:=e7 c G XD;have XU:=e7 c G XF;have Eh:=e7 c G Ec;have XW:=e7 c G XG;have XY:=e7 c G XH;have XZ:=e7 c G XQ;have ec:wt w K mg o:=#[hT c G cw,hT c G Xz,hT c G cv,hT c G de,hT c G D0,Uh,hT c G XA,#[_,e7 c G dc],#[_,e7 c G dr],#[_,e7 c G M9],IB XT TL,#[_,e7 c G TN],#[_,e7 c G wQ],IB XU TV,#[_,e7 c G Nf],#[_,e7 c G lX],Ug,#[_,e7 c G wR],#[_,e7 c G Ng],hT c G da,#[_,_,_,Eh,Bw.1,By,BD.1,L2.nI (Lx xu) (L2.nI (Lx xA) (L2.nI (Lx xB) (L2.nI (Lx xC) (L2.nI (Lx xD) (L2.nI (Lx xE) L2.SI)))))],IB XW T3,#[_,_,_,XY,T4,T5.1,λk z g=>by
   obtain⟨rfl,rfl⟩|g:=L3.nG g
   .exact#[_,Nh]
   obtain⟨rfl,rfl⟩|g:=L3.nG g
   .exact#[_,Ni]
   obtain⟨rfl,rfl⟩|g:=L3.nG g
   .exact#[_,Nj]
   obtain⟨rfl,rfl⟩|g:=L3.nG g
   .exact#[_,Nk]
   obtain⟨rfl,rfl⟩|g:=L3.nG g
   .exact#[_,Nm]
   obtain⟨rfl,rfl⟩|g:=L3.nG g
   .exact#[_,Nn]
   cases g],dZ,yc,#[_,e7 c G Np],Bs,yd,hT c G c8,bL,x9,#[_,e7 c G XI],yb,DP,Bq,Br,#[_,e7 c G T7],#[_,e7 c G dq],#[_,e7 c G T8],#[_,e7 c G dk],IB XZ Ub,#[_,e7 c G dj],Nu,Gz,Nv,GA,Uc,MQ,Nx,Ud,Bp,hT c G df,Eg,hT c G BE,Ny,Ue,hT c G BF,hT c G y_bool,hT c G c5]
 refine#[Zm,?bind,λbase _ _=>?_]
 case bind=>
  obtain⟨dV,oc,od,kV,doc,pm,an,dP,ct,B6,rfl,lk,gX⟩:=B.ex;cases (show dV=.none from B.dn);exactλs v=>.of_eq rfl
 have Nz:=YC l.prog w mg base c G zo;have NB:=YC l.prog w mg base c G zq;have q:=@Yx l.prog w mg base K h o c G;have r0:RR l.prog w K mg base o h 0:=#[c,G,ec,λi h=>by cases h];have r1:=qC r0 nL MR Ms;have r2:=qC r1 jd MS Mu;have cf:=qC (qC (qC (qC (qC (qC (qC (qC (qC (qC (qC r2 jv GB Gi) kJ MT Mv) iI DV DG) kK MV Mw) kL MX Mx) kM MY My) gj GC Gj) mV Tq Tc) gQ Bt Bj) mW Tr Td) qI Tt Te;have cb:=rs cf λY d=>qo.mk ((NB)) d;have b4:=qX cb gk GF DH;have b0:=qX b4 cR tX rY;have bD:=qX b0 cS tY rZ;have bq:=qX bD dg wL tR;have bp:=qX bq dh wM tS;have bo:=qX bp dG tZ r6;have bj:=qX bo gq GH DI;have bg:=qC bj kN MZ Mz;have bc:=rs bg λY d=>qo.mk ((Nz)) d;have ba:=qX bc iu M0 Gn;have a0:=qC (qC ba fW ye x6) iJ DW DJ;have ax:=qX a0 fL DX Bk;have aw:=qX ax iy M3 Gp;have ar:=qX aw iz M4 Gq;have ag:=qC ar jw GJ Gr;have af:=qX ag iA M5 Gs;have ae:=qX af jx Tv MB;have aa:=qX ae jy Tw MC;have Z:=qX aa eO Bu x8;have X:=qX Z iB M6 Gu;have V:=qC X iK DY DK;have U:=qX V jz Tz MD;have T:=qC (qC (qC (qC (qC (qC (qC (qC (qC (qC (qC (qC U iL DZ DL) jA GK Gv) kO M7 MF) qK Xx Xr) qL Xy Xs) ck pG pC) cM qY qP) jB GL Gw) cu pH pD) eX t6 tU) cO qZ qQ) gR Bv Bl;have S:=qC (qC (qC (qC (qC (qC (qC T dN rg qR) eY t7 tV) eZ t8 tW) cP ri qS) fM wN wJ) fN wO wK) cY sd r9;have A:=qX S jC TF MG;have BH:eU l.prog w K mg base tG 1 qU _ ["self","boxes","names","tree","ins","outs","ways"] (oy K o "Chart" 7 mX mY mZ):=Ic D.1 n9 λdP Ar outer s H E b a y d hp=>by
  obtain⟨p0,p1,p2,p3,p4,p5⟩:=a;refine Bm ?_ p0 p1 p2 p3 p4 p5 y hp;exact mI #[#[n9.nd,rfl,.never],d.units] A d
 have Ei:eU l.prog w K mg base tG 1 sY _ ["self","kinds","elders","starts"] (oy K o "Tree" 4 n5 n6 n8):=Ic I.1 qT λdP Ar outer s H E b a y d hp=>by
  obtain⟨p0,p1,p2⟩:=a;refine DM ?_ p0 p1 p2 y hp;exact mI #[#[qT.nd,rfl,.never],d.units] A d
 have R:=rs A λY d=>Fm.mk #[_,_,_,#[Ti,D.a,D.i,Tj],BH,XS,BG] d;have P:=rs R λY d=>Fm.mk #[_,_,_,#[Xv,I.a,I.i,Xw],Ei,dy,Ef] d;have C:=qX P pA du Xu;have NC:=q 10 (zi fP.f) (y3 fP.f) (y0 fP.f) M8  Gy λd u p=>ML (by exact#[mI u C d,zo.tk,zq.tk,rfl,rfl,rfl,dw.1]) p;have O:=rs C λY d=>Fc.mk NC d;have c4:eU l.prog w K mg base tG 12 _ _ ["script"] (HW K o 1 nM nO nP):=uS B.1 Tg λdP Ar outer s H E b a _ d hp=>by
  refine MI ?_ hp;exact mI #[#[Tg.nd,rfl,.never],d.units] O d
 exact c4.imp (Y2 (λ_=>rfl) (λ_=>rfl) cp)
def walk{l:PySem.W.OpenLaw}{q:Program}{loose:AT}{o:BM->Heap->Prop}{e:World->Heap->Prop}{d:DefRec}{K:Params->Frag}(g:l.most=some 63)(b:d.params.defaults=[])
  (j:∀(w:World) (h:Heap),e w h->(K w.params).In h)
  (F:∀(w:World) (mg:BM) (c:Addr) (h:Heap),(K w.params).In h->h.Ns mainGlobals mg->mg d.name=some (.ref c) →
   ∃fd:FuncData,(∀(s:Shared) (u:Value),BindsTo s fd #[[u],[]] [("script",u)])/\∀base:Heap,(K w.params).In base->base.Ns mainGlobals mg->eU l.prog w (K w.params) mg base tG 12 c fd ["script"] (HW (K w.params) (λ_=>0) 1 nM nO nP)) :
  PySem.W.WalkO q loose o e l.row.toRowW d [] (λf vs=>PySem.call f vs):=
 L2.UZ (n:=63) (k:=12) (x:="script") (CX:=λ_=>tG) (sp:=λw=>HW (K w.params) (λ_=>0) 1 nM nO nP) g WA b #[rfl,WA,WA] j F (λ_ _ a ns i _ m=>Xt rfl i rfl m) λ_ _ _ _ _ z=>z
end Law
end
namespace PySem.W.Fast
def tw17531591237550291370:=0
def tw13018204815349045825:=0
def tw412749487697344511:=0
def tw39999986313178313:=0
def tw17198706789722806610:=0
def tw13104698770624715183:=0
def tw10001056901496632036:=0
def tw14260627750463684876:=0
def tw15458399802428553086:=0
def tw3803193379700270228:=0
def tw1432020074032572347:=0
def tw8332745034115480756:=0
def tw15405426741495640052:=0
def tw15263835292363400692:=0
def tw16090553128836897431:=0
def tw11176321058606367303:=0
def tw4292282035609529328:=0
def tw5033761047945106585:=0
def tw4451548765993984768:=0
def tw4509336793866525875:=0
def tw18146556098547705392:=0
def tw8350314157351547473:=0
def tw9364744384073481611:=0
def tw8922005431844142241:=0
def tw5898713890793452022:=0
def tw17224419214141670838:=0
def tw4047831979833476776:=0
def tw13340944568484286301:=0
def tw16223544403528600181:=0
def tw825705656062214523:=0
def tw6106611454187199256:=0
def tw13030875385184044000:=0
def tw9820991358236262152:=0
def tw15822370742061869742:=0
def tw18043629609561408955:=0
def tw17060262175249337421:=0
def tw1553248577940973771:=0
def tw11247044297047042881:=0
def tw12125083367091771274:=0
def tw7234359330381164304:=0
def tw86874526375219189:=0
def tw17390515761099465017:=0
def tw14481681063398681292:=0
def tw734956289957226559:=0
def tw6635225225498384449:=0
def tw18320652896767262379:=0
def tw14444049321997060908:=0
def tw11674046553175525654:=0
def tw10234486083737955442:=0
def tw17622609528700613558:=0
def tw14504577096355356929:=0
def tw7280018144955547743:=0
def tw12178074042369102540:=0
def tw10376486955430641923:=0
def tw18296919397505526016:=0
def tw10167356425674432077:=0
def tw11173612763408131549:=0
def tw6227563540130587360:=0
def tw14453946539118920620:=0
def tw270216392542708633:=0
def tw8807671175307595101:=0
def tw13310196218405322187:=0
def tw1874678566626675744:=0
def tw5303690374337948684:=0
def tw7810922317219666245:=0
def tw17485558514972284549:=0
def tw6128063346085439081:=0
def tw6225877124858309845:=0
def tw7049961267266128811:=0
def tw9204749630130180669:=0
def tw5452570542247238591:=0
def tw5837715200485078652:=0
def tw7312851757591810429:=0
def tw11921872933639492343:=0
def tw801906066876711358:=0
def tw13866167483318496671:=0
def tw7781396897836685967:=0
def tw17518006952865309461:=0
def tw2883024024555787641:=0
def tw9382379590375749126:=0
def tw1215602563753606112:=0
def tw1571767750904386692:=0
def tw16346003443605294994:=0
def tw6089577081108974458:=0
def tw9165370021681368943:=0
def tw17232220096544752348:=0
def tw3802296233369296630:=0
def tw1587920736629169880:=0
def tw16570702353377419409:=0
def tw11467735227715381442:=0
def tw7206099558529605841:=0
def tw15716998808430653628:=0
def tw16621350635764922594:=0
def tw11239288155755742351:=0
def tw13235198468723348978:=0
def tw10894301445858768527:=0
def tw8662969460290820000:=0
def tw5544486550204217541:=0
def tw2849037186325839198:=0
def tw7530863321773394228:=0
def tw7925295971034763604:=0
def tw15418739589953786904:=0
def tw501434045214308433:=0
def tw16690321959941617348:=0
def tw12596763265069784219:=0
def tw9765725282663216078:=0
def tw17311636570021678139:=0
def tw4049156941359387145:=0
def tw11006253753574396174:=0
def tw2502026226864633756:=0
def tw9414796752879578243:=0
def tw7004910319460030741:=0
def tw5592794894604016522:=0
def tw14022581167096320920:=0
def tw1765735632612828261:=0
def tw6150647218923064072:=0
def tw12122321023757242453:=0
def tw15040252167474876302:=0
def tw16479149598423172012:=0
def tw13664254899732664410:=0
def tw8417387812899304986:=0
def tw13779539973928004505:=0
def tw16143670553662227312:=0
def tw13749352924739083738:=0
def tw3461364003302196040:=0
def tw9458225135952101263:=0
def tw634024251741153410:=0
def tw5655841582433019468:=0
def tw1419429516459569499:=0
def tw18272898871826506445:=0
def tw13527267642585883851:=0
def tw15560202306748906114:=0
def tw13389393191341429658:=0
def tw4090977169574691911:=0
def tw14275523875279069690:=0
def tw9352894800931716375:=0
def tw17449712062953642555:=0
def tw11981589866790391768:=0
def tw14771550278146820937:=0
def tw6874167870018131334:=0
def tw12508997679080532656:=0
def tw1678479418707545539:=0
def tw6817224578094048116:=0
def tw2091635280111620345:=0
def tw5448492143666544849:=0
def tw4628802989335452876:=0
def tw8933316496359054514:=0
def tw9448048090489955834:=0
def tw10736450345838993483:=0
def tw15891361940561317805:=0
def tw8059732491686062257:=0
def tw14978048947086400452:=0
def tw5115185622756221655:=0
def tw8165291387039786245:=0
def tw8789397547461740058:=0
def tw11839145283810333066:=0
def tw5752431873293171945:=0
def tw9896952894370434452:=0
def tw14005723875014935227:=0
def tw3507647491178255668:=0
def tw9761290340159462283:=0
def tw17093059394263023647:=0
def tw6511765119821247462:=0
def tw14312207558421105149:=0
def tw2410199059367633216:=0
def tw17165467944353929913:=0
def tw13390405039061922837:=0
def tw818038274879269696:=0
def tw9381789395961818320:=0
def tw13677394532206663578:=0
def tw11138096251443885865:=0
def tw2759464178256553020:=0
def tw18249810443667610036:=0
def tw4787936777743283548:=0
def tw7536969357108881223:=0
def tw14692148188293010838:=0
def tw17965711317115634920:=0
def tw1158971980638318950:=0
def tw949198838934369930:=0
def tw16791615757700645129:=0
def tw6672821750738378112:=0
def tw2677413631947224109:=0
def tw12522829285356600085:=0
def tw168970945689522921:=0
def tw7457921781680387259:=0
def tw9665499702281073404:=0
def tw5631787768701416693:=0
def tw8078931386832176176:=0
def tw9062865373531949875:=0
def tw8035200350280111304:=0
def tw16101267416950266955:=0
def tw10114235974644847361:=0
def tw11732762093918350472:=0
def tw12790933974737796850:=0
def tw16936446718206471066:=0
def tw11695400596770693532:=0
def tw7764452203175186865:=0
def tw5020009509636723382:=0
def tw17722856373963485001:=0
def tw15532923860087324201:=0
def tw8459804508877262449:=0
def tw14271996827649359340:=0
end PySem.W.Fast
open PySem PySem.W PyProof.Rows
set_option maxRecDepth 100000 in
set_option maxHeartbeats 0 in
theorem PySem.Challenge.cw_moodtree_k21_the_first_bad_row_holds : PySem.Challenge.rw_moodtree_k21_the_first_bad_row.Holds := by
 w_on; o_law; k_head; (case hw => w_witness2)
 k_fill
 refine Law.walk (l := PySem.Challenge.rw_moodtree_k21_the_first_bad_row) rfl rfl (λw h Y => PySem.W.kIn_of Y) ?F
 case F =>
   intro w mg fa h KX G hmg
   apply Law.all_mk KX G hmg
   all_goals first | exact L3.Wq.mk (n := 1) rfl | (refine L3.Wq.mk (n := 2) ?_; kernel_rfl) | (refine L3.Wq.mk (n := 3) ?_; decide) | (refine L3.Wq.mk (n := 4) ?_; repeat' (first | exact L3.abr | apply L3.V7 | exact L3.abt | apply L3.V8 | apply L2.jj.mk | kit_is | kts_exm | k_is | decide +kernel)) | (refine L3.Wq.mk (n := 6) ?_; k_keys) | (apply L3.fnX <;> k_is) | (apply L3.fn1 <;> k_is) | (apply L3.abq <;> first | k_is | kernel_rfl) | (apply L3.xj <;> first | (apply L3.fn2 <;> k_is) | k_is | kernel_rfl) | (apply L3.fn2 <;> k_is) | (apply L2.Ej.mk <;> k_is) | ((try delta L3.En); (try delta L2.bS); (try delta L3.IA); (try delta L3.qd); k_is)
