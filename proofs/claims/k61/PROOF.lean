import PyProof.Rows.All
import Wide.All
import OpenK.AllK
import Wide.FinOn
import Lean
import PyProof.EqAt
import PyProof.EqKinds
import PyProof.TupleCall
import PySem.Challenge.RW_moodtree_k61_whole_least_runs_alike
set_option Elab.async false
set_option linter.all false
set_option maxRecDepth 100000
set_option maxHeartbeats 4000000
open PySem.W (instObj methodObj hideAll Frag lookIn plainGet hasDictIn findIn handedIn plainGet_of isFn plainOver takerIn makesIn emptyDict keepIn callWith_K0 cellsFrom_some fnOf codeIn nsOkIn nsIn tailIn exmOne specialIn readsIn findCls)
def We{p:Prop}(h:p:=by omega):p:=h
def Wl{p:Prop}(h:p:=by decide +kernel):p:=h
def Wp{p:Prop}(h:p:=by decide):p:=h
def Uf{p:Prop}(h:p:=by simp):p:=h
noncomputable section
namespace L2
open PySem PySem.Spec PyProof.Rows
abbrev ar0:=@wpAny_bind
abbrev ar3:=@List.length_map
abbrev ar4:=@List.mem_cons_self
abbrev ar5:=@List.mem_append_right
abbrev ar6:=@List.getElem?_eq_getElem
abbrev ar7:=@List.append_assoc
abbrev ar8:=@Nat.le_of_ble_eq_true
abbrev ar9:=@List.mem_cons_of_mem
abbrev asa:=@List.length_append
abbrev asb:=@List.mem_cons
abbrev asd:=@wpAny_pure
abbrev ase:=@List.mem_append_left
abbrev asf:=@List.mem_append
abbrev ash:=@if_neg
abbrev asi:=@List.getElem?_map
abbrev asj:=@List.getD_eq_getElem?_getD
abbrev asl:=@List.getElem?_eq_some_iff
abbrev asn:=@List.map_append
abbrev aso:=@List.not_mem_nil
abbrev asp:=@Nat.le_refl
abbrev asq:=@List.mem_map
abbrev asr:=@Bool.false_ne_true
abbrev ass:=@if_pos
abbrev asu:=@List.mem_of_getElem?
abbrev asv:=@Heap.get?_push_of_some
abbrev asw:=@List.mem_singleton
abbrev asx:=@List.append_nil
abbrev asy:=@List.size_toArray
abbrev asz:=@List.length_range
abbrev asA:=@List.map_cons
abbrev asB:=@of_decide_eq_true
abbrev asC:=@List.map_map
abbrev asD:=@sizeLine_eq
abbrev asE:=@Option.some.inj
abbrev asF:=@Option.map_eq_some_iff
abbrev asH:=@Heap.lt_size
abbrev asI:=@Bool.and_eq_true
abbrev asJ:=@of_decide_eq_false
abbrev asK:=@List.length_take
abbrev asL:=@List.perm_append_comm
abbrev asM:=@Heap.get?_push_size
abbrev asN:=@List.length_cons
abbrev asO:=@List.cons_append
abbrev asP:=@Int.emod_nonneg
abbrev asQ:=@Int.emod_lt_of_pos
abbrev asR:=@List.lookup_cons
abbrev asS:=@decide_eq_false
abbrev asT:=@Int.toNat_natCast
abbrev asU:=@Nat.zero_le
abbrev asV:=@Nat.le_trans
abbrev asW:=@List.Sublist.append
abbrev asX:=@List.nodup_append
abbrev asY:=@List.Perm.append_left
abbrev asZ:=@List.Sublist.refl
abbrev as1:=@List.getElem?_append_left
abbrev as2:=@List.reverse_cons
abbrev as3:=@List.idxOf_lt_length_iff
abbrev as4:=@List.mem_range
abbrev as5:=@Nat.lt_of_lt_of_le
abbrev as6:=@List.nodup_cons
abbrev as7:=@or_false
abbrev as8:=@Nat.ne_of_lt
abbrev as9:=@List.take_add_one
abbrev ata:=@List.mem_filter
abbrev atb:=@wpAny_call_entry
abbrev atc:=@wpAny_mono
abbrev atd:=@List.getElem?_eq_none
abbrev ate:=@List.take_length
abbrev atf:=@wpAny_newObj_type
abbrev atg:=@Int.zero_add
abbrev ath:=@List.mem_or_eq_of_mem_set
abbrev ati:=@List.filterMap_cons
abbrev atj:=@List.getElem?_range
abbrev atk:=@List.map_congr_left
abbrev atl:=@List.take_append_drop
abbrev atm:=@wpAny_dictEntries
abbrev atn:=@PyProof.Rows.slot_tuple_getitem
abbrev ato:=@wpAny_callSpecial?_slot
abbrev atp:=@List.mem_of_mem_take
abbrev atq:=@List.perm_middle
abbrev atr:=@List.sublist_append_right
abbrev ats:=@beq_eq_false_iff_ne
abbrev att:=@List.replicate_succ
abbrev atu:=@List.mem_iff_getElem?
abbrev atv:=@wpAny_field
abbrev atw:=@List.range_succ
abbrev atx:=@PySem.W.mg_none_of
abbrev aty:=@Nat.le_of_lt
abbrev atz:=@decide_eq_true
abbrev atA:=@List.nodup_nil
abbrev atB:=@Heap.SameBut.update
abbrev atD:=@List.length_replicate
abbrev atE:=@Obj.data_mapFields
abbrev atF:=@List.length_filterMap_le
abbrev atG:=@PySem.W.mg_of
abbrev atH:=@PySem.F.slot_dict_itemiterator_next
abbrev atJ:=@PySem.F.plainAttrs_list
abbrev atL:=@PySem.F.slot_dict_keyiterator_next
abbrev atM:=@List.idxOf_append
abbrev atN:=@List.nil_append
abbrev atO:=@PySem.mem_of_lookup
abbrev atP:=@List.perm_iff_count
abbrev atQ:=@Paired.length
abbrev atR:=@wpAny_holding
abbrev atU:=@List.length_drop
abbrev atV:=@beq_self_eq_true
abbrev atW:=@List.getElem_mem
abbrev atX:=@Heap.get?_update_self
abbrev atY:=@Array.getElem?_toList
abbrev atZ:=@Nat.lt_of_le_of_lt
abbrev at4:=@Bool.false_eq_true
abbrev at5:=@if_false
abbrev at6:=@List.map_nil
abbrev at8:=@List.length_set
abbrev at9:=@List.find?_cons
abbrev aua:=@wpAny_typeNameOfWhole_itemiter
abbrev aub:=@List.flatten_cons
abbrev auc:=@List.count_append
abbrev aud:=@wpAny_typeNameOfWhole_keyiter
abbrev aue:=@Array.length_toList
abbrev auf:=@List.all_eq_true
abbrev auh:=@List.filter_append
abbrev aui:=@List.getElem_idxOf
abbrev auj:=@Ne.symm
abbrev auk:=@wpAny_passesOwn
abbrev aul:=@PySem.W.methodCall_KW
abbrev aum:=@List.foldl_cons
abbrev aun:=@List.length_singleton
abbrev auo:=@wpAny_dictEpoch
abbrev aup:=@List.length_filter_le
abbrev auq:=@List.getElem?_append_right
abbrev aur:=@Array.getElem?_eq_some_iff
abbrev aus:=@wpAny_setField
abbrev aut:=@List.filter_cons
abbrev auu:=@wpAny_getItem_str_slice
abbrev auv:=@wpAny_attempt
abbrev auw:=@List.map_take
abbrev auy:=@List.mem_filterMap
abbrev auz:=@wpAny_Call_Name_kw
abbrev auA:=@wpAny_specialOf
abbrev auB:=@wpAny_setField_rec
abbrev auC:=@Nat.div_add_mod
abbrev auD:=@List.filter_map
abbrev auE:=@Heap.get?_update_other
abbrev auF:=@Calls.callWith_builtin
abbrev auG:=@List.ext_getElem?
abbrev auH:=@F.slot_tuple_hash
abbrev auI:=@List.flatMap_cons
abbrev auJ:=@if_true
abbrev auK:=@Obj.isFreed_of_fields
abbrev auL:=@wpAny_notOrdered_dict
abbrev auM:=@PyProof.Rows.callWith_type1
abbrev auN:=@beq_iff_eq
abbrev auO:=@call_meets
abbrev auP:=@List.mem_of_mem_drop
abbrev auQ:=@wpAny_isInstance
abbrev auR:=@List.idxOf_cons_self
abbrev auS:=@Nat.lt_irrefl
abbrev auT:=@List.any_cons
abbrev auU:=@PySem.W.hideAll_get
abbrev auV:=@List.flatMap_append
abbrev auW:=@Int.toNat_of_nonneg
abbrev auX:=@Bool.eq_iff_iff
abbrev auY:=@List.mem_of_find?_eq_some
abbrev auZ:=@Array.getElem?_eq_getElem
abbrev au0:=@PySem.W.of_hideAll
abbrev au1:=@PySem.W.callWith_K
abbrev au2:=@PySem.F.args_tuple_add_2
abbrev au3:=@Nat.lt_or_ge
abbrev au4:=@List.map_singleton
abbrev au5:=@List.eq_of_mem_replicate
abbrev au6:=@List.map_set
abbrev au7:=@List.Perm.refl
abbrev au8:=@PySem.F.entry_tuple_add
abbrev au9:=@List.length_eq_zero_iff
abbrev ava:=@List.pairwise_singleton
abbrev avb:=@wpAny_truthy_bool
abbrev avc:=@eqIsQuiet_byValue
abbrev avd:=@Nat.le_succ
abbrev Key:=Sum Int Str
def Fj:Key->Value->Bool
 | .inl k,v=>Value.isInt k v
 | .inr x,v=>Value.isStrOf x v
def aml(w:World):Key->Int
 | .inl k=>hashInt k
 | .inr x=>hashStr w x
theorem fL:∀{k:Key} {v:Value},Fj k v=true->(∃i t,k=Sum.inl i/\v=Value.int i t)\/(∃x t,k=Sum.inr x/\v=Value.str x t)
 | .inl i,v,h=>by
   obtain⟨t,e⟩:=Value.isInt_shape (k:=i) (v:=v) h;exact .inl ⟨i,t,rfl,e⟩
 | .inr x,v,h=>by
   obtain⟨t,e⟩:=Value.isStrOf_shape (x:=x) (v:=v) h;exact .inr ⟨x,t,rfl,e⟩
def Rc(i:Int)(t:Tok):Fj (.inl i) (.int i t)=true:=by simp[Fj,Value.isInt]
def Rf(x:Str)(t:Tok):Fj (.inr x) (.str x t)=true:=by simp[Fj,Value.isStrOf]
def aeF(a b:Int):decide ((Sum.inl a:Key)=Sum.inl b)=(a==b):=by
 by_cases e:a=b
 . subst e;simp
 . have h:¬ (Sum.inl a:Key)=Sum.inl b:=fun q=>e (Sum.inl.inj q);rw[asS h];exact(ats.mpr e).symm
def aeG(a b:Str):decide ((Sum.inr a:Key)=Sum.inr b)=decide (a=b):=by
 by_cases e:a=b
 . subst e;simp
 . have h:¬ (Sum.inr a:Key)=Sum.inr b:=fun q=>e (Sum.inr.inj q);rw[asS h,asS e]
def aeH(a:Int)(b:Str):decide ((Sum.inl a:Key)=Sum.inr b)=false:=asS (fun q=>nomatch q)
def aeI(a:Str)(b:Int):decide ((Sum.inr a:Key)=Sum.inl b)=false:=asS (fun q=>nomatch q)
def gj(prog:Program)(w:World):PySem.KeyKind prog w Key where
 is:=Fj
 hash:=aml w
 inj:=fun v a b ha hb=>by
   rcases fL ha with⟨i,t,rfl,rfl⟩|⟨x,t,rfl,rfl⟩
   . rcases fL hb with⟨j,u,rfl,e⟩|⟨y,u,rfl,e⟩
     . injection e with e1 _;rw[e1]
     . exact nomatch e
   . rcases fL hb with⟨j,u,rfl,e⟩|⟨y,u,rfl,e⟩
     . exact nomatch e
     . injection e with e1 _;rw[e1]
 byValue:=fun k v h=>by
   rcases fL h with⟨i,t,rfl,rfl⟩|⟨x,t,rfl,rfl⟩<;>rfl
 pyHash:=fun hv h=>by
   rcases fL hv with⟨i,t,rfl,rfl⟩|⟨x,t,rfl,rfl⟩
   . exact wpAny_pyHash_int h
   . exact wpAny_pyHash_str h
 eqBool:=fun hu hv h=>by
   rcases fL hu with⟨i,t,rfl,rfl⟩|⟨x,t,rfl,rfl⟩
   . rcases fL hv with⟨j,u,rfl,rfl⟩|⟨y,u,rfl,rfl⟩
     . rw[aeF]at h;exact wpAny_eqBool_int h
     . rw[aeH]at h;exact SeqAt.EqAt.int_str i t y u _ _ _ _ h
   . rcases fL hv with⟨j,u,rfl,rfl⟩|⟨y,u,rfl,rfl⟩
     . rw[aeI]at h;exact SeqAt.EqAt.str_int x t j u _ _ _ _ h
     . rw[aeG]at h;exact wpAny_eqBool_str h
 «strs»:=fun k x t v h=>by
   rcases fL h with⟨i,u,rfl,e⟩|⟨y,u,rfl,e⟩
   . exact nomatch e
   . injection e with e1 _;subst e1;cases v<;>rfl
def JG(prog:Program)(w:World)(i:Int)(t:Tok):(gj prog w).is (.inl i) (.int i t)=true:=Rc i t
def JH(prog:Program)(w:World)(x:Str)(t:Tok):(gj prog w).is (.inr x) (.str x t)=true:=Rf x t
inductive V where
 | non|bl (b:Bool)|int (i:Int)|str (x:Str)|OO (b:Array UInt8)|flt (b:UInt64)|ref (a:Addr)|ty (n:String)
 deriving DecidableEq
def RelV:V->Value->Prop
 | .non,u=>u=Value.none
 | .bl b,u=>u=Value.bool b
 | .int i,u=>∃t,u=Value.int i t
 | .str x, u => ∃ t, u = Value.str x t
 | .OO b,u=>∃t,u=Value.bytes b t
 | .flt b,u=>∃t,u=Value.float b t
 | .ref a,u=>u=Value.ref a
 | .ty n,u=>u=Value.type n
abbrev _root_.BN:=List V
abbrev _root_.BY:=List Value
abbrev Vals:BN->BY->Prop:=Paired RelV
variable{xs:BN}{us:BY}
theorem Vals.length(r:Vals xs us):xs.length=us.length:=atQ r
theorem Vals.get:∀{xs:BN} {us:BY} {i:Nat} {x:V},Vals xs us->xs[i]? = some x->∃u,us[i]? = some u/\RelV x u
 | _,_,_,_,.nil,e=>by simp at e
 | _,_,0,_,.cons r _,e=>by simp at e;subst e;exact⟨_,rfl,r⟩
 | _,_,i+1,x,.cons _ t,e=>by
   obtain⟨u,h1,h2⟩:=Vals.get (i:=i) (x:=x) t (by simpa using e);exact⟨u,by simpa using h1,h2⟩
theorem Vals.set{x:V}{u:Value}(r:RelV x u):∀{xs:BN} {us:BY} (i:Nat),Vals xs us->Vals (xs.set i x) (us.set i u)
 | _,_,_,.nil=>.nil
 | _,_,0,.cons _ t=>.cons r t
 | _,_,i+1,.cons q t=>.cons q (Vals.set r i t)
theorem Vals.append:∀{xs ys:BN} {us ws:BY},Vals xs us->Vals ys ws->Vals (xs++ys) (us++ws)
 | _,_,_,_,.nil,s=>s
 | _,_,_,_,.cons r t,s=>.cons r (Vals.append t s)
theorem Vals.take:∀{xs:BN} {us:BY} (n:Nat),Vals xs us->Vals (xs.take n) (us.take n)
 | _,_,0,_=>.nil
 | _,_,_+1,.nil=>.nil
 | _,_,n+1,.cons r t=>.cons r (Vals.take n t)
theorem Vals.drop:∀{xs:BN} {us:BY} (n:Nat),Vals xs us->Vals (xs.drop n) (us.drop n)
 | _,_,0,r=>r
 | _,_,_+1,.nil=>.nil
 | _,_,n+1,.cons _ t=>Vals.drop n t
def sr:Option V->Option Value->Prop
 | some v,some u=>RelV v u
 | none,none=>True
 | _,_=>False
def KV{κ:Type}:List (κ×V)->List (κ×Value)->Prop:=Paired fun(p:κ×V) (q:κ×Value)=>p.1=q.1/\RelV p.2 q.2
def kV:Key->V
 | .inl i=>.int i
 | .inr x=>.str x
abbrev _root_.CO:=List Key
abbrev _root_.BS:=List (CO×V)
abbrev _root_.CA:=List (Str×V)
abbrev _root_.Cf:=List (Key×V)
abbrev _root_.D2:=Array Value
inductive HO where
 | lst (xs:BN)
 | tup (xs:BN)
 | dK (kvs:Cf)|dT (kvs:BS)
 | set (S:Int->Bool) (n:Nat)
 | ins (C dx:Addr) (fs:CA)
 | own (x:Addr)
 | xd (fs:CA)
 | met (f x:Addr)
 | rng (lo hi:Int)
 | bG (o:Obj) (u:HO)
 | tbl (ps:D2)
 | tabs (q:Str)
 | cod (q:Str)
 | ext (φ:Heap->Prop)
abbrev Hp:=Addr->Option HO
def upd(H:Hp)(a:Addr)(o:HO):Hp:=fun b=>if b=a then some o else H b
variable{H:Hp}{a:Addr}{o:HO}
def aD:upd H a o a=some o:=by unfold upd;rw[ass rfl]
variable{b:Addr}
def ak(h:b≠a):upd H a o b=H b:=by unfold upd;rw[ash h]
def aiJ{u:HO}(h:H a=some o)(h':H b=some u)(d:o≠u):a≠b:=by
 intro e;subst e;rw[h]at h';exact d (asE h')
def bL(h:H a=some o)(h':H b=none):a≠b:=by
 intro e;subst e;rw[h]at h';cases h'
section
variable(P:Program)(w:World)
abbrev _root_.EU:=List (CO×Addr×Value)
def eN(H:Hp)(h:Heap)(a:Addr):HO->Prop
 | .lst xs=>xs.length<=sizeLine/\∃(its:BY) (n:Nat),Vals xs its/\h.get? a=some {cls:=.type "list",data:=.seq its.toArray n}
 | .tup xs=>xs.length<=sizeLine/\∃its:BY,Vals xs its/\IsTup h a its.toArray
 | .dK kvs=>kvs.length<=sizeLine/\(a==sysModules)=false/\∃vs,KV kvs vs/\h.DictOf (gj P w) a vs
 | .dT kvs=>kvs.length<=sizeLine/\(a==sysModules)=false/\∃xs:EU,
     Paired (fun(p:CO×V) (q:CO×Addr×Value)=>p.1=q.1/\H q.2.1=some (.tup (p.1.map kV))/\RelV p.2 q.2.2) kvs xs ∧
     ∃o es ep,h.get? a=some o/\o.ExactDict/\o.data=.dict es ep/\es.toList=xs.map (entryOfKey (tupleKind (gj P w)))/\(xs.map (·.1)).Nodup
 | .set S n=>h.SetOf (intKind P w) a S n
 | .ins C dx fs=>H dx=some (.own a)/\fs.length<=1000/\dx≠a/\h.get? a=some (instObj C dx) ∧
     ∃mA,h.Ns1 dx mA/\(∀f,sr (fs.lookup f) (mA f))/\PySem.Within mA (fs.map (·.1))
 | .own _=>∃o,h.get? a=some o
 | .xd fs=>∃mA,h.Ns1 a mA/\∀f,sr (fs.lookup f) (mA f)
 | .rng lo hi=>∃t u v,h.get? a=some {cls:=.type "range",data:=.fields #[.int lo t,.int hi u,.int 1 v]}
 | .bG o u=>h.get? a=some o/\eN H h a u
 | .tbl ps=>h.get? a=some {cls:=.none,data:=.fields ps}
 | .tabs q=>∃ps:D2,h.get? a=some {cls:=.none,data:=.fields ps}/\TriplesOk ps.toList/\∀pos cv,codeAmong pos ps.toList=some cv->∃c,cv=.ref c/\H c=some (.cod q)
 | .cod q=>∃o vs t,h.get? a=some o/\o.data=.fields vs/\vs[1]? = some (.str q t)
 | .met f x=>h.get? a=some (methodObj (.ref f) (.ref x))
 | .ext φ=>φ h/\(∃o,h.get? a=some o)/\∀h1 h2:Heap,φ h1->(∀o,h1.get? a=some o->h2.get? a=some o)->φ h2
def uq(H:Hp)(h:Heap):Prop:=∀a o,H a=some o->eN P w H h a o
end
variable{P:Program}{w:World}{H':Hp}{h h':Heap}
theorem eN.lt(x:eN P w H h a o):a<h.objs.size:=by
 cases o with
 | lst xs=>obtain⟨_,_,_,_,e⟩:=x;exact asH e
 | tup xs=>obtain⟨_,_,_,p⟩:=x;exact p.lt
 | dK kvs=>obtain⟨_,_,_,_,o,_,_,e,_⟩:=x;exact asH e
 | dT kvs=>obtain⟨_,_,_,_,o,_,_,e,_⟩:=x;exact asH e
 | set S n=>obtain⟨o,_,_,_,e,_⟩:=x;exact asH e
 | ins C dx fs=>obtain⟨_,_,_,e,_⟩:=x;exact asH e
 | own y=>obtain⟨_,e⟩:=x;exact asH e
 | xd fs=>obtain⟨_,⟨_,_,_,e,_⟩,_⟩:=x;exact asH e
 | rng lo hi=>obtain⟨_,_,_,e⟩:=x;exact asH e
 | bG ob u=>obtain⟨e,_⟩:=x;exact asH e
 | tbl ps=>exact asH (show h.get? a=some _ from x)
 | tabs q=>obtain⟨_,e,_⟩:=x;exact asH e
 | cod q=>obtain⟨_,_,_,e,_⟩:=x;exact asH e
 | met f y=>exact asH (show h.get? a=some _ from x)
 | ext φ=>obtain⟨_,⟨_,e⟩,_⟩:=x;exact asH e
theorem Paired.aeK{α β:Type}{F G:α->β->Prop}:∀{l₁:List α} {l₂:List β},Paired F l₁ l₂->(∀a b,F a b->G a b)->Paired G l₁ l₂
 | _,_,.nil,_=>.nil
 | _,_,.cons r t,f=>.cons (f _ _ r) (Paired.aeK t f)
theorem eN.AX(x:eN P w H h a o)(k:∀b u,(b=a\/H b=some (.own a))->h.get? b=some u->h'.get? b=some u)
   (ho:∀b,H b=some (.own a)->H' b=some (.own a)) (ht:∀b xs,H b=some (.tup xs)->H' b=some (.tup xs)) (ko:∀b q,H b=some (.cod q)->H' b=some (.cod q):=by intro _ _ q;exact q):eN P w H' h' a o:=by
 induction o with
 | lst xs=>obtain⟨z,its,n,r,e⟩:=x;exact⟨z,its,n,r,k _ _ (.inl rfl) e⟩
 | tup xs=>obtain⟨z,its,r,ob,e,c⟩:=x;exact⟨z,its,r,ob,k _ _ (.inl rfl) e,c⟩
 | dK kvs=>obtain⟨z,y,vs,r,ob,es,ep,e,c⟩:=x;exact⟨z,y,vs,r,ob,es,ep,k _ _ (.inl rfl) e,c⟩
 | dT kvs=>
   obtain⟨z,y,xs,r,ob,es,ep,e,c⟩:=x;exact⟨z,y,xs,Paired.aeK r fun p q z=>⟨z.1,ht _ _ z.2.1,z.2.2⟩,ob,es,ep,k _ _ (.inl rfl) e,c⟩
 | set S n=>obtain⟨ob,es,ep,t,e,c⟩:=x;exact⟨ob,es,ep,t,k _ _ (.inl rfl) e,c⟩
 | ins C dx fs=>
   obtain⟨d,z,ne,e,mA,⟨od,es,ep,e2,c⟩,r⟩:=x;exact⟨ho _ d,z,ne,k _ _ (.inl rfl) e,mA,⟨od,es,ep,k _ _ (.inr d) e2,c⟩,r⟩
 | own y=>obtain⟨ob,e⟩:=x;exact⟨ob,k _ _ (.inl rfl) e⟩
 | xd fs=>obtain⟨mA,⟨od,es,ep,e,c⟩,r⟩:=x;exact⟨mA,⟨od,es,ep,k _ _ (.inl rfl) e,c⟩,r⟩
 | rng lo hi=>obtain⟨t,u,v,e⟩:=x;exact⟨t,u,v,k _ _ (.inl rfl) e⟩
 | bG ob u ih=>obtain⟨e,q⟩:=x;exact⟨k _ _ (.inl rfl) e,ih q⟩
 | tbl ps=>
   have e:h.get? a=some {cls:=.none,data:=.fields ps}:=x;show h'.get? a=some {cls:=.none,data:=.fields ps};exact k a _ (.inl rfl) e
 | met f y=>
   have e:h.get? a=some (methodObj (.ref f) (.ref y)):=x;show h'.get? a=some (methodObj (.ref f) (.ref y));exact k a _ (.inl rfl) e
 | tabs q=>obtain⟨ps,e,tr,cs⟩:=x;exact⟨ps,k _ _ (.inl rfl) e,tr,fun pos cv z=>let ⟨c,e1,e2⟩:=cs pos cv z;⟨c,e1,ko _ _ e2⟩⟩
 | cod q=>obtain⟨ob,vs,t,e,r⟩:=x;exact⟨ob,vs,t,k _ _ (.inl rfl) e,r⟩
 | ext φ=>obtain⟨p,⟨o,e⟩,st⟩:=x;exact⟨st _ _ p fun o q=>k _ _ (.inl rfl) q,⟨o,k _ _ (.inl rfl) e⟩,st⟩
theorem uq.lt(x:uq P w H h)(e:H a=some o):a<h.objs.size:=(x a o e).lt
theorem uq.fresh(x:uq P w H h)(e:h.objs.size<=a):H a=none:=by
 cases q:H a with
 | none=>rfl
 | some u=>exact absurd (as5 (x.lt q) e) (auS _)
theorem uq.kept(x:uq P w H h)(k:∀b u,h.get? b=some u->h'.get? b=some u):uq P w H h':=fun a o e=>
 (x a o e).AX (fun b u _ q=>k b u q) (fun _ q=>q) fun _ _ q=>q
theorem uq.laid(x:uq P w H h)(k:∀b u,h.get? b=some u->h'.get? b=some u)(hp:h.objs.size<=a)(new:eN P w (upd H a o) h' a o):uq P w (upd H a o) h':=fun b u e=>by
 have hn:=x.fresh hp;by_cases hb:b=a
 . subst hb;rw[aD]at e;cases e;exact new
 . rw[ak hb]at e;exact(x b u e).AX (fun c v _ q=>k c v q) (fun c q=>by rw[ak (bL q hn)];exact q) (fun c xs q=>by rw[ak (bL q hn)];exact q) fun c z q=>by rw[ak (bL q hn)];exact q
def Rd(H:Hp)(a:Addr)(u:HO):Prop:=H a=some u\/∃o,H a=some (.bG o u)
theorem Rd.ok{u:HO}(r:Rd H a u)(x:uq P w H h):eN P w H h a u:=by
 rcases r with r|⟨o,r⟩
 . exact x a u r
 . obtain⟨_,q⟩:=x a _ r;exact q
def Mut:Option HO->Prop
 | some (.lst _)=>True
 | some (.dK _)=>True
 | some (.dT _)=>True
 | some (.set _ _)=>True
 | some (.ins _ _ _)=>True
 | some (.ext _)=>True
 | some (.tabs _)=>True
 | _=>False
variable{x e:Addr}{o':HO}
theorem uq.write(ok:uq P w H h)(mu:Mut (H x))(he:e=x\/H e=some (.own x))(k:∀b u,b≠e->h.get? b=some u->h'.get? b=some u)(heo:∃u,h'.get? e=some u)
   (new:eN P w (upd H x o') h' x o'):uq P w (upd H x o') h':=fun b u q=>by
 have aiL:∀c y,H c=some (.own y)->c≠x:=fun c y r z=>by subst z;rw[r]at mu;exact mu
 have amm:∀c xs,H c=some (.tup xs)->c≠x:=fun c xs r z=>by subst z;rw[r]at mu;exact mu
 have amn:∀c q,H c=some (.cod q)->c≠x:=fun c q r z=>by subst z;rw[r]at mu;exact mu
 by_cases hb:b=x
 . subst hb;rw[aD]at q;cases q;exact new
 . rw[ak hb]at q;by_cases hbe:b=e
   . have q':H b=some (.own x):=by
       rcases he with z|z
       . exact absurd (hbe.trans z) hb
       . rw[hbe];exact z
     rw[q]at q';cases q';obtain⟨v,hv⟩:=heo;exact⟨v,by rw[hbe];exact hv⟩
   . refine(ok b u q).AX (fun c v hc r=>k c v ?_ r) (fun c r=>by rw[ak (aiL c b r)];exact r) (fun c xs r=>by rw[ak (amm c xs r)];exact r) fun c z r=>by rw[ak (amn c z r)];exact r
     rcases hc with rfl|hc
     . exact hbe
     . rintro rfl;rcases he with z|z
       . exact aiL c b hc z
       . rw[hc]at z;cases z;exact hb rfl
abbrev _root_.BM:=List Addr
structure Un(fs ex:BM)(H H':Hp)(h h':Heap):Prop where
 keep:∀b o,h.get? b=some o->H b=none->b∉fs->b∉ex->h'.get? b=some o
 slot:∀b o,h.get? b=some o->H b=none->b∈fs->b∉ex->∃sl,h'.get? b=some {o with slots:=sl}
 free:∀b o,h.get? b=some o->H b=none->b∉ex->H' b=none
 there:∀b o,h.get? b=some o->b∉ex->∃o',h'.get? b=some o'
 BU:∀b xs,H b=some (.tup xs)->H' b=some (.tup xs)
 eU:∀b o u,H b=some (.bG o u)->H' b=some (.bG o u)
 BV:∀b ps,H b=some (.tbl ps)->∃more,H' b=some (.tbl (ps++more))
section
variable{fs ex:BM}{H1:Hp}{h1:Heap}
theorem Un.any(u:Un fs ex H H1 h h1){ob:Obj}(q:h.get? b=some ob)(n:H b=none)(hx:b∉ex):∃sl,h1.get? b=some {ob with slots:=sl}:=by
 by_cases hb:b∈fs
 . exact u.slot b ob q n hb hx
 . exact⟨ob.slots,u.keep b ob q n hb hx⟩
theorem Un.kept(k:∀b u,h.get? b=some u->h'.get? b=some u):Un fs ex H H h h':=
 ⟨fun b ob q _ _ _=>k b ob q,fun b ob q _ _ _=>⟨ob.slots,k b ob q⟩,fun _ _ _ n _=>n,fun b ob q _=>⟨ob,k b ob q⟩,fun _ _ q=>q,fun _ _ _ q=>q,fun _ ps q=>⟨#[],by rw[q];simp⟩⟩
theorem Un.refl:Un fs ex H H h h:=Un.kept fun _ _ q=>q
theorem Un.laid(k:∀b u,h.get? b=some u->h'.get? b=some u)(hp:h.objs.size<=a)(hn:H a=none):Un fs ex H (upd H a o) h h' where
 keep:=fun b u q _ _ _=>k b u q
 slot:=fun b u q _ _ _=>⟨u.slots,k b u q⟩
 free:=fun b u q n _=>by rw[ak (as8 (as5 (asH q) hp))];exact n
 there:=fun b u q _=>⟨u,k b u q⟩
 BU:=fun b xs q=>by rw[ak (bL q hn)];exact q
 eU:=fun b u xs q=>by rw[ak (bL q hn)];exact q
 BV:=fun b ps q=>⟨#[],by rw[ak (bL q hn),q];simp⟩
theorem Un.write(mu:Mut (H x))(he:e=x\/H e=some (.own x))(k:∀b u,b≠e->h.get? b=some u->h'.get? b=some u)(heo:∃u,h'.get? e=some u):Un fs ex H (upd H x o) h h':=by
 have hx:∀b,H b=none->b≠x:=fun b n z=>by subst z;rw[n]at mu;exact mu
 have hb:∀b,H b=none->b≠e:=fun b n z=>by
   subst z;rcases he with r|r
   . exact hx b n r
   . rw[n]at r;cases r
 have hm:∀b u,H b=some u->¬ Mut (some u)->b≠x:=fun b u q nm z=>by subst z;rw[q]at mu;exact nm mu
 refine⟨fun b u q n _ _=>k b u (hb b n) q,fun b u q n _ _=>⟨u.slots,k b u (hb b n) q⟩,fun b u q n _=>by rw[ak (hx b n)];exact n,fun b u q _=>?_,
   fun b xs q=>by rw[ak (hm b _ q fun z=>z)];exact q,fun b u xs q=>by rw[ak (hm b _ q fun z=>z)];exact q,fun b ps q=>⟨#[],by rw[ak (hm b _ q fun z=>z),q];simp⟩⟩
 by_cases hbe:b=e
 . subst hbe;exact heo
 . exact⟨u,k b u hbe q⟩
end
def trk(h:Heap)(H:Hp):BM:=(List.range h.objs.size).filter fun a=>(H a).isSome
def Gs(h:Heap)(H:Hp):Heap:=hideAll h (trk h H)
def Rg(h:Heap)(H:Hp):(Gs h H).objs.size=h.objs.size:=PySem.W.hideAll_size _ _
def UM{o:Obj}(e:h.get? b=some o)(n:H b=none):(Gs h H).get? b=some o:=
 auU _ e fun hm=>by
   have q:(H b).isSome=true:=(ata.mp hm).2;rw[n]at q;simp at q
theorem Z6{o:Obj}(e:(Gs h H).get? b=some o):h.get? b=some o/\H b=none:=by
 have e':h.get? b=some o:=au0 (trk h H) e;refine⟨e',?_⟩;cases q:H b with
 | none=>rfl
 | some x=>
   have hm:b∈trk h H:=ata.mpr ⟨as4.mpr (asH e'),by simp[q]⟩;have z:(Gs h H).get? b=none:=PySem.W.hideAll_none (trk h H) hm;rw[z]at e;cases e
abbrev _root_.BA:=List (Addr×Obj)
def Z7(g h:Heap)(L:Addr):BA:=(List.range h.objs.size).filterMap fun a=>if a=L\/(g.get? a).isSome=true then none else(h.get? a).map fun o=>(a,o)
def rest(g h:Heap)(L d:Addr):BA:=(Z7 g h L).filter fun p=>decide (p.1≠d)
abbrev _root_.Bz:=Str->Option Value
structure Mod(K:Frag)(mg:Bz)(base:Heap):Prop where
 kin:K.In base
 glob:base.Ns mainGlobals mg
 blt:∃mb,base.Ns builtinsNs mb/\∀x:Str,x≠"__name__"->mb x=bootBuiltins x
 nolimit:base.NoLimit
abbrev _root_.Ap:=List Str
abbrev _root_.BB:=Value->Shared->Prop
abbrev _root_.Db:=List Env
structure Cx where
 prog:Program
 w:World
 K:Frag
 mg:Str->Option Value
 base:Heap
 A:Around
 N:Ap
 s₀:Shared
 H₀:Hp
 env:Env
 outer:Db
 stack:Db
 ex:BM
 fn:Str->Bool
 calm:Bool
 pn:BA
 xe:Value->Shared->Prop
def ur(l:Db):BM:=l.filterMap (·.frame)
abbrev Cx.fs(X:Cx):BM:=ur X.outer
def Vis(sc:Scope)(x:Str):Prop:=sc.names.lookup x=some .local\/sc.names.lookup x=some .cell\/sc.names.lookup x=some .free
def Loc(sc:Scope)(x:Str):Prop:=sc.names.lookup x=some .local\/sc.names.lookup x=some .cell
def Look(env:Env)(h:Heap)(m:Bz)(x:Str)(u:Value):Prop:=
 (env.kindOf x=some .local/\m x=some u)\/((env.kindOf x=some .cell\/env.kindOf x=some .free)/\∃c,env.cells.lookup x=some c/\h.IsCell c (some u))
structure Cx.Ok(X:Cx):Prop where
 mod:Mod X.K X.mg X.base
 kind:X.env.scope.kind=.function
 glob:X.env.globals=mainGlobals
 blt:X.env.builtins=builtinsNs
 above:X.s₀.heap.objs.size<=X.env.locals
 inj:∀x y c,X.env.cells.lookup x=some c->X.env.cells.lookup y=some c->x=y
 has:∀x,(X.env.kindOf x=some .cell\/X.env.kindOf x=some .free)->∃c,X.env.cells.lookup x=some c
 cab:∀x c,X.fn x=true->X.env.cells.lookup x=some c->X.s₀.heap.objs.size<=c
 hd:X.calm=true->X.A.handled=none
 frames:X.A.frames=some X.stack
 stk:X.stack=X.outer\/(X.stack=X.env::X.outer/\X.env.frame=some X.env.locals)
 exf:∀b∈X.ex,b≠X.env.locals/\∀x c,X.env.cells.lookup x=some c->c≠b
 bs:∀b o,X.base.get? b=some o->X.s₀.heap.get? b=some o/\X.H₀ b=none
 Ux:X.base.objs.size<=X.s₀.heap.objs.size
 Lx:∀b o,X.base.get? b=some o->b∉X.ex
 Rh:∀b∈X.ex,b∉X.fs
 vo:X.s₀.heap.FunFrames X.base X.outer
 UN:∀b∈X.fs,X.H₀ b=none
structure Inv(X:Cx)(pins:BA)(σ:List (Option V))(H:Hp)(s:Shared):Prop where
 ok:X.Ok
 os:s.os=X.s₀.os
 bare:AllBare s.gens
 base:Un X.fs X.ex X.H₀ H X.s₀.heap s.heap
 loc:∃m,s.heap.Ns X.env.locals m/\∀(i:Nat) (x:Str) (v:V),X.N[i]? = some x->σ[i]? = some (some v)->Vis X.env.scope x->∃u,RelV v u/\Look X.env s.heap m x u
 cell:∀x c,X.env.cells.lookup x=some c->∃v,s.heap.IsCell c v
 free:H X.env.locals=none
 lR:∀x c,X.env.cells.lookup x=some c->H c=none
 pin:∀p∈X.pn++pins,s.heap.get? p.1=some p.2/\H p.1=none/\p.1≠X.env.locals/\p.1∉X.fs/\∀v,p.2.data ≠ .cell v
 cW:uq X.prog X.w H s.heap
 len:σ.length=X.N.length
variable{X:Cx}{pins:BA}{σ:List (Option V)}{s:Shared}
theorem Cx.Ok.amo(ok:X.Ok){o:Obj}(e:X.base.get? b=some o):b∉X.fs:=fun hb=>by
 have:=(ok.vo.mem hb).1;rw[e]at this;cases this
theorem Inv.bs(I:Inv X pins σ H s):∀b o,X.base.get? b=some o->s.heap.get? b=some o/\H b=none:=fun b o e=>
 ⟨I.base.keep b o (I.ok.bs b o e).1 (I.ok.bs b o e).2 (I.ok.amo e) (I.ok.Lx b o e),I.base.free b o (I.ok.bs b o e).1 (I.ok.bs b o e).2 (I.ok.Lx b o e)⟩
theorem Inv.bk(I:Inv X pins σ H s):∀b o,X.base.get? b=some o->s.heap.get? b=some o:=fun b o e=>(I.bs b o e).1
theorem Inv.mod(I:Inv X pins σ H s):Mod X.K X.mg X.base:=I.ok.mod
theorem Inv.AY(I:Inv X pins σ H s):X.K.In s.heap:=I.ok.mod.kin.keeps I.bk
theorem Inv.lt(I:Inv X pins σ H s):X.env.locals<s.heap.objs.size:=let ⟨_,hn,_⟩:=I.loc;hn.lt
theorem Inv.sz(I:Inv X pins σ H s):X.s₀.heap.objs.size<=s.heap.objs.size:=asV I.ok.above (aty I.lt)
theorem Inv.amq(I:Inv X pins σ H s)(h:s.heap.objs.size<=a):a∉X.fs:=fun hb=>by
 obtain⟨_,o,ho,_⟩:=I.ok.vo.mem hb;exact absurd (as5 (asH ho) (asV I.sz h)) (auS _)
theorem Inv.cne(I:Inv X pins σ H s):∀x c,X.env.cells.lookup x=some c->c≠X.env.locals:=fun x c e z=>by
 obtain⟨v,o,ho,hd⟩:=I.cell x c e;obtain⟨m,⟨o',es,ep,OQ,Gu,_⟩,_⟩:=I.loc;rw[z,OQ]at ho;cases ho;rw[Gu]at hd;cases hd
theorem Inv.vo(I:Inv X pins σ H s):s.heap.FunFrames X.base X.outer:=by
 have all:∀(l:Db),(∀b∈ur l,b∈X.fs)->X.s₀.heap.FunFrames X.base l->s.heap.FunFrames X.base l:=by
   intro l
   induction l with
   | nil=>intro _ _;trivial
   | cons env r ih=>
     intro hs hl;obtain⟨hk,⟨L,o,hf,hn,ho,hd⟩,hr⟩:=hl;have hL:L∈X.fs:=hs L (by unfold ur;rw[ati,hf];exact ar4);obtain⟨sl,e⟩:=I.base.slot L o ho (I.ok.UN L hL) hL fun z=>I.ok.Rh L z hL;exact⟨hk,⟨L,_,hf,hn,e,hd⟩,ih (fun b hb=>hs b (by unfold ur;rw[ati,hf];exact ar9 _ hb)) hr⟩
 exact all X.outer (fun _ hb=>hb) I.ok.vo
theorem Inv.stack(I:Inv X pins σ H s):s.heap.FunFrames X.base X.stack:=by
 rcases I.ok.stk with e|⟨e,hf⟩
 . rw[e];exact I.vo
 . rw[e];obtain⟨m,hn,_⟩:=I.loc;refine .cons (by rw[I.ok.kind];decide) hf hn ?_ I.vo;exact Heap.get?_none_of_le (asV I.ok.Ux I.ok.above)
theorem Inv.Gv(I:Inv X pins σ H s):∀b∈ur X.stack,b∈X.env.locals::X.fs:=fun b hb=>by
 rcases I.ok.stk with e|⟨e,hf⟩
 . rw[e]at hb;exact ar9 _ hb
 . rw[e]at hb;unfold ur at hb;rw[ati,hf]at hb;exact hb
theorem Inv.Gw(I:Inv X pins σ H s):∀b∈ur X.stack,H b=none:=fun b hb=>by
 rcases asb.mp (I.Gv b hb) with e|hb
 . rw[e];exact I.free
 . obtain⟨_,o,ho,_⟩:=I.ok.vo.mem hb;exact I.base.free b o ho (I.ok.UN b hb) fun z=>I.ok.Rh b z hb
variable{t':Nat}
theorem Inv.step{g':Array GenState}{d':Drawn}{ch:BM}(I:Inv X pins σ H s)
   (Lf:∀b∈ch,(b∈X.ex\/X.s₀.heap.objs.size<=b)/\b≠X.env.locals/\(∀x c,X.env.cells.lookup x=some c->c≠b)/\∀p∈X.pn++pins,p.1≠b)
   (keep:∀b o,b≠X.env.locals->b∉X.fs->b∉ch->s.heap.get? b=some o->H b=none->h'.get? b=some o)
   (slot:∀b o,b≠X.env.locals->b∈X.fs->b∉ch->s.heap.get? b=some o->H b=none->∃sl,h'.get? b=some {o with slots:=sl}) (free:∀b o,b∉ch->s.heap.get? b=some o->H b=none->H' b=none)
   (there:∀b o,b∉ch->s.heap.get? b=some o->∃o',h'.get? b=some o')
   (BU:∀b xs,H b=some (.tup xs)->H' b=some (.tup xs)) (eU:∀b o u,H b=some (.bG o u)->H' b=some (.bG o u)) (BV:∀b ps,H b=some (.tbl ps)->∃more,H' b=some (.tbl (ps++more)))
   (ns:∀m,s.heap.Ns X.env.locals m->h'.Ns X.env.locals m) (cW:uq X.prog X.w H' h') (hg:AllBare g') :
   Inv X pins σ H' {s with heap:=h',gens:=g',drawn:=d',toks:=t'}:=by
 have neL:∀b o,X.s₀.heap.get? b=some o->b≠X.env.locals:=fun b o e=>as8 (as5 (asH e) I.ok.above);have neC:∀b o,X.s₀.heap.get? b=some o->b∉X.ex->b∉ch:=fun b o e hx hb=>by
   rcases(Lf b hb).1 with z|z
   . exact hx z
   . exact absurd (as5 (asH e) z) (auS _)
 have cellK:∀x c,X.env.cells.lookup x=some c->∀v,s.heap.IsCell c v->h'.IsCell c v:=fun x c e v ⟨o,ho,hd⟩=>by
   have nch:c∉ch:=fun z=>(Lf c z).2.2.1 x c e rfl;by_cases hc:c∈X.fs
   . obtain⟨sl,q⟩:=slot c o (I.cne x c e) hc nch ho (I.lR x c e);exact⟨_,q,hd⟩
   . exact⟨o,keep c o (I.cne x c e) hc nch ho (I.lR x c e),hd⟩
 refine⟨I.ok,I.os,hg,⟨fun b o e n hb hx=>?_,fun b o e n hb hx=>?_,fun b o e n hx=>?_,fun b o e hx=>?_,fun b xs e=>BU b xs (I.base.BU b xs e),fun b o xs e=>eU b o xs (I.base.eU b o xs e),fun b ps e=>?_⟩,?_,fun x c e=>?_,?_,fun x c e=>?_,fun p hp=>?_,cW,I.len⟩
 . exact keep b o (neL b o e) hb (neC b o e hx) (I.base.keep b o e n hb hx) (I.base.free b o e n hx)
 . obtain⟨sl,e1⟩:=I.base.slot b o e n hb hx;obtain⟨sl',e2⟩:=slot b _ (neL b o e) hb (neC b o e hx) e1 (I.base.free b o e n hx);exact⟨sl',e2⟩
 . obtain⟨o',e1⟩:=I.base.there b o e hx;exact free b o' (neC b o e hx) e1 (I.base.free b o e n hx)
 . obtain⟨o',e1⟩:=I.base.there b o e hx;exact there b o' (neC b o e hx) e1
 . obtain⟨m1,e1⟩:=I.base.BV b ps e;obtain⟨m2,e2⟩:=BV b _ e1;exact⟨m1++m2,by rw[e2,Array.append_assoc]⟩
 . obtain⟨m,hn,hl⟩:=I.loc;refine⟨m,ns m hn,fun i x v e1 e2 e3=>?_⟩;obtain⟨u,r,l⟩:=hl i x v e1 e2 e3;refine⟨u,r,?_⟩;rcases l with l|⟨k,c,e,z⟩
   . exact .inl l
   . exact .inr ⟨k,c,e,cellK x c e _ z⟩
 . obtain⟨v,z⟩:=I.cell x c e;exact⟨v,cellK x c e v z⟩
 . obtain⟨m,⟨o,_,_,ho,_⟩,_⟩:=I.loc;exact free _ o (fun z=>(Lf _ z).2.1 rfl) ho I.free
 . obtain⟨v,o,ho,hd⟩:=I.cell x c e;exact free c o (fun z=>(Lf c z).2.2.1 x c e rfl) ho (I.lR x c e)
 . obtain⟨e,n,ne,nf,d⟩:=I.pin p hp;have nch:p.1∉ch:=fun z=>(Lf p.1 z).2.2.2 p hp rfl;exact⟨keep p.1 p.2 ne nf nch e n,free p.1 p.2 nch e n,ne,nf,d⟩
theorem Inv.un(I:Inv X pins σ H s)(u:Un X.fs [] H H' s.heap h')(cW:uq X.prog X.w H' h'):Inv X pins σ H' {s with heap:=h',toks:=t'}:=by
 obtain⟨m,⟨o,es,ep,ho,r⟩,_⟩:=id I.loc;obtain⟨sl,hL⟩:=u.any ho I.free Uf;exact I.step (g':=s.gens) (d':=s.drawn) (ch:=[]) (fun _ z=>nomatch z) (fun b o _ hb _ e n=>u.keep b o e n hb Uf) (fun b o _ hb _ e n=>u.slot b o e n hb Uf) (fun b o _ e n=>u.free b o e n Uf) (fun b o _ e=>u.there b o e Uf) u.BU u.eU u.BV (fun m' hm=>by
   obtain⟨o',Uy,ep',OQ,r'⟩:=hm;rw[ho]at OQ;cases OQ;exact⟨_,Uy,ep',hL,r'⟩) cW I.bare
theorem Inv.call{g':Array GenState}{d':Drawn}{ch:BM}(I:Inv X pins σ H s)(u:Un (ur X.stack) ch H H' s.heap h')(cW:uq X.prog X.w H' h')(hg:AllBare g')
   (Lf:∀b∈ch,(b∈X.ex\/X.s₀.heap.objs.size<=b)/\b≠X.env.locals/\(∀x c,X.env.cells.lookup x=some c->c≠b)/\∀p∈X.pn++pins,p.1≠b) :
   Inv X pins σ H' {s with heap:=h',gens:=g',drawn:=d',toks:=t'}:=by
 obtain⟨m,⟨o,es,ep,ho,r⟩,_⟩:=id I.loc;obtain⟨sl,hL⟩:=u.any ho I.free fun z=>(Lf _ z).2.1 rfl;exact I.step (ch:=ch) Lf (fun b o hL hb hc e n=>u.keep b o e n (fun z=>(asb.mp (I.Gv b z)).elim hL hb) hc) (fun b o _ _ hc e n=>u.any e n hc) (fun b o hc e n=>u.free b o e n hc) (fun b o hc e=>u.there b o e hc) u.BU u.eU u.BV (fun m' hm=>by
   obtain⟨o',Uy,ep',OQ,r'⟩:=hm;rw[ho]at OQ;cases OQ;exact⟨_,Uy,ep',hL,r'⟩) cW hg
theorem Inv.turned{it:Addr}(I:Inv X pins σ H s)(k:∀b o,b≠it->s.heap.get? b=some o->h'.get? b=some o)(hn:H it=none)(hL:it≠X.env.locals)
   (h1:it∈X.ex\/X.s₀.heap.objs.size<=it) (h2:∀x c,X.env.cells.lookup x=some c->c≠it) (h3:∀p∈X.pn++pins,p.1≠it):Inv X pins σ H {s with heap:=h',toks:=t'}:=by
 have nit:∀b u,H b=some u->b≠it:=fun b u e z=>by rw[z,hn]at e;cases e
 refine I.step (g':=s.gens) (d':=s.drawn) (ch:=[it]) (fun b hb=>?_) (fun b o _ _ hc e _=>k b o (fun z=>hc (by simp[z])) e) (fun b o _ _ hc e _=>⟨o.slots,k b o (fun z=>hc (by simp[z])) e⟩) (fun _ _ _ _ n=>n)
   (fun b o hc e=>⟨o,k b o (fun z=>hc (by simp[z])) e⟩) (fun _ _ e=>e) (fun _ _ _ e=>e) (fun b ps e=>⟨#[],by rw[e];simp⟩) (fun m hm=>?_) (fun b u e=>?_) I.bare
 . have e:b=it:=by simpa using hb
   subst e;exact⟨h1,hL,h2,h3⟩
 . obtain⟨o,es,ep,ho,r⟩:=hm;exact⟨o,es,ep,k _ o (auj hL) ho,r⟩
 . refine(I.cW b u e).AX (fun c v hc q=>k c v ?_ q) (fun _ q=>q) fun _ _ q=>q;rcases hc with z|z
   . rw[z];exact nit b u e
   . exact nit c _ z
theorem Inv.tok(I:Inv X pins σ H s)(t:Nat):Inv X pins σ H {s with toks:=t}:=I.un (h':=s.heap) (t':=t) Un.refl I.cW
theorem Inv.kept(I:Inv X pins σ H s)(k:∀b u,s.heap.get? b=some u->h'.get? b=some u):Inv X pins σ H {s with heap:=h',toks:=t'}:=I.un (Un.kept k) (I.cW.kept k)
theorem Inv.laid(I:Inv X pins σ H s)(k:∀b u,s.heap.get? b=some u->h'.get? b=some u)(hp:s.heap.objs.size<=a)(new:eN X.prog X.w (upd H a o) h' a o) :
   Inv X pins σ (upd H a o) {s with heap:=h',toks:=t'}:=I.un (Un.laid k hp (I.cW.fresh hp)) (I.cW.laid k hp new)
theorem Inv.write(I:Inv X pins σ H s)(mu:Mut (H x))(he:e=x\/H e=some (.own x))(k:∀b u,b≠e->s.heap.get? b=some u->h'.get? b=some u)(heo:∃u,h'.get? e=some u)
   (new:eN X.prog X.w (upd H x o) h' x o):Inv X pins σ (upd H x o) {s with heap:=h',toks:=t'}:=I.un (Un.write mu he k heo) (I.cW.write mu he k heo new)
theorem Inv.Be{JK:BA}(I:Inv X pins σ H s)(h:∀p∈JK,s.heap.get? p.1=some p.2/\H p.1=none/\p.1≠X.env.locals/\p.1∉X.fs/\∀v,p.2.data ≠ .cell v):Inv X JK σ H s:=
 ⟨I.ok,I.os,I.bare,I.base,I.loc,I.cell,I.free,I.lR,fun p hp=>(asf.mp hp).elim (fun z=>I.pin p (ase _ z)) (h p),I.cW,I.len⟩
variable{i:Nat}
def JL{N:Ap}(hN:N.Nodup){j:Nat}{x:Str}(a:N[i]? = some x)(b:N[j]? = some x):i=j:=by
 obtain⟨h1,e1⟩:=asl.mp a;obtain⟨h2,e2⟩:=asl.mp b;exact(List.getElem_inj hN).mp (e1.trans e2.symm)
variable{M:Model}{A:Around}{E:BB}{v:V}{u:Value}{Q:Unit->Shared->Prop}
abbrev _root_.EO:=List Keyword
abbrev _root_.AB(X:Cx)(p:Pos)(e:Expr):Prop:=((backTo p (starEach [e] X.env)).all (fun x=>!x.1)&&(backToKw p (keywordEach [] X.env)).all (fun x=>x.1.isSome)&&decide ([e].length+([]:EO).length+(if ([]:EO).isEmpty then 0 else 1)<30))=true
abbrev _root_.CS:=List Expr
abbrev _root_.AC(X:Cx)(e:Expr)(es:CS):Prop:=starEach (e::es) X.env=(false,eval e X.env)::starEach es X.env
abbrev _root_.AD(x:Str):Prop:=(x==("__debug__":Str))=false
abbrev _root_.AE(x:Str):Prop:=(x==("__classdict__":Str))=false
abbrev _root_.AL(X:Cx)(p:Pos)(es:CS):Prop:=(backTo p (starEach es X.env)).any (·.1)=false
abbrev _root_.AM(X:Cx)(y:Str):Prop:=X.fn y=true\/X.env.scope.names.lookup y=some .local
abbrev _root_.AN(X:Cx)(e:Expr):Prop:=∀x,foldedSetIterable e X.env x=pure x
abbrev _root_.AS(X:Cx)(e:Expr)(f:Str):Prop:=attributeBase e f X.env (eval e X.env)=eval e X.env
def Ri{x:Str}(I:Inv X pins σ H s)(hN:X.N.Nodup)(hi:X.N[i]? = some x)(hx:Loc X.env.scope x)(r:RelV v u)
   (h:∀s',Inv X pins (σ.set i (some v)) H s'->(∃a,Heap.SameBut a s.heap s'.heap/\(a=X.env.locals\/X.env.cells.lookup x=some a))->Q () s') (hf:AM X x:=by first|exact .inl rfl|exact .inr rfl|assumption):wpAny M A (storeName X.env x u) Q E s:=by
 obtain⟨m,hn,hl⟩:=id I.loc;have aeP:(X.env.scope.kind == .class || (X.env.scope.kind == .module&&X.env.locals != X.env.globals))=false:=by rw[I.ok.kind];rfl
 have hiσ:i<σ.length:=by rw[I.len];exact(asl.mp hi).1
 have cne:=I.cne;have tracked:∀{a:Addr} {h':Heap},(∃o,s.heap.get? a=some o/\H a=none)->Heap.SameBut a s.heap h'->uq X.prog X.w H h':=fun {a h'} ha hs b ob e=>by
   obtain⟨_,_,adG⟩:=ha;refine(I.cW b ob e).AX (fun c w' hc q=>(hs.2 c ?_).trans q) (fun _ q=>q) fun _ _ q=>q;rintro rfl;rcases hc with rfl|hc
   . rw[adG]at e;cases e
   . rw[adG]at hc;cases hc
 rcases hx with hk|hk
 . refine wpAny_storeName_local hk hn (fun h' hn' hs=>?_) aeP;obtain⟨oL,_,_,hoL,_⟩:=id hn;refine h _ ⟨I.ok,I.os,I.bare,⟨fun b o e n hb hx=>?_,fun b o e n hb hx=>?_,I.base.free,fun b o e hx=>?_,I.base.BU,I.base.eU,I.base.BV⟩,⟨_,hn',fun j y v' e1 e2 e3=>?_⟩,fun y c e=>?_,I.free,I.lR,fun p hp=>?_,tracked ⟨oL,hoL,I.free⟩ hs,by simpa using I.len⟩ ⟨_,hs,.inl rfl⟩
   . exact(hs.2 b (as8 (as5 (asH e) I.ok.above))).trans (I.base.keep b o e n hb hx)
   . obtain⟨sl,e1⟩:=I.base.slot b o e n hb hx;exact⟨sl,(hs.2 b (as8 (as5 (asH e) I.ok.above))).trans e1⟩
   . obtain⟨o',e1⟩:=I.base.there b o e hx;exact⟨o',(hs.2 b (as8 (as5 (asH e) I.ok.above))).trans e1⟩
   . by_cases hj:j=i
     . subst hj;rw[hi]at e1;cases e1;rw[List.getElem?_set_self hiσ]at e2;cases e2;exact⟨u,r,.inl ⟨hk,Uf⟩⟩
     . rw[List.getElem?_set_ne (auj hj)]at e2;obtain⟨u',r',q⟩:=hl j y v' e1 e2 e3;refine⟨u',r',?_⟩;rcases q with⟨k,e⟩|⟨k,c,e,z⟩
       . refine .inl ⟨k,?_⟩;have:y≠x:=fun e=>hj (JL hN e1 (e▸hi));simp[this,e]
       . exact .inr ⟨k,c,e,z.sameBut hs (cne y c e)⟩
   . obtain⟨w',z⟩:=I.cell y c e;exact⟨w',z.sameBut hs (cne y c e)⟩
   . obtain⟨e,n,ne,nf,d⟩:=I.pin p hp;exact⟨(hs.2 p.1 ne).trans e,n,ne,nf,d⟩
 . have hfn:X.fn x=true:=by
     rcases hf with z|z
     . exact z
     . rw[z]at hk;cases hk
   obtain⟨c,hc⟩:=I.ok.has x (.inl hk);obtain⟨w',z⟩:=I.cell x c hc;refine wpAny_storeName_cell I.ok.kind hk hc z (fun h' hc' hs=>?_);obtain⟨oc,hoc,ams⟩:=id z;refine h {s with heap:=h'} ⟨I.ok,I.os,I.bare,⟨fun b o e n hb hx=>?_,fun b o e n hb hx=>?_,I.base.free,fun b o e hx=>?_,I.base.BU,I.base.eU,I.base.BV⟩,⟨m,hn.sameBut hs (Ne.symm (cne x c hc)),fun j y v' e1 e2 e3=>?_⟩,fun y c' e=>?_,I.free,I.lR,fun p hp=>?_,tracked ⟨oc,hoc,I.lR x c hc⟩ hs,by simpa using I.len⟩ ⟨c,hs,.inr hc⟩
   . exact(hs.2 b (as8 (as5 (asH e) (I.ok.cab x c hfn hc)))).trans (I.base.keep b o e n hb hx)
   . obtain⟨sl,e1⟩:=I.base.slot b o e n hb hx;exact⟨sl,(hs.2 b (as8 (as5 (asH e) (I.ok.cab x c hfn hc)))).trans e1⟩
   . obtain⟨o',e1⟩:=I.base.there b o e hx;exact⟨o',(hs.2 b (as8 (as5 (asH e) (I.ok.cab x c hfn hc)))).trans e1⟩
   . by_cases hj:j=i
     . subst hj;rw[hi]at e1;cases e1;rw[List.getElem?_set_self hiσ]at e2;cases e2;exact⟨u,r,.inr ⟨.inl hk,c,hc,hc'⟩⟩
     . rw[List.getElem?_set_ne (auj hj)]at e2;obtain⟨u',r',q⟩:=hl j y v' e1 e2 e3;refine⟨u',r',?_⟩;rcases q with q|⟨k,c',e,z'⟩
       . exact .inl q
       . refine .inr ⟨k,c',e,z'.sameBut hs ?_⟩;rintro rfl;exact hj (JL hN e1 (I.ok.inj _ _ _ e hc▸hi))
   . by_cases hcc:c'=c
     . subst hcc;exact⟨_,hc'⟩
     . obtain⟨w2,z2⟩:=I.cell y c' e;exact⟨w2,z2.sameBut hs hcc⟩
   . obtain⟨e,n,ne,nf,d⟩:=I.pin p hp;refine⟨(hs.2 p.1 ?_).trans e,n,ne,nf,d⟩;intro q;rw[q,hoc]at e;have q':oc=p.2:=asE e;exact d w' (by rw[← q'];exact ams)
def BW{x:Str}(I:Inv X pins σ H s)(hN:X.N.Nodup)(hi:X.N[i]? = some x)(hx:Loc X.env.scope x)(r:RelV v u)
   (h:∀s',Inv X pins (σ.set i (some v)) H s'->Q () s') (hf:AM X x:=by first|exact .inl rfl|exact .inr rfl|assumption):wpAny M A (storeName X.env x u) Q E s:=
 Ri I hN hi hx r (fun s' I' _=>h s' I') hf
theorem Inv.aiO{s':Shared}{ch:BM}(I:Inv X pins σ H s)(ho:s'.os=s.os)(u:Un (ur X.stack) ch H H' s.heap s'.heap)(cW:uq X.prog X.w H' s'.heap)(hg:AllBare s'.gens)
   (Lf:∀b∈ch,(b∈X.ex\/X.s₀.heap.objs.size<=b)/\b≠X.env.locals/\(∀x c,X.env.cells.lookup x=some c->c≠b)/\∀p∈X.pn++pins,p.1≠b):Inv X pins σ H' s':=by
 obtain⟨h',g',d',t',o'⟩:=s';have e:o'=s.os:=ho;subst e;exact I.call (g':=g') (t':=t') (d':=d') u cW hg Lf
abbrev _root_.ET:=Option Addr
abbrev XK:=Value->ET->Hp->Prop
abbrev St:=List (Option V)
abbrev VK:=V->Hp->Prop
abbrev TE:=St->Hp->VK->Prop
abbrev _root_.EN:=Bool->Hp->Prop
abbrev TT:=St->Hp->EN->Prop
abbrev _root_.FA:=BN->Hp->Prop
abbrev TA:=St->Hp->FA->Prop
structure Ends where
 nx:St->Hp->Prop
 rt:VK
 bk:St->Hp->Prop:=fun _ _=>False
 ct:St->Hp->Prop:=fun _ _=>False
abbrev TS:=Ends->St->Hp->Prop
def EP(X:Cx)(pins:BA)(σ:St)(Q:VK)(u:Value)(s':Shared):Prop:=∃v H',Inv X pins σ H' s'/\RelV v u/\Q v H'
def TP(X:Cx)(pins:BA)(σ:St)(Q:EN)(b:Bool)(s':Shared):Prop:=∃H',Inv X pins σ H' s'/\Q b H'
def AP(X:Cx)(pins:BA)(σ:St)(Q:FA)(us:BY)(s':Shared):Prop:=∃vs H',Inv X pins σ H' s'/\Vals vs us/\Q vs H'
def SP(X:Cx)(pins:BA)(D:Ends)(f:Flow)(s':Shared):Prop:=
 match f with
 | .next=>∃σ' H',Inv X pins σ' H' s'/\D.nx σ' H'
 | .brk=>∃σ' H',Inv X pins σ' H' s'/\D.bk σ' H'
 | .cont=>∃σ' H',Inv X pins σ' H' s'/\D.ct σ' H'
 | .ret u=>∃v σ' H',Inv X pins σ' H' s'/\RelV v u/\D.rt v H'
def PE(X:Cx)(e:Expr)(t:TE):Prop:=
 ∀(pins:BA) (s:Shared) (σ:St) (H:Hp) (Q:VK),Inv X pins σ H s->t σ H Q->wpAny (model X.prog X.w) X.A (eval e X.env) (EP X pins σ Q) X.xe s
def PT(X:Cx)(e:Expr)(t:TT):Prop:=
 ∀(pins:BA) (s:Shared) (σ:St) (H:Hp) (Q:EN),Inv X pins σ H s->t σ H Q->wpAny (model X.prog X.w) X.A (isTrue e X.env (eval e X.env)) (TP X pins σ Q) X.xe s
def PW(X:Cx)(e:Expr)(t:TT):Prop:=
 ∀(whole:Sem Value) (pins:BA) (s:Shared) (σ:St) (H:Hp) (Q:EN),Inv X pins σ H s->t σ H Q->wpAny (model X.prog X.w) X.A (isTrue e X.env whole) (TP X pins σ Q) X.xe s
def PA(X:Cx)(es:CS)(t:TA):Prop:=
 ∀(pos:Pos) (pins:BA) (s:Shared) (σ:St) (H:Hp) (Q:FA),Inv X pins σ H s->t σ H Q->wpAny (model X.prog X.w) X.A (spliced (backTo pos (starEach es X.env))) (AP X pins σ Q) X.xe s
def PS(X:Cx)(st:Stmt)(t:TS):Prop:=
 ∀(pins:BA) (s:Shared) (σ:St) (H:Hp) (D:Ends),Inv X pins σ H s->t D σ H->wpAny (model X.prog X.w) X.A (exec st X.env) (SP X pins D) X.xe s
abbrev _root_.CU:=List Stmt
def OS(X:Cx)(st:CU)(t:TS):Prop:=
 ∀(pins:BA) (s:Shared) (σ:St) (H:Hp) (D:Ends),Inv X pins σ H s->t D σ H->wpAny (model X.prog X.w) X.A (execs st X.env) (SP X pins D) X.xe s
def fX{α:Type}{t:Sem α}{Q Q':α->Shared->Prop}(h:wpAny M A t Q E s)(hQ:∀a s,Q a s->Q' a s):wpAny M A t Q' E s:=atc h hQ fun _ _ x=>x
section
def amt(i:Nat):TE:=fun σ H Q=>∃v,σ[i]? = some (some v)/\Q v H
def tC(v:V):TE:=fun _ H Q=>Q v H
def gw{x:Str}{pos:Pos}(hN:X.N[i]? = some x)(hv:Vis X.env.scope x)(hd:AD x:=by decide)(ko:AE x:=by decide):PE X (.Name x pos) (amt i):=by
 intro pins s σ H Q I h;obtain⟨v,e,h⟩:=h;obtain⟨m,hn,hl⟩:=I.loc;obtain⟨u,r,l⟩:=hl i x v hN e hv;have fin:EP X pins σ Q u s:=⟨v,H,I,r,h⟩;rcases l with⟨hk,hm⟩|⟨hk,c,hc,Ak⟩
 . exact wpAny_Name (wpAny_loadName_local I.ok.kind hk hn hm fin) hd
 . rcases hk with hk|hk
   . exact wpAny_Name (wpAny_loadName_cell I.ok.kind hk hc Ak fin) hd
   . exact wpAny_Name (wpAny_loadName_free I.ok.kind hk hc Ak fin ko) hd
def Ly{i j pos}:PE X (.Constant (.int i) j pos) (tC (.int i)):=fun _ _ _ H _ I h=>wpAny_Constant_int ⟨.int i,H,I.tok _,⟨_,rfl⟩,h⟩
def aiP{b j pos}:PE X (.Constant (.bool b) j pos) (tC (.bl b)):=fun _ _ _ H _ I h=>Constant_bool ⟨.bl b,H,I,rfl,h⟩
def aeR{x j pos}:PE X (.Constant (.str x) j pos) (tC (.str x)):=fun _ _ _ H _ I h=>Calls.Constant_str ⟨.str x,H,I.tok _,⟨_,rfl⟩,h⟩
def Gl(X:Cx)(x:Str):Prop:=X.env.kindOf x=some .globalImplicit
def uv{σ:St}{x:Str}{pos:Pos}{Q:BB}(I:Inv X pins σ H s)(hg:Gl X x)(hm:X.mg x=some u)(h:Q u s)
   (hd:AD x:=by decide):wpAny (model X.prog X.w) X.A (eval (.Name x pos) X.env) Q E s:=
 Calls.Name_function_global I.ok.kind hg (Calls.loadGlobal_global (by rw[I.ok.glob];exact I.mod.glob.keeps I.bk) hm h) hd
def Gy{σ:St}{x:Str}{pos:Pos}{Q:BB}(I:Inv X pins σ H s)(hg:Gl X x)(hm:X.mg x=none)(hv:bootBuiltins x=some u)(h:Q u s)
   (hn:x≠"__name__":=by decide) (hd:AD x:=by decide):wpAny (model X.prog X.w) X.A (eval (.Name x pos) X.env) Q E s:=by
 obtain⟨mb,h1,h2⟩:=I.mod.blt;exact Calls.Name_function_global I.ok.kind hg (Calls.loadGlobal_builtin (by rw[I.ok.glob];exact I.mod.glob.keeps I.bk) hm (by rw[I.ok.blt];exact h1.keeps I.bk) ((h2 x hn).trans hv) h) hd
def Gz{x:Str}{pos:Pos}(hg:Gl X x)(hm:X.mg x=some u)(r:RelV v u)(hd:AD x:=by decide):PE X (.Name x pos) (tC v):=
 fun _ _ _ H _ I h=>uv I hg hm ⟨v,H,I,r,h⟩ hd
variable{a b:Expr}{ta tb:TE}{pos:Pos}
def tB(t:TE):TT:=fun σ H Q=>t σ H fun x H1=>∃c,x=.bl c/\Q c H1
def aeS{e:Expr}{t:TE}(h:PE X e t)(he:∀whole,isTrue e X.env whole=(do let v ← whole;standAt e.pos;holding [v] (truthy v)):=by intro _;rfl):PT X e (tB t):=by
 intro pins s σ H Q I hw;refine isTrue_plain (fX (h pins s σ H _ I hw) fun v s1 zz=>?_) (he _);obtain⟨x,H1,I1,r1,q1⟩:=zz;obtain⟨d,rfl,q⟩:=q1;cases r1;exact avb ⟨H1,I1,q⟩
variable{tA tB':TT}{rest:CS}
def amu(t u:TT):TT:=fun σ H Q=>t σ H fun c H1=>if c=true then u σ H1 Q else Q false H1
def tOr(t u:TT):TT:=fun σ H Q=>t σ H fun c H1=>if c=true then Q true H1 else u σ H1 Q
def amv(t:TT):TT:=fun σ H Q=>t σ H fun c H1=>Q (!c) H1
theorem Z8(ha:PT X a tA):PW X (.BoolOp .And [a] pos) tA:=by
 intro wh pins s σ H Q I h;refine isTrue_and (fX (ha pins s σ H Q I h) fun c s1 e=>?_);cases c with
 | true=>exact isTrue_and_nil e
 | false=>exact e
theorem aeT(ha:PT X a tA):PW X (.BoolOp .Or [a] pos) tA:=by
 intro wh pins s σ H Q I h;refine isTrue_or (fX (ha pins s σ H Q I h) fun c s1 e=>?_);cases c with
 | false=>exact isTrue_or_nil e
 | true=>exact e
theorem aeU(ha:PT X a tA)(hb:PW X (.BoolOp .And (b::rest) pos) tB'):PW X (.BoolOp .And (a::b::rest) pos) (amu tA tB'):=by
 intro wh pins s σ H Q I h;refine isTrue_and (fX (ha pins s σ H _ I h) fun c s1 zz=>?_);obtain⟨H1,I1,q1⟩:=zz;cases c with
 | true=>exact hb wh pins s1 σ H1 Q I1 q1
 | false=>exact⟨H1,I1,q1⟩
theorem aiQ(ha:PT X a tA)(hb:PW X (.BoolOp .Or (b::rest) pos) tB'):PW X (.BoolOp .Or (a::b::rest) pos) (tOr tA tB'):=by
 intro wh pins s σ H Q I h;refine isTrue_or (fX (ha pins s σ H _ I h) fun c s1 zz=>?_);obtain⟨H1,I1,q1⟩:=zz;cases c with
 | true=>exact⟨H1,I1,q1⟩
 | false=>exact hb wh pins s1 σ H1 Q I1 q1
def aeV(ha:PT X a tA):PT X (.UnaryOp .Not a pos) (amv tA):=by
 intro pins s σ H Q I h;exact isTrue_not (ha pins s σ H (fun c H1=>Q (!c) H1) I h)
def aiR(ta tb:TE):TE:=fun σ H Q=>ta σ H fun x H1=>∃c,x=.bl c/\if c=true then tb σ H1 Q else Q (.bl false) H1
def aeW{op}{t:TE}(h:PE X a t):PE X (.BoolOp op [a] pos) t:=fun pins s σ H Q I hw=>BoolOp_one (h pins s σ H Q I hw)
theorem aeX(ha:PE X a ta)(hb:PE X (.BoolOp .And (b::rest) pos) tb):PE X (.BoolOp .And (a::b::rest) pos) (aiR ta tb):=by
 intro pins s σ H Q I h;refine BoolOp_and (fX (ha pins s σ H _ I h) fun v s1 zz=>?_);obtain⟨x,H1,I1,r1,q1⟩:=zz;obtain⟨c,rfl,q1⟩:=q1;cases r1;refine avb ?_;cases c with
 | true=>exact hb pins s1 σ H1 Q I1 q1
 | false=>exact⟨.bl false,H1,I1,rfl,q1⟩
end
def ou(K:Frag)(H:Hp)(a:Addr)(xs:BN):Prop:=
 Rd H a (.lst xs) ∨
   ∃(o:Obj) (its:D2) (n:Nat),K.lookup a=some o/\o.cls=.type "list" /\ o.dict=none/\o.data=.seq its n/\its.size<=sizeLine/\Vals xs its.toList
def se(K:Frag)(H:Hp)(a:Addr)(xs:BN):Prop:=
 Rd H a (.tup xs) ∨
   ∃(o:Obj) (its:D2) (n:Nat),K.lookup a=some o/\o.cls=.type "tuple" /\ o.data=.seq its n/\its.size<=sizeLine/\Vals xs its.toList
def amw:Value->Option V
 | .none=>some .non
 | .bool b=>some (.bl b)
 | .int i _=>some (.int i)
 | .str x _ => some (.str x)
 | .bytes b _=>some (.OO b)
 | .float b _=>some (.flt b)
 | .ref a=>some (.ref a)
 | .type n=>some (.ty n)
 | _=>none
theorem RelV.abs{x:V}(r:RelV x u):amw u=some x:=by
 cases x with
 | non=>cases r;rfl
 | bl _=>cases r;rfl
 | int _=>obtain⟨t,rfl⟩:=r;rfl
 | str _=>obtain⟨t,rfl⟩:=r;rfl
 | OO _=>obtain⟨t,rfl⟩:=r;rfl
 | flt _=>obtain⟨t,rfl⟩:=r;rfl
 | ref _=>cases r;rfl
 | ty _=>cases r;rfl
theorem RelV.inj{x y:V}(r:RelV x u)(q:RelV y u):x=y:=asE (r.abs.symm.trans q.abs)
theorem Vals.inj{ys:BN}(h:Vals xs us)(q:Vals ys us):xs=ys:=by
 induction h generalizing ys with
 | nil=>cases q;rfl
 | cons r _ i=>cases q with
   | cons r' t'=>rw[r.inj r',i t']
variable{σ:St}{ys:BN}{K:Frag}
theorem ou.of(h:H a=some (.lst xs)):ou K H a xs:=.inl (.inl h)
theorem se.of(h:H a=some (.tup xs)):se K H a xs:=.inl (.inl h)
theorem Inv.list(I:Inv X pins σ H s)(h:ou X.K H a xs):∃its:BY,Vals xs its/\PlainL s.heap a its.toArray/\xs.length<=sizeLine:=by
 rcases h with h|⟨o,its,n,hk,hc,hd,hs,hz,r⟩
 . obtain⟨z,its,n,r,e⟩:=h.ok I.cW;exact⟨its,r,⟨_,n,e,rfl,rfl,rfl⟩,z⟩
 . refine⟨its.toList,r,⟨o,n,I.AY a o hk,hc,hd,by simpa using hs⟩,?_⟩;have e:=r.length;simp only[aue]at e;omega
theorem Inv.tuple(I:Inv X pins σ H s)(h:se X.K H a xs):∃its:BY,Vals xs its/\IsTup s.heap a its.toArray/\xs.length<=sizeLine:=by
 rcases h with h|⟨o,its,n,hk,hc,hs,hz,r⟩
 . obtain⟨z,its,r,p⟩:=h.ok I.cW;exact⟨its,r,p,z⟩
 . refine⟨its.toList,r,⟨o,I.AY a o hk,hc,n,by simpa using hs⟩,?_⟩;have e:=r.length;simp only[aue]at e;omega
theorem Inv.JM(I:Inv X pins σ H s)(h:ou X.K H a xs)(h':ou X.K H a ys):xs=ys:=by
 obtain⟨its,r,⟨o,n,e,_,_,d⟩,_⟩:=I.list h;obtain⟨its',r',⟨o',n',e',_,_,d'⟩,_⟩:=I.list h';rw[e]at e';cases e';rw[d]at d';injection d' with d1 _;have:its=its':=by simpa using congrArg Array.toList d1
 subst this;exact r.inj r'
theorem Inv.Rj(I:Inv X pins σ H s)(h:se X.K H a xs)(h':se X.K H a ys):xs=ys:=by
 obtain⟨its,r,⟨o,e,_,n,d⟩,_⟩:=I.tuple h;obtain⟨its',r',⟨o',e',_,n',d'⟩,_⟩:=I.tuple h';rw[e]at e';cases e';rw[d]at d';injection d' with d1 _;have:its=its':=by simpa using congrArg Array.toList d1
 subst this;exact r.inj r'
abbrev Cx.wish(X:Cx)(E:BB):Cx:={X with xe:=E}
abbrev Cx.Z9(X:Cx):Cx:=X.wish fun _ _=>False
theorem Cx.Ok.wish(ok:X.Ok)(E:BB):(X.wish E).Ok:=
 ⟨ok.mod,ok.kind,ok.glob,ok.blt,ok.above,ok.inj,ok.has,ok.cab,ok.hd,ok.frames,ok.stk,ok.exf,ok.bs,ok.Ux,ok.Lx,ok.Rh,ok.vo,ok.UN⟩
theorem Cx.Ok.lI(ok:(X.wish E).Ok):X.Ok:=
 ⟨ok.mod,ok.kind,ok.glob,ok.blt,ok.above,ok.inj,ok.has,ok.cab,ok.hd,ok.frames,ok.stk,ok.exf,ok.bs,ok.Ux,ok.Lx,ok.Rh,ok.vo,ok.UN⟩
theorem Inv.wish(I:Inv X pins σ H s)(E:BB):Inv (X.wish E) pins σ H s:=⟨I.ok.wish E,I.os,I.bare,I.base,I.loc,I.cell,I.free,I.lR,I.pin,I.cW,I.len⟩
theorem Inv.lI(I:Inv (X.wish E) pins σ H s):Inv X pins σ H s:=⟨I.ok.lI,I.os,I.bare,I.base,I.loc,I.cell,I.free,I.lR,I.pin,I.cW,I.len⟩
theorem SP.lI{D:Ends}{f:Flow}{s':Shared}(h:SP (X.wish E) pins D f s'):SP X pins D f s':=by
 cases f with
 | next=>obtain⟨σ',H',I,q⟩:=h;exact⟨σ',H',I.lI,q⟩
 | brk=>obtain⟨σ',H',I,q⟩:=h;exact⟨σ',H',I.lI,q⟩
 | cont=>obtain⟨σ',H',I,q⟩:=h;exact⟨σ',H',I.lI,q⟩
 | ret u=>obtain⟨v,σ',H',I,r,q⟩:=h;exact⟨v,σ',H',I.lI,r,q⟩
theorem OS.Z9{st:CU}{t:TS}(h:OS X.Z9 st t):OS X st t:=fun pins s σ H D I hw=>
 atc (h pins s σ H D (I.wish _) hw) (fun _ _ q=>q.lI) fun _ _ z=>False.elim z
section
variable{st:Stmt}{rest:CU}{t u:TS}{e:Expr}{te:TE}{pos:Pos}
def aiS:TS:=fun D σ H=>D.nx σ H
def amx(t u:TS):TS:=fun D σ H=>t {D with nx:=u D} σ H
def aac:OS X [] aiS:=fun _ _ σ H _ I h=>wpAny_execs_nil ⟨σ,H,I,h⟩
theorem JN(h1:PS X st t)(h2:OS X rest u):OS X (st::rest) (amx t u):=by
 intro pins s σ H D I h;refine wpAny_execs_cons (fX (h1 pins s σ H {D with nx:=u D} I h) fun f s1 q=>?_);cases f with
 | next=>
   obtain⟨σ',H',I',q⟩:=q;exact h2 pins s1 σ' H' D I' q
 | ret v=>exact q
 | brk=>exact q
 | cont=>exact q
theorem Inv.quiet(I:Inv X pins σ H s):interactive X.env=false:=by simp[interactive,I.ok.kind]
def aiT(te:TE):TS:=fun D σ H=>te σ H fun _ H1=>D.nx σ H1
def wY(he:PE X e te)(hs:swapsWith e none pos.line X.env=pure false:=by rfl):PS X (.Expr e pos) (aiT te):=by
 intro pins s σ H D I h;exact wpAny_Expr_any (fX (he pins s σ H _ I h) fun v s1 ⟨x,H1,I1,r1,q1⟩=>⟨σ,H1,I1,q1⟩) I.quiet hs
def amy(te:TE):TS:=fun D σ H=>te σ H D.rt
def aeY(he:PE X e te):PS X (.Return (some e) pos) (amy te):=by
 intro pins s σ H D I h;exact wpAny_Return_some (fX (he pins s σ H _ I h) fun v s1 ⟨x,H1,I1,r1,q1⟩=>⟨x,σ,H1,I1,r1,q1⟩)
def amA(c:TT)(t u:TS):TS:=fun D σ H=>c σ H fun b H1=>if b=true then t D σ H1 else u D σ H1
theorem adH{c:Expr}{a b:CU}{tc:TT}(hc:PT X c tc)(ha:OS X a t)(hb:OS X b u):PS X (.If c a b pos) (amA tc t u):=by
 intro pins s σ H D I h;refine wpAny_If (fX (hc pins s σ H _ I h) fun d s1 zz=>?_);obtain⟨H1,I1,q1⟩:=zz;cases d with
 | true=>exact ha pins s1 σ H1 D I1 q1
 | false=>exact hb pins s1 σ H1 D I1 q1
end
abbrev TG:=V->St->Hp->(St->Hp->Prop)->Prop
abbrev TGs:=BN->St->Hp->(St->Hp->Prop)->Prop
def PG(X:Cx)(target:Expr)(t:TG):Prop:=
 ∀(pins:BA) (s:Shared) (σ:St) (H:Hp) (v:V) (u:Value) (Q:St->Hp->Prop),Inv X pins σ H s->RelV v u->t v σ H Q →
   wpAny (model X.prog X.w) X.A (assign target X.env u) (fun _ s'=>∃σ' H',Inv X pins σ' H' s'/\Q σ' H') X.xe s
def PGs(X:Cx)(ts:CS)(t:TGs):Prop:=
 ∀(pins:BA) (s:Shared) (σ:St) (H:Hp) (vs:BN) (us:BY) (Q:St->Hp->Prop),Inv X pins σ H s->Vals vs us->t vs σ H Q →
   wpAny (model X.prog X.w) X.A (assignInOrder ((assignEach ts X.env).map (·.2)) us) (fun _ s'=>∃σ' H',Inv X pins σ' H' s'/\Q σ' H') X.xe s
abbrev ae0:=V->V->V->Hp->(Hp->Prop)->Prop
def aiU(X:Cx)(t:ae0):Prop:=
 ∀(pins:BA) (s:Shared) (σ:St) (H:Hp) (o i v:V) (ov iv u:Value) (Q:Hp->Prop),Inv X pins σ H s->RelV o ov->RelV i iv->RelV v u->t o i v H Q →
   wpAny (model X.prog X.w) X.A (setItem ov iv u) (fun _ s'=>∃H',Inv X pins σ H' s'/\Q H') X.xe s
abbrev TIp:=V->V->Hp->VK->Prop
def PIp(X:Cx)(op:Operator)(t:TIp):Prop:=
 ∀(pins:BA) (s:Shared) (σ:St) (H:Hp) (x y:V) (v u:Value) (Q:VK),Inv X pins σ H s->RelV x v->RelV y u->t x y H Q →
   wpAny (model X.prog X.w) X.A (inplaceOp op v u) (EP X pins σ Q) X.xe s
variable{pos:Pos}
def Al(i:Nat):TG:=fun v σ H Q=>Q (σ.set i (some v)) H
def oz{x:Str}(hN:X.N.Nodup)(hi:X.N[i]? = some x)(hx:Loc X.env.scope x)(hf:AM X x:=by first|exact .inl rfl|exact .inr rfl|assumption):PG X (.Name x pos) (Al i):=by
 intro pins s σ H v u Q I r h;exact wpAny_assign_Name (BW I hN hi hx r (fun s' I'=>⟨_,H,I',h⟩) hf)
def ae1:TGs:=fun vs σ H Q=>vs=[]/\Q σ H
def JQ(t:TG)(u:TGs):TGs:=fun vs σ H Q=>∃v r,vs=v::r/\t v σ H fun σ' H'=>u r σ' H' Q
def OU:PGs X [] ae1:=by
 intro pins s σ H vs us Q I r h;obtain⟨e,h⟩:=h;subst e;cases r;exact assignInOrder_nil ⟨σ,H,I,h⟩
variable{es:CS}
def wZ{e:Expr}{t:TG}{u:TGs}(h1:PG X e t)(h2:PGs X es u)
   (hs:(assignEach (e::es) X.env).map (·.2)=assign e X.env::(assignEach es X.env).map (·.2):=by rfl):PGs X (e::es) (JQ t u):=by
 intro pins s σ H vs us Q I r h;obtain⟨v,vr,e1,h⟩:=h;subst e1;cases r with
 | cons r rr=>
   rw[hs];refine assignInOrder_cons (fX (h1 pins s σ H _ _ _ I r h) fun _ s1 zz=>?_);obtain⟨σ1,H1,I1,q1⟩:=zz;exact h2 pins s1 σ1 H1 _ _ Q I1 rr q1
def ae2(K:Frag)(n:Nat)(t:TGs):TG:=fun v σ H Q=>∃a xs,v=.ref a/\se K H a xs/\xs.length=n/\t xs σ H Q
variable{k:Nat}
def UO{t:TGs}{n:Nat}(hc:X.calm=true)(h:PGs X es t)
   (hn:(assignEach es X.env).length=n:=by rfl) (pY:(assignEach es X.env).findIdx? (·.1)=none:=by rfl):PG X (.Tuple es k pos) (ae2 X.K n t):=by
 intro pins s σ H v u Q I r hw;obtain⟨a,xs,e1,hq,hl,hw⟩:=hw;subst e1;cases r;obtain⟨its,rv,ht,hz⟩:=I.tuple hq;refine assign_Tuple_tuple (I.ok.hd hc) ht (by simp[hn,← hl,rv.length]) pY fun h' hx=>?_;have I1:Inv X pins σ H {s with heap:=h'}:=I.kept (t':=s.toks) fun b o e=>hx b o (as8 (asH e)) e;exact h pins _ σ H xs _ Q I1 (by simpa using rv) hw
def amB(to ti:TE)(t:ae0):TG:=fun v σ H Q=>to σ H fun o H1=>ti σ H1 fun i H2=>t o i v H2 fun H3=>Q σ H3
def ae3{o i:Expr}{to ti:TE}{t:ae0}(ho:PE X o to)(hi:PE X i ti)(hs:aiU X t)
   (ha:∀v,assign (.Subscript o i pos) X.env v=(do
     let ov ← holding [v] (eval o X.env)
     let iv ← holding [v,ov] (eval i X.env)
     standAt pos
     holding [v,ov,iv] (setItem ov iv v)
     release [v,ov,iv] []):=by intro _;rfl):PG X (.Subscript o i pos) (amB to ti t):=by
 intro pins s σ H v u Q I r h;rw[ha];refine ar0 (atR (fX (ho pins s σ H _ I h) fun ov s1 zz=>?_));obtain⟨x,H1,I1,r1,q1⟩:=zz;refine ar0 (atR (fX (hi pins s1 σ H1 _ I1 q1) fun iv s2 zz=>?_));obtain⟨y,H2,I2,r2,q2⟩:=zz;refine ar0 (wpAny_standAt (ar0 (atR (fX (hs pins s2 σ H2 x y v ov iv u _ I2 r1 r2 r q2) fun _ s3 zz=>?_))));obtain⟨H3,I3,q3⟩:=zz;exact wpAny_release ⟨σ,H3,I3,q3⟩
def aiV(te:TE)(g:TG):TS:=fun D σ H=>te σ H fun x H1=>g x σ H1 D.nx
variable{tg:Expr}{te:TE}
def ae4{e:Expr}{g:TG}(he:PE X e te)(hg:PG X tg g)(hs:swapsWithSole [tg] e pos.line X.env=pure false:=by rfl)(hw:swappedStores [tg] e X.env=pure none:=by rfl)
   (h1:(assignEach [tg] X.env).map (·.2)=[assign tg X.env]:=by rfl):PS X (.Assign [tg] e pos) (aiV te g):=by
 intro pins s σ H D I h;refine wpAny_Assign_stores (fX (he pins s σ H _ I h) fun v s1 zz=>?_) hs hw;obtain⟨x,H1,I1,r1,q1⟩:=zz;rw[h1];exact fX (hg pins s1 σ H1 x v _ I1 r1 q1) fun _ s2 q=>q
def Lz{x:Str}{e:Expr}{pos':Pos}(hN:X.N.Nodup)(hi:X.N[i]? = some x)(hx:Loc X.env.scope x)(he:PE X e te)(hs:swapsWith e (some (.Name x pos')) pos.line X.env=pure false:=by rfl)(hf:AM X x:=by first|exact .inl rfl|exact .inr rfl|assumption) :
   PS X (.Assign [.Name x pos'] e pos) (aiV te (Al i)):=by
 intro pins s σ H D I h;refine wpAny_Assign_Name (fX (he pins s σ H _ I h) fun v s1 zz=>?_) hs;obtain⟨y,H1,I1,r1,q1⟩:=zz;exact BW I1 hN hi hx r1 (fun s2 I2=>⟨_,H1,I2,q1⟩) hf
def amC(i:Nat)(te:TE)(ti:TIp):TS:=fun D σ H=>∃x,σ[i]? = some (some x)/\te σ H fun y H1=>ti x y H1 fun z H2=>D.nx (σ.set i (some z)) H2
def ae5{x:Str}{e:Expr}{op:Operator}{ti:TIp}{pos':Pos}(hN:X.N.Nodup)(hi:X.N[i]? = some x)(hx:Loc X.env.scope x)(he:PE X e te)(ho:PIp X op ti)(hf:AM X x:=by first|exact .inl rfl|exact .inr rfl|assumption) :
   PS X (.AugAssign (.Name x pos') op e pos) (amC i te ti):=by
 intro pins s σ H D I h;obtain⟨v,e1,h⟩:=h;obtain⟨m,hn,hl⟩:=I.loc;have vis:Vis X.env.scope x:=by rcases hx with k|k;exact .inl k;exact .inr (.inl k)
 obtain⟨u,r,l⟩:=hl i x v hi e1 vis;refine wpAny_AugAssign_Name ?_;have go:wpAny (model X.prog X.w) X.A (eval e X.env) (fun w s₂=>wpAny (model X.prog X.w) X.A (inplaceOp op u w) (fun r s₃=>wpAny (model X.prog X.w) X.A (storeName X.env x r) (fun _=>SP X pins D .next) X.xe s₃) X.xe s₂) X.xe s:=by
   refine fX (he pins s σ H _ I h) fun w s1 zz=>?_;obtain⟨y,H1,I1,r1,q1⟩:=zz;refine fX (ho pins s1 σ H1 v y u w _ I1 r r1 q1) fun z s2 zz=>?_;obtain⟨zv,H2,I2,r2,q2⟩:=zz;exact BW I2 hN hi hx r2 (fun s3 I3=>⟨_,H2,I3,q2⟩) hf
 rcases l with⟨hk,hm⟩|⟨hk,c,hc,Ak⟩
 . exact wpAny_loadName_local I.ok.kind hk hn hm go
 . rcases hk with hk|hk
   . exact wpAny_loadName_cell I.ok.kind hk hc Ak go
   . rcases hx with k|k
     . have:X.env.scope.names.lookup x=some .free:=hk;rw[k]at this;cases this
     . have:X.env.scope.names.lookup x=some .free:=hk;rw[k]at this;cases this
def ipI(f:Int->Int->Int):TIp:=fun x y H Q=>∃i j,x=.int i/\y=.int j/\Q (.int (f i j)) H
def ae6:PIp X .Add (ipI fun i j=>i+j):=by
 intro pins s σ H x y v u Q I r1 r2 h;obtain⟨i,j,e1,e2,q⟩:=h;subst e1;subst e2;obtain⟨t,rfl⟩:=r1;obtain⟨t',rfl⟩:=r2;exact iadd_int ⟨.int _,H,I.tok _,⟨_,rfl⟩,q⟩
def ae7(c:TT)(tb:TS):TS:=fun D σ H=>∃W:Nat->St->Hp->Prop,(∃m,W m σ H)/\∀m σ H,W m σ H →
 c σ H fun b H1=>if b=true then ∃N:St->Hp->Prop,(∀σ' H',N σ' H'->∃m',m'<m/\W m' σ' H')/\tb {D with nx:=N,ct:=N,bk:=D.nx} σ H1 else D.nx σ H1
theorem UQ{c:Expr}{body:CU}{tc:TT}{tb:TS}(hp:PassesOwn (model X.prog X.w) X.A X.env X.xe)(hc:PT X c tc)(hb:OS X body tb):PS X (.While c body [] pos) (ae7 tc tb):=by
 intro pins s σ H D I h;obtain⟨W,⟨m0,w0⟩,turn⟩:=h;refine wpAny_While (codeAny_whileLoop (fun n s'=>∃σ' H',Inv X pins σ' H' s'/\W n σ' H') ?_ m0 ⟨σ,H,I,w0⟩);rintro n s1 ⟨σ1,H1,I1,w1⟩;refine auk hp (fX (hc pins s1 σ1 H1 _ I1 (turn n σ1 H1 w1)) fun b s2 zz=>?_);obtain⟨H2,I2,q2⟩:=zz;cases b with
 | true=>
   obtain⟨N,hN,q2⟩:=q2;rw[ass rfl];refine auk hp (fX (hb pins s2 σ1 H2 _ I2 q2) fun f s3 q3=>?_);cases f with
   | next=>
     obtain⟨σ3,H3,I3,n3⟩:=q3;obtain⟨m',hm,w3⟩:=hN σ3 H3 n3;exact⟨m',hm,σ3,H3,I3,w3⟩
   | cont=>
     obtain⟨σ3,H3,I3,n3⟩:=q3;obtain⟨m',hm,w3⟩:=hN σ3 H3 n3;exact⟨m',hm,σ3,H3,I3,w3⟩
   | brk=>exact q3
   | ret v=>exact q3
 | false=>
   rw[ash asr];exact wpAny_execs_nil ⟨σ1,H2,I2,q2⟩
structure It where
 go:Nat->Hp->Prop
 yld:Nat->Hp->V->Hp->Prop
 stop:Nat->Hp->Prop
def AZ(X:Cx)(pins:BA)(H:Hp)(b:Addr):Prop:=
 H b=none/\b≠X.env.locals/\b∉X.fs/\(b∈X.ex\/X.s₀.heap.objs.size<=b)/\(∀x c,X.env.cells.lookup x=some c->c≠b)/\∀p∈X.pn++pins,p.1≠b
theorem Inv.Eh(I:Inv X pins σ H s)(hb:s.heap.objs.size<=b)(hn:H' b=none):AZ X pins H' b:=by
 refine⟨hn,Nat.ne_of_gt (as5 I.lt hb),I.amq hb,.inr (asV I.sz hb),fun x c e z=>?_,fun p hp z=>?_⟩
 . obtain⟨v,q⟩:=I.cell x c e;exact absurd (as5 q.lt (by rw[z];exact hb)) (auS _)
 . exact absurd (as5 (asH (I.pin p hp).1) (by rw[z];exact hb)) (auS _)
structure Turn(P:Program)(w:World)(K:Frag)(tg:Expr)(J:It)(fp:BM)(it:Addr)(tn:Nat->Heap->Prop):Prop where
 mem:it∈fp
 obj:∀i h,tn i h->∀b∈fp,∃o,h.get? b=some o/\∀v,o.data ≠ .cell v
 keep:∀i h h',tn i h->(∀b∈fp,∀o,h.get? b=some o->h'.get? b=some o)->tn i h'
 item:∀(X:Cx),X.prog=P->X.w=w->X.K=K->X.calm=true->∀(i:Nat) (pins:BA) (s:Shared) (σ:St) (H:Hp) (E:BB),Inv X pins σ H s->(∀b∈fp,AZ X pins H b)->tn i s.heap->J.go i H →
   wpAny (model P w) X.A (pyNext (.ref it)) (fun r s1=>∃u,r=some u ∧
     wpAny (model P w) X.A (letOwnedTupleGo tg (.ref it) u) (fun _ s2=>∃x H',Inv X pins σ H' s2/\RelV x u/\J.yld i H x H'/\tn (i+1) s2.heap/\∀b∈fp,H' b=none) E s1) E s
 done:∀(X:Cx),X.prog=P->X.w=w->X.K=K->X.calm=true->∀(i:Nat) (pins:BA) (s:Shared) (σ:St) (H:Hp) (E:BB),Inv X pins σ H s->(∀b∈fp,AZ X pins H b)->tn i s.heap->J.stop i H →
   wpAny (model P w) X.A (pyNext (.ref it)) (fun r s1=>r=none/\Inv X pins σ H s1) E s
 self:∀(A:Around) (i:Nat) (s:Shared) (Q:BB) (E:BB),tn i s.heap->Q (.ref it) s->wpAny (model P w) A (pyIter (.ref it)) Q E s
abbrev TI:=St->Hp->(It->Hp->Prop)->Prop
def PIE(X:Cx)(pins:BA)(σ:St)(tg:Expr)(R:It->Hp->Prop)(itv:Value)(s2:Shared):Prop:=
 ∃(it:Addr) (fp:BM) (tn:Nat->Heap->Prop) (J:It) (H':Hp),itv=.ref it/\Inv X pins σ H' s2/\Turn X.prog X.w X.K tg J fp it tn/\tn 0 s2.heap/\(∀b∈fp,AZ X pins H' b)/\R J H'
def PI(X:Cx)(tg iter:Expr)(wi:TI):Prop:=
 ∀(pins:BA) (s:Shared) (σ:St) (H:Hp) (R:It->Hp->Prop),Inv X pins σ H s->wi σ H R →
   wpAny (model X.prog X.w) X.A (eval iter X.env) (fun v s1=>wpAny (model X.prog X.w) X.A (pyIter v) (PIE X pins σ tg R) X.xe s1) X.xe s
def OV{it:Addr}{o:Obj}{n:String}{vs:D2}(ho:s.heap.get? it=some o)(hc:o.cls=.type n)(hd:o.data=.fields vs)
   (hn:["enumerate","zip","dict_itemiterator","dict_reverseitemiterator","odict_iterator","itertools.zip_longest","itertools.pairwise"].contains n=false) (hQ:Q () s):wpAny M A (letOwnedTupleGo tg (.ref it) u) Q E s:=by
 unfold letOwnedTupleGo;cases tg<;>first
   | exact asd hQ
   | (cases u<;>first
       | exact asd hQ
       | (refine ar0 (wpAny_load ho ?_)
          rw[hc,hd];show wpAny M A (if (["enumerate","zip","dict_itemiterator","dict_reverseitemiterator","odict_iterator","itertools.zip_longest","itertools.pairwise"].contains n&&vs[0]? == some (rawInt _))=true then _ else _) Q E s;rw[ash (by intro h;rw[hn,Bool.false_and]at h;cases h)];exact asd hQ))
def Itl(K:Frag)(a:Addr):It:=
 ⟨fun i H=>∃xs x,ou K H a xs/\xs[i]? = some x,fun i H x H'=>H'=H/\∀xs,ou K H a xs->xs[i]? = some x,fun i H=>∃xs,ou K H a xs/\xs.length<=i⟩
def Itt(K:Frag)(a:Addr):It:=
 ⟨fun i H=>∃xs x,se K H a xs/\xs[i]? = some x,fun i H x H'=>H'=H/\∀xs,se K H a xs->xs[i]? = some x,fun i H=>∃xs,se K H a xs/\xs.length<=i⟩
def Itr(lo:Int)(n:Nat):It:=⟨fun i _=>i<n,fun i H x H'=>H'=H/\x=.int (lo+i),fun i _=>n<=i⟩
def Rk(a it:Addr):Turn P w K tg (Itl K a) [it] it (fun i h=>h.IsListIter it a i) where
 mem:=by simp
 obj:=fun i h st b hb=>by
   have e:b=it:=by simpa using hb
   subst e;obtain⟨o,e,c,d⟩:=st;exact⟨o,e,fun v z=>by rw[d]at z;cases z⟩
 keep:=fun i h h' st k=>st.at fun o e=>k it Uf o e
 item:=by
   intro X hP hw hK hc i pins s σ H E I hf st hg;subst hP hw hK;obtain⟨xs,x,hq,hx⟩:=hg;obtain⟨its,rv,p,hz⟩:=I.list hq;obtain⟨u,hu,ru⟩:=rv.get hx;obtain⟨f0,f1,f2,f3,f4,f5⟩:=hf it Uf;refine wpAny_pyNext_list_item st p.isList (x:=u) (by simpa using hu) fun h' UR sb=>?_;have I1:Inv X pins σ H {s with heap:=h'}:=I.turned (t':=s.toks) (fun b o hb e=>(sb.2 b hb).trans e) f0 f1 f3 f4 f5;obtain⟨o,e,c,d⟩:=id UR;exact⟨u,rfl,OV (s:={s with heap:=h'}) e c d Wp ⟨x,H,I1,ru,⟨rfl,fun ys hy=>by rw[I.JM hy hq];exact hx⟩,UR,fun b hb=>(hf b hb).1⟩⟩
 done:=by
   intro X hP hw hK hc i pins s σ H E I hf st hg;subst hP hw hK;obtain⟨xs,hq,hx⟩:=hg;obtain⟨its,rv,p,hz⟩:=I.list hq;obtain⟨f0,f1,f2,f3,f4,f5⟩:=hf it Uf;have hl:=rv.length;exact wpAny_pyNext_list_end (I.ok.hd hc) st p.isList (by simp;omega) fun h' eb=>⟨rfl,I.turned (t':=s.toks) (fun b o hb e=>eb b o hb e) f0 f1 f3 f4 f5⟩
 self:=fun _ _ _ _ _ st h=>wpAny_pyIter_listiter st h
def LC(a it:Addr):Turn P w K tg (Itt K a) [it] it (fun i h=>h.IsTupleIter it a i) where
 mem:=by simp
 obj:=fun i h st b hb=>by
   have e:b=it:=by simpa using hb
   subst e;obtain⟨o,e,c,d⟩:=st;exact⟨o,e,fun v z=>by rw[d]at z;cases z⟩
 keep:=fun i h h' st k=>st.at fun o e=>k it Uf o e
 item:=by
   intro X hP hw hK hc i pins s σ H E I hf st hg;subst hP hw hK;obtain⟨xs,x,hq,hx⟩:=hg;obtain⟨its,rv,p,hz⟩:=I.tuple hq;obtain⟨u,hu,ru⟩:=rv.get hx;obtain⟨f0,f1,f2,f3,f4,f5⟩:=hf it Uf;refine wpAny_pyNext_tuple_item st (show s.heap.IsTuple a its.toArray from p) (x:=u) (by simpa using hu) fun h' UR sb=>?_;have I1:Inv X pins σ H {s with heap:=h'}:=I.turned (t':=s.toks) (fun b o hb e=>(sb.2 b hb).trans e) f0 f1 f3 f4 f5;obtain⟨o,e,c,d⟩:=id UR;exact⟨u,rfl,OV (s:={s with heap:=h'}) e c d Wp ⟨x,H,I1,ru,⟨rfl,fun ys hy=>by rw[I.Rj hy hq];exact hx⟩,UR,fun b hb=>(hf b hb).1⟩⟩
 done:=by
   intro X hP hw hK hc i pins s σ H E I hf st hg;subst hP hw hK;obtain⟨xs,hq,hx⟩:=hg;obtain⟨its,rv,p,hz⟩:=I.tuple hq;obtain⟨f0,f1,f2,f3,f4,f5⟩:=hf it Uf;have hl:=rv.length;exact wpAny_pyNext_tuple_end (I.ok.hd hc) st (show s.heap.IsTuple a its.toArray from p) (by simp;omega) fun h' eb=>⟨rfl,I.turned (t':=s.toks) (fun b o hb e=>eb b o hb e) f0 f1 f3 f4 f5⟩
 self:=fun _ _ _ _ _ st h=>wpAny_pyIter_tupleiter st h
def LD(it:Addr)(lo:Int)(n:Nat):Turn P w K tg (Itr lo n) [it] it (fun i h=>IsRangeIter h it (lo+(i:Nat)*1) ((n:Int)-(i:Nat)) 1) where
 mem:=by simp
 obj:=fun i h st b hb=>by
   have e:b=it:=by simpa using hb
   subst e;exact⟨_,st,fun v z=>by
     have z':Data.fields _=Data.cell v:=z;cases z'⟩
 keep:=fun i h h' st k=>k it Uf _ st
 item:=by
   intro X hP hw hK hc i pins s σ H E I hf st hg;subst hP hw hK;obtain⟨f0,f1,f2,f3,f4,f5⟩:=hf it Uf;have W:=Walks.range (prog:=X.prog) (w:=X.w) (I.ok.hd hc) it lo 1 n;refine W.item i s _ _ hg st fun v h' tk hv UR kk=>?_;obtain⟨t,rfl⟩:=hv;have I1:Inv X pins σ H {s with heap:=h',toks:=tk}:=I.turned (fun b o hb e=>kk b o (by simpa using hb) e) f0 f1 f3 f4 f5;refine⟨_,rfl,OV (s:={s with heap:=h',toks:=tk}) (n:="range_iterator") UR rfl rfl Wp ⟨.int (lo+i),H,I1,⟨t,?_⟩,⟨rfl,rfl⟩,UR,fun b hb=>(hf b hb).1⟩⟩;rw[Int.mul_one]
 done:=by
   intro X hP hw hK hc i pins s σ H E I hf st hg;subst hP hw hK;obtain⟨f0,f1,f2,f3,f4,f5⟩:=hf it Uf;exact wpAny_pyNext_range_end (I.ok.hd hc) st (by have:n<=i:=hg;omega) fun h' eb=>⟨rfl,I.turned (t':=s.toks) (fun b o hb e=>eb b o hb e) f0 f1 f3 f4 f5⟩
 self:=fun _ _ _ _ _ st h=>wpAny_pyIter_rangeiter st h
def aiX(K:Frag)(tl:TE):TI:=fun σ H R=>tl σ H fun x H1=>∃a,x=.ref a/\(∃xs,ou K H1 a xs)/\R (Itl K a) H1
def amE(K:Frag)(tl:TE):TI:=fun σ H R=>tl σ H fun x H1=>∃a,x=.ref a/\(∃xs,se K H1 a xs)/\R (Itt K a) H1
def aad{l:Expr}{tl:TE}(hl:PE X l tl):PI X tg l (aiX X.K tl):=by
 intro pins s σ H R I h;refine fX (hl pins s σ H _ I h) fun v s1 zz=>?_;obtain⟨x,H1,I1,r1,q1⟩:=zz;obtain⟨a,e,⟨xs,hq⟩,q⟩:=q1;subst e;cases r1;obtain⟨its,rv,p,hz⟩:=I1.list hq;refine wpAny_pyIter_list p.isList ?_;refine⟨s1.heap.objs.size,[s1.heap.objs.size],_,_,H1,rfl,I1.kept (t':=s1.toks) fun b o e=>asv _ e,Rk a _,⟨_,asM _ rfl,rfl,rfl⟩,fun b hb=>?_,q⟩;have e:b=s1.heap.objs.size:=by simpa using hb
 subst e;exact I1.Eh (asp _) (I1.cW.fresh (asp _))
def ae8{l:Expr}{tl:TE}(hl:PE X l tl):PI X tg l (amE X.K tl):=by
 intro pins s σ H R I h;refine fX (hl pins s σ H _ I h) fun v s1 zz=>?_;obtain⟨x,H1,I1,r1,q1⟩:=zz;obtain⟨a,e,⟨xs,hq⟩,q⟩:=q1;subst e;cases r1;obtain⟨its,rv,p,hz⟩:=I1.tuple hq;refine wpAny_pyIter_tuple (show s1.heap.IsTuple a its.toArray from p) ?_;refine⟨s1.heap.objs.size,[s1.heap.objs.size],_,_,H1,rfl,I1.kept (t':=s1.toks) fun b o e=>asv _ e,LC a _,⟨_,asM _ rfl,rfl,rfl⟩,fun b hb=>?_,q⟩;have e:b=s1.heap.objs.size:=by simpa using hb
 subst e;exact I1.Eh (asp _) (I1.cW.fresh (asp _))
def UT{R:It->Hp->Prop}{lo hi:Int}{t u v:Tok}{tk:Nat}(I:Inv X pins σ H s)(h1:-(2 ^ 62)<=lo)(h2:lo<2 ^ 62)(h3:-(2 ^ 62)<=hi)(h4:hi<2 ^ 62)
   (q:R (Itr lo (hi-lo).toNat) H):wpAny (model X.prog X.w) X.A (pyIter (.ref s.heap.objs.size)) (PIE X pins σ tg R) E {s with heap:=s.heap.push {cls:=.type "range",data:=.fields #[.int lo t,.int hi u,.int 1 v]},toks:=tk}:=by
 refine wpAny_pyIter_range (IsRange.new ..) (small_one h1 h2 h3 h4) ?_;have I1:Inv X pins σ H {s with heap:=s.heap.push {cls:=.type "range",data:=.fields #[.int lo t,.int hi u,.int 1 v]},toks:=tk}:=I.kept fun b o e=>asv _ e;refine⟨(s.heap.push {cls:=.type "range",data:=.fields #[.int lo t,.int hi u,.int 1 v]}).objs.size,[(s.heap.push {cls:=.type "range",data:=.fields #[.int lo t,.int hi u,.int 1 v]}).objs.size],_,_,H,rfl,
   I1.kept (t':=tk) fun b o e=>asv _ e,LD _ lo (hi-lo).toNat,?_,fun b hb=>?_,q⟩
 . have e1:lo+((0:Nat):Int)*1=lo:=by simp
   have e2:(((hi-lo).toNat:Nat):Int)-((0:Nat):Int)=Builtin.Range.rangeSize lo hi 1:=by rw[rangeSize_one];split<;>omega
   show IsRangeIter _ _ (lo+((0:Nat):Int)*1) ((((hi-lo).toNat:Nat):Int)-((0:Nat):Int)) 1;rw[e1,e2];exact asM _ rfl
 . have e:b=(s.heap.push {cls:=.type "range",data:=.fields #[.int lo t,.int hi u,.int 1 v]}).objs.size:=by simpa using hb
   subst e;exact I1.Eh (asp _) (I1.cW.fresh (asp _))
def aiY(ta:TA):TI:=fun σ H R=>ta σ H fun vs H1=>∃j:Int,vs=[.int j] /\ -(2 ^ 62)<=j/\j<2 ^ 62/\R (Itr 0 j.toNat) H1
theorem Rl{a:Expr}{ta:TA}{p:Pos}(hg:Gl X "range")(hm:X.mg "range" = none)(ha:PA X [a] ta)(hs:starEach [a] X.env=[(false,eval a X.env)]:=by rfl):PI X tg (.Call (.Name "range" p) [a] [] pos) (aiY ta):=by
 intro pins s σ H R I h;refine Call_ (Gy I hg hm boot_range (auM (fX (ha pos pins s σ H _ I h) fun us s1 zz=>?_) hs rfl));obtain⟨vs,H1,I1,r1,q1⟩:=zz;obtain⟨j,e,q1,q2,q⟩:=q1;subst e;cases r1 with
 | cons r rr=>
   cases rr;obtain⟨t,rfl⟩:=r;exact call_range_1 (UT I1 We We q1 q2 (by simpa using q))
def amF(wi:TI)(g:TG)(tb:TS):TS:=fun D σ H=>wi σ H fun J H1=>∃W:Nat->Nat->St->Hp->Prop,(∃m,W 0 m σ H1)/\∀i m σ H,W i m σ H →
 (J.stop i H/\D.nx σ H)\/(J.go i H/\∃N:St->Hp->Prop,(∀σ' H',N σ' H'->∃m',m'<m/\W (i+1) m' σ' H')/\∀x H',J.yld i H x H'->g x σ H' fun σ2 H2=>tb {D with nx:=N,ct:=N,bk:=D.nx} σ2 H2)
def BX(fp:BM)(h:Heap):BA:=fp.filterMap fun b=>(h.get? b).map fun o=>(b,o)
def qI{fp:BM}{o:Obj}(hb:b∈fp)(e:h.get? b=some o):(b,o)∈BX fp h:=auy.mpr ⟨b,hb,by rw[e];rfl⟩
theorem Rm{fp:BM}{p:Addr×Obj}(hp:p∈BX fp h):p.1∈fp/\h.get? p.1=some p.2:=by
 obtain⟨b,hb,e⟩:=auy.mp hp;cases q:h.get? b with
 | none=>rw[q]at e;cases e
 | some o=>
   rw[q]at e;have e':(b,o)=p:=asE e;subst e';exact⟨hb,q⟩
theorem Inv.pinned{fp:BM}(I:Inv X pins σ H s)(hf:∀b∈fp,AZ X pins H b)(ho:∀b∈fp,∃o,s.heap.get? b=some o/\∀v,o.data ≠ .cell v):Inv X (pins++BX fp s.heap) σ H s:=
 I.Be fun p hp=>(asf.mp hp).elim (fun z=>I.pin p (ar5 _ z)) fun z=>by
   obtain⟨hb,e⟩:=Rm z;obtain⟨f0,f1,f2,_⟩:=hf p.1 hb;obtain⟨o,e',d⟩:=ho p.1 hb;rw[e]at e';cases e';exact⟨e,f0,f1,f2,d⟩
theorem Inv.w4{pl:BA}(I:Inv X (pins++pl) σ H s):Inv X pins σ H s:=I.Be fun p hp=>I.pin p (ar5 _ (ase _ hp))
def GA{iter:Expr}{body:CU}{wi:TI}{g:TG}{tb:TS}(hp:PassesOwn (model X.prog X.w) X.A X.env X.xe)(hc:X.calm=true)(hi:PI X tg iter wi)(hg:PG X tg g)(hb:OS X body tb)
   (hs:AN X iter:=by intro _;rfl):PS X (.For tg iter body [] pos) (amF wi g tb):=by
 intro pins s σ H D I h;refine wpAny_For (fX (hi pins s σ H _ I h) fun v s1 h1=>fX h1 fun itv s2 h2=>?_) hs;obtain⟨it,fp,tn,J,H2,e,I2,T,st2,f2,W,⟨m0,w0⟩,turn⟩:=h2;subst e;have stat:∀{H':Hp},(∀b∈fp,H' b=none)->∀b∈fp,AZ X pins H' b:=fun hn b hb=>⟨hn b hb,(f2 b hb).2⟩;refine codeAny_forLoop_any (fun n s'=>∃i σ' H',Inv X pins σ' H' s'/\tn i s'.heap/\(∀b∈fp,H' b=none)/\W i n σ' H') ?_ m0 ⟨0,σ,H2,I2,st2,fun b hb=>(f2 b hb).1,w0⟩;rintro n s3 ⟨i,σ3,H3,I3,st3,fr3,w3⟩;rcases turn i n σ3 H3 w3 with⟨stop,qn⟩|⟨go,N,hN,step⟩
 . refine auk hp (fX (T.done X rfl rfl rfl hc i pins s3 σ3 H3 X.xe I3 (stat fr3) st3 stop) fun r s4 zz=>?_);obtain⟨hr,I4⟩:=zz;subst hr;exact wpAny_execs_nil ⟨σ3,H3,I4,qn⟩
 . refine auk hp (fX (T.item X rfl rfl rfl hc i pins s3 σ3 H3 X.xe I3 (stat fr3) st3 go) fun r s4 zz=>?_);obtain⟨u,hr,h4⟩:=zz;subst hr;refine auk hp (fX h4 fun _ s5 zz=>?_);obtain⟨x,H5,I5,r5,y5,st5,fr5⟩:=zz;have I5':=I5.pinned (stat fr5) (T.obj _ _ st5);refine auk hp (fX (hg _ s5 σ3 H5 x u _ I5' r5 (step x H5 y5)) fun _ s6 zz=>?_);obtain⟨σ6,H6,I6,q6⟩:=zz;refine auk hp (fX (hb _ s6 σ6 H6 _ I6 q6) fun f s7 q7=>?_);have again:∀{σ7:St} {H7:Hp},Inv X (pins++BX fp s5.heap) σ7 H7 s7->N σ7 H7->∃m,m<n/\∃i σ' H',Inv X pins σ' H' s7/\tn i s7.heap/\(∀b∈fp,H' b=none)/\W i m σ' H':=fun {σ7 H7} I7 n7=>by
     obtain⟨m',hm,w7⟩:=hN σ7 H7 n7;refine⟨m',hm,i+1,σ7,H7,I7.w4,T.keep _ _ _ st5 fun b hb o e=>(I7.pin (b,o) (ar5 _ (ar5 _ (qI hb e)))).1,fun b hb=>?_,w7⟩;obtain⟨o,e,d⟩:=T.obj _ _ st5 b hb;exact(I7.pin (b,o) (ar5 _ (ar5 _ (qI hb e)))).2.1
   cases f with
   | next=>obtain⟨σ7,H7,I7,n7⟩:=q7;exact again I7 n7
   | cont=>obtain⟨σ7,H7,I7,n7⟩:=q7;exact again I7 n7
   | brk=>obtain⟨σ7,H7,I7,q7⟩:=q7;exact⟨σ7,H7,I7.w4,q7⟩
   | ret v=>obtain⟨x7,σ7,H7,I7,r7,q7⟩:=q7;exact⟨x7,σ7,H7,I7.w4,r7,q7⟩
abbrev R2:=V->V->Hp->VK->Prop
def wW(X:Cx)(f:Value->Value->Sem Value)(r:R2):Prop:=
 ∀(pins:BA) (s:Shared) (σ:St) (H:Hp) (x y:V) (v u:Value) (Q:VK),Inv X pins σ H s->RelV x v->RelV y u->r x y H Q →
   wpAny (model X.prog X.w) X.A (f v u) (EP X pins σ Q) X.xe s
def UnR(X:Cx)(f:Value->Sem Value)(r:V->Hp->VK->Prop):Prop:=
 ∀(pins:BA) (s:Shared) (σ:St) (H:Hp) (x:V) (v:Value) (Q:VK),Inv X pins σ H s->RelV x v->r x H Q →
   wpAny (model X.prog X.w) X.A (f v) (EP X pins σ Q) X.xe s
def oA(X:Cx)(f:Value)(r:BN->Hp->VK->Prop):Prop:=
 ∀(pins:BA) (s:Shared) (σ:St) (H:Hp) (xs:BN) (us:BY) (Q:VK),Inv X pins σ H s->Vals xs us->r xs H Q →
   wpAny (model X.prog X.w) X.A (call f us) (EP X pins σ Q) X.xe s
def amH(X:Cx)(r:V->Hp->EN->Prop):Prop:=
 ∀(pins:BA) (s:Shared) (σ:St) (H:Hp) (x:V) (v:Value) (Q:EN),Inv X pins σ H s->RelV x v->r x H Q →
   wpAny (model X.prog X.w) X.A (truthy v) (TP X pins σ Q) X.xe s
def tOp(r:R2)(ta tb:TE):TE:=fun σ H Q=>ta σ H fun x H1=>tb σ H1 fun y H2=>r x y H2 Q
def tUn(r:V->Hp->VK->Prop)(ta:TE):TE:=fun σ H Q=>ta σ H fun x H1=>r x H1 Q
def rI(C:Int->Int->Prop)(g:Int->Int->V):R2:=fun x y H Q=>∃i j,x=.int i/\y=.int j/\C i j/\Q (g i j) H
def rI0(g:Int->Int->V):R2:=fun x y H Q=>∃i j,x=.int i/\y=.int j/\Q (g i j) H
def rU(g:Int->V):V->Hp->VK->Prop:=fun x H Q=>∃i,x=.int i/\Q (g i) H
variable{a b:Expr}{ta tb:TE}{f:Value->Value->Sem Value}
def afa(ha:PE X a ta)(hb:PE X b tb){R:V->V->Hp->Prop}(I:Inv X pins σ H s)
   (h:ta σ H fun x H1=>tb σ H1 fun y H2=>R x y H2) {Q:BB}
   (hf:∀v u s2 x y H2,Inv X pins σ H2 s2->RelV x v->RelV y u->R x y H2->wpAny (model X.prog X.w) X.A (f v u) Q X.xe s2) :
   wpAny (model X.prog X.w) X.A (eval a X.env) (fun v s₁=>wpAny (model X.prog X.w) X.A (eval b X.env) (fun u s₂=>wpAny (model X.prog X.w) X.A (f v u) Q X.xe s₂) X.xe s₁) X.xe s:=by
 refine fX (ha pins s σ H _ I h) fun v s1 zz=>?_;obtain⟨x,H1,I1,r1,q1⟩:=zz;refine fX (hb pins s1 σ H1 _ I1 q1) fun u s2 zz=>?_;obtain⟨y,H2,I2,r2,q2⟩:=zz;exact hf v u s2 x y H2 I2 r1 r2 q2
def Am{op:Operator}{r:R2}(ho:wW X (binaryOp op) r)(ha:PE X a ta)(hb:PE X b tb):PE X (.BinOp a op b pos) (tOp r ta tb):=by
 intro pins s σ H Q I h;exact wpAny_BinOp (afa ha hb I h fun v u s2 x y H2 I2 rx ry q=>ho pins s2 σ H2 x y v u Q I2 rx ry q)
def ai1{op:UnaryOp}{r:V->Hp->VK->Prop}(ho:UnR X (unaryOp op) r)(ha:PE X a ta):PE X (.UnaryOp op a pos) (tUn r ta):=by
 intro pins s σ H Q I h;exact UnaryOp_ (fX (ha pins s σ H _ I h) fun v s1 ⟨x,H1,I1,r1,q1⟩=>ho pins s1 σ H1 x v Q I1 r1 q1)
def opI{C:Int->Int->Prop}{g:Int->Int->Int}
   (rule:∀(i j:Int) (t u:Tok) (s:Shared) (Q:BB) (E:BB),C i j->Q (.int (g i j) s.toks) {s with toks:=s.toks+1}->wpAny (model X.prog X.w) X.A (f (.int i t) (.int j u)) Q E s) :
   wW X f (rI C fun i j=>.int (g i j)):=by
 intro pins s σ H x y v u Q I rx ry h;obtain⟨i,j,rfl,rfl,hc,q⟩:=h;obtain⟨t,rfl⟩:=rx;obtain⟨t',rfl⟩:=ry;exact rule i j t t' s _ _ hc ⟨.int (g i j),H,I.tok _,⟨_,rfl⟩,q⟩
def ai2{g:Int->Int->Int}
   (rule:∀(i j:Int) (t u:Tok) (s:Shared) (Q:BB) (E:BB),Q (.int (g i j) s.toks) {s with toks:=s.toks+1}->wpAny (model X.prog X.w) X.A (f (.int i t) (.int j u)) Q E s) :
   wW X f (rI0 fun i j=>.int (g i j)):=by
 intro pins s σ H x y v u Q I rx ry h;obtain⟨i,j,rfl,rfl,q⟩:=h;obtain⟨t,rfl⟩:=rx;obtain⟨t',rfl⟩:=ry;exact rule i j t t' s _ _ ⟨.int (g i j),H,I.tok _,⟨_,rfl⟩,q⟩
def afb{g:Int->Int->Bool}
   (rule:∀(i j:Int) (t u:Tok) (s:Shared) (Q:BB) (E:BB),Q (.bool (g i j)) s->wpAny (model X.prog X.w) X.A (f (.int i t) (.int j u)) Q E s) :
   wW X f (rI0 fun i j=>.bl (g i j)):=by
 intro pins s σ H x y v u Q I rx ry h;obtain⟨i,j,rfl,rfl,q⟩:=h;obtain⟨t,rfl⟩:=rx;obtain⟨t',rfl⟩:=ry;exact rule i j t t' s _ _ ⟨.bl (g i j),H,I,rfl,q⟩
def ai3(i j:Int):Prop:=0<j/\j<1073741824
def ai4(i j:Int):Prop:=0<=j/\j<=1000000/\i.natAbs<2 ^ 64
def aae(i j:Int):Prop:=(-(2 ^ 64)<i/\i<2 ^ 64)\/(-(2 ^ 64)<j/\j<2 ^ 64)
theorem aae.ok{i j:Int}(h:aae i j):IntMulOk i j:=by
 rcases h with⟨h1,h2⟩|⟨h1,h2⟩
 . exact .of_left (intBits_le_64 h1 h2)
 . exact .of_right (intBits_le_64 h1 h2)
def afc:wW X (binaryOp .Add) (rI0 fun i j=>.int (i+j)):=ai2 fun _ _ _ _ _ _ _ q=>add_int q
def afd:wW X (binaryOp .Sub) (rI0 fun i j=>.int (i-j)):=ai2 fun _ _ _ _ _ _ _ q=>sub_int q
def afe:wW X (binaryOp .Mult) (rI aae fun i j=>.int (i*j)):=opI fun _ _ _ _ _ _ _ hc q=>mul_int q hc.ok
def aaf:wW X (binaryOp .FloorDiv) (rI ai3 fun i j=>.int (i / j)):=opI fun i j _ _ _ _ _ hc q=>by
 have h1:(0:Int)<j:=hc.1;have h2:j<1073741824:=hc.2;exact floordiv_int We (by rw[Int.fdiv_eq_ediv_of_nonneg i We];exact q) (.inl (PyProof.noPylong_small We))
def afg:wW X (binaryOp .Mod) (rI (fun _ j=>0<j) fun i j=>.int (i % j)):=opI fun i j _ _ _ _ _ hc q=>by
 have h1:(0:Int)<j:=hc;exact mod_int' We (by rw[Int.fmod_eq_emod_of_nonneg i We];exact q)
def afh:wW X (binaryOp .Pow) (rI ai4 fun i j=>.int (i ^ j.toNat)):=opI fun _ _ _ _ _ _ _ hc q=>pow_int_small hc.1 hc.2.1 hc.2.2 q
def unI{f:Value->Sem Value}{g:Int->Int}
   (rule:∀(i:Int) (t:Tok) (s:Shared) (Q:BB) (E:BB),Q (.int (g i) s.toks) {s with toks:=s.toks+1}->wpAny (model X.prog X.w) X.A (f (.int i t)) Q E s) :
   UnR X f (rU fun i=>.int (g i)):=by
 intro pins s σ H x v Q I rx h;obtain⟨i,rfl,q⟩:=h;obtain⟨t,rfl⟩:=rx;exact rule i t s _ _ ⟨.int (g i),H,I.tok _,⟨_,rfl⟩,q⟩
def afi:UnR X (unaryOp .USub) (rU fun i=>.int (-i)):=unI fun _ _ _ _ _ q=>neg_int q
def ai5:V->V->Bool
 | .non,.non=>true | .non,.int _=>true | .int _,.non=>true | .non,.bl _=>true | .bl _,.non=>true | .non,.str _=>true | .str _,.non=>true
 | .int _,.int _=>true | .bl _,.bl _=>true | .str _,.str _=>true | .OO _,.OO _=>true
 | .int _,.str _=>true | .str _,.int _=>true | .bl _,.str _=>true | .str _,.bl _=>true
 | _,_=>false
def rEq:R2:=fun x y H Q=>ai5 x y=true/\Q (.bl (decide (x=y))) H
def rNe:R2:=fun x y H Q=>ai5 x y=true/\Q (.bl (!decide (x=y))) H
def OW{i j:Int}:decide (V.int i=V.int j)=(i==j):=by
 rw[auX];simp
def UU{i j:Bool}:decide (V.bl i=V.bl j)=(i==j):=by
 rw[auX];simp
def OX{i j:Str}:decide (V.str i=V.str j)=(i==j):=by
 rw[auX];simp
def OY{i j:Array UInt8}:decide (V.OO i=V.OO j)=(i.toList==j.toList):=by
 rw[auX];cases i;cases j;simp
variable{c:Expr}
def cL{Q:VK}{k k':Bool}(I:Inv X pins σ H s)(q:Q (.bl k) H)(e:k=k'):EP X pins σ Q (.bool k') s:=by
 subst e;exact⟨.bl k,H,I,rfl,q⟩
theorem adJ:wW X (compareOp .Eq) rEq:=by
 intro pins s σ H x y v u Q I rx ry h;obtain⟨hs,q⟩:=h;cases x with
 | non=>
   cases rx;cases y with
   | non=>cases ry;exact PySem.EqNone.eq_none_none (cL I q Uf)
   | bl j=>cases ry;exact PySem.EqNone.eq_none_bool (cL I q Uf)
   | int j=>obtain⟨t',rfl⟩:=ry;exact PySem.EqNone.eq_none_int (cL I q Uf)
   | str j=>obtain⟨t',rfl⟩:=ry;exact PySem.EqNone.eq_none_str (cL I q Uf)
   | _=>exact absurd (show false=true from hs) asr
 | bl i=>
   cases rx;cases y with
   | non=>cases ry;exact PySem.EqNone.eq_bool_none (cL I q Uf)
   | bl j=>cases ry;exact eq_bool (cL I q UU)
   | str j=>obtain⟨t',rfl⟩:=ry;exact PySem.EqMixed.eq_bool_str (cL I q Uf)
   | _=>exact absurd (show false=true from hs) asr
 | int i=>
   obtain⟨t,rfl⟩:=rx;cases y with
   | non=>cases ry;exact PySem.EqNone.eq_int_none (cL I q Uf)
   | int j=>obtain⟨t',rfl⟩:=ry;exact eq_int (cL I q OW)
   | str j=>obtain⟨t',rfl⟩:=ry;exact PySem.EqMixed.eq_int_str (cL I q Uf)
   | _=>exact absurd (show false=true from hs) asr
 | str i=>
   obtain⟨t,rfl⟩:=rx;cases y with
   | non=>cases ry;exact PySem.EqNone.eq_str_none (cL I q Uf)
   | bl j=>cases ry;exact PySem.EqMixed.eq_str_bool (cL I q Uf)
   | int j=>obtain⟨t',rfl⟩:=ry;exact PySem.EqMixed.eq_str_int (cL I q Uf)
   | str j=>obtain⟨t',rfl⟩:=ry;exact eq_str (cL I q OX)
   | _=>exact absurd (show false=true from hs) asr
 | OO i=>
   obtain⟨t,rfl⟩:=rx;cases y with
   | OO j=>obtain⟨t',rfl⟩:=ry;exact PySem.W.eq_bytes (cL I q OY)
   | _=>exact absurd (show false=true from hs) asr
 | _=>cases y<;>exact absurd (show false=true from hs) asr
theorem ai6:wW X (compareOp .NotEq) rNe:=by
 intro pins s σ H x y v u Q I rx ry h;obtain⟨hs,q⟩:=h;cases x with
 | non=>
   cases rx;cases y with
   | non=>cases ry;exact PySem.EqNone.ne_none_none (cL I q Uf)
   | bl j=>cases ry;exact PySem.EqNone.ne_none_bool (cL I q Uf)
   | int j=>obtain⟨t',rfl⟩:=ry;exact PySem.EqNone.ne_none_int (cL I q Uf)
   | str j=>obtain⟨t',rfl⟩:=ry;exact PySem.EqNone.ne_none_str (cL I q Uf)
   | _=>exact absurd (show false=true from hs) asr
 | bl i=>
   cases rx;cases y with
   | non=>cases ry;exact PySem.EqNone.ne_bool_none (cL I q Uf)
   | bl j=>cases ry;exact ne_bool (cL I q (congrArg not UU))
   | str j=>obtain⟨t',rfl⟩:=ry;exact PySem.EqMixed.ne_bool_str (cL I q Uf)
   | _=>exact absurd (show false=true from hs) asr
 | int i=>
   obtain⟨t,rfl⟩:=rx;cases y with
   | non=>cases ry;exact PySem.EqNone.ne_int_none (cL I q Uf)
   | int j=>obtain⟨t',rfl⟩:=ry;exact ne_int (cL I q (congrArg not OW))
   | str j=>obtain⟨t',rfl⟩:=ry;exact PySem.EqMixed.ne_int_str (cL I q Uf)
   | _=>exact absurd (show false=true from hs) asr
 | str i=>
   obtain⟨t,rfl⟩:=rx;cases y with
   | non=>cases ry;exact PySem.EqNone.ne_str_none (cL I q Uf)
   | bl j=>cases ry;exact PySem.EqMixed.ne_str_bool (cL I q Uf)
   | int j=>obtain⟨t',rfl⟩:=ry;exact PySem.EqMixed.ne_str_int (cL I q Uf)
   | str j=>obtain⟨t',rfl⟩:=ry;exact ne_str (cL I q (congrArg not OX))
   | _=>exact absurd (show false=true from hs) asr
 | OO i=>
   obtain⟨t,rfl⟩:=rx;cases y with
   | OO j=>obtain⟨t',rfl⟩:=ry;exact PySem.W.ne_bytes (cL I q (congrArg not OY))
   | _=>exact absurd (show false=true from hs) asr
 | _=>cases y<;>exact absurd (show false=true from hs) asr
def ai7:wW X (compareOp .Lt) (rI0 fun i j=>.bl (decide (i<j))):=afb fun _ _ _ _ _ _ _ q=>lt_int q
def ai8:wW X (compareOp .LtE) (rI0 fun i j=>.bl (decide (i<=j))):=afb fun _ _ _ _ _ _ _ q=>le_int q
def ai9:wW X (compareOp .Gt) (rI0 fun i j=>.bl (decide (j<i))):=afb fun _ _ _ _ _ _ _ q=>gt_int q
def mY(b:Expr){op:CmpOp}(h:op ≠ .In:=by decide)(h2:op ≠ .NotIn:=by decide):behindInMarks op b=false:=by
 have e1:(op==CmpOp.In)=false:=by cases op<;>first|rfl|exact absurd rfl h
 have e2:(op==CmpOp.NotIn)=false:=by cases op<;>first|rfl|exact absurd rfl h2
 cases b<;>simp[behindInMarks,e1,e2]
def uw{op:CmpOp}{r:R2}(ho:wW X (compareOp op) r)(ha:PE X a ta)(hb:PE X b tb)(hm:behindInMarks op b=false):PE X (.Compare a [op] [b] pos) (tOp r ta tb):=by
 intro pins s σ H Q I h;exact wpAny_Compare1 (afa ha hb I h fun v u s2 x y H2 I2 rx ry q=>ho pins s2 σ H2 x y v u Q I2 rx ry q) hm
def aja(t:TE):TT:=fun σ H Q=>t σ H fun x H'=>∃k,x=.bl k/\Q k H'
def qJ{op:CmpOp}{r:R2}(ho:wW X (compareOp op) r)(ha:PE X a ta)(hb:PE X b tb)(hm:behindInMarks op b=false):PT X (.Compare a [op] [b] pos) (aja (tOp r ta tb)):=by
 intro pins s σ H Q I h;refine wpAny_isTrue_Compare1 (fX (ha pins s σ H _ I h) fun v s1 ⟨x,H1,I1,r1,q1⟩=>fX (hb pins s1 σ H1 _ I1 q1) fun u s2 ⟨y,H2,I2,r2,q2⟩=>
   fX (ho pins s2 σ H2 x y v u _ I2 r1 r2 q2) fun c s3 ⟨z,H3,I3,r3,k,e,q3⟩=>?_) hm
 subst e;cases r3;exact avb ⟨H3,I3,q3⟩
def ajb(K:Frag)(x:V)(H:Hp)(k:Bool):Prop:=
 match x with
 | .non=>k=false
 | .bl b=>k=b
 | .int i=>k=(i != 0)
 | .str y => y.length <= sizeLine /\ k = ((y.length : Int) != 0)
 | .OO y=>y.size<=sizeLine/\k=((y.size:Int) != 0)
 | .ref p=>(∃xs,ou K H p xs/\k=!xs.isEmpty)\/(∃xs,se K H p xs/\k=!xs.isEmpty)\/∃kvs,H p=some (.dK kvs)/\k=!kvs.isEmpty
 | _=>False
def LJ{κ:Type}{kvs:List (κ×V)}{vs:List (κ×Value)}(r:KV kvs vs):(!vs.isEmpty)=!kvs.isEmpty:=by
 cases r<;>rfl
def BZ{its:BY}(r:Vals xs its):(!its.toArray.isEmpty)=!xs.isEmpty:=by
 cases r<;>simp
def yQ:(sizeLine:Nat)<2 ^ 63:=by rw[asD];decide
theorem afj:amH X (fun x H Q=>∃k,ajb X.K x H k/\Q k H):=by
 intro pins s σ H x v Q I rx h;obtain⟨k,e,q⟩:=h;have hl:=yQ;have hs:sizeLine=16777216:=asD;cases x with
 | non=>
   cases rx;have e':k=false:=e;subst e';exact truthy_none ⟨H,I,q⟩
 | bl b=>
   cases rx;have e':k=b:=e;subst e';exact avb ⟨H,I,q⟩
 | int i=>
   obtain⟨t,rfl⟩:=rx;have e':k=(i != 0):=e;subst e';exact PySem.P.truthy_int ⟨H,I,q⟩
 | str y=>
   obtain⟨t,rfl⟩:=rx;obtain⟨hy,e'⟩:y.length<=sizeLine/\k=((y.length:Int) != 0):=e;subst e';exact PySem.P.truthy_str We ⟨H,I.tok _,q⟩
 | OO y=>
   obtain⟨t,rfl⟩:=rx;obtain⟨hy,e'⟩:y.size<=sizeLine/\k=((y.size:Int) != 0):=e;subst e';exact PySem.W.truthy_bytes We ⟨H,I.tok _,q⟩
 | ref p=>
   cases rx;have e':(∃xs,ou X.K H p xs/\k=!xs.isEmpty)\/(∃xs,se X.K H p xs/\k=!xs.isEmpty)\/∃kvs,H p=some (.dK kvs)/\k=!kvs.isEmpty:=e;rcases e' with⟨xs,hx,e'⟩|⟨xs,hx,e'⟩|⟨kvs,hx,e'⟩
   . subst e';obtain⟨its,r,pl,hz⟩:=I.list hx;have hlen:=r.length;exact wpAny_truthy_list pl.isList (by simp only[asy];omega) ⟨H,I.tok _,by rw[BZ r];exact q⟩
   . subst e';obtain⟨its,r,pl,hz⟩:=I.tuple hx;have hlen:=r.length;exact truthy_tuple pl (by simp only[asy];omega) ⟨H,I.tok _,by rw[BZ r];exact q⟩
   . subst e';obtain⟨hz,hS,vs,r,m⟩:kvs.length<=sizeLine/\(p==sysModules)=false/\∃vs,KV kvs vs/\s.heap.DictOf (gj X.prog X.w) p vs:=I.cW p _ hx;have hlen:kvs.length=vs.length:=atQ r;exact wpAny_truthy_dict hS m We ⟨H,I.tok _,by rw[LJ r];exact q⟩
 | _=>exact(show False from e).elim
def UW(ha:PE X a ta)(he:∀whole,isTrue a X.env whole=(do let v ← whole;standAt a.pos;holding [v] (truthy v))) :
   PT X a (fun σ H Q=>ta σ H fun x H'=>∃k,ajb X.K x H' k/\Q k H'):=by
 intro pins s σ H Q I h;exact isTrue_plain (fX (ha pins s σ H _ I h) fun v s1 ⟨x,H1,I1,r1,q1⟩=>afj pins s1 σ H1 x v Q I1 r1 q1) (he _)
def LK:wW X (binaryOp .Add) (fun x y H Q=>∃i j,x=.str i/\y=.str j/\i.length+j.length<=sizeLine/\Q (.str (i++j)) H):=by
 intro pins s σ H x y v u Q I rx ry h;obtain⟨i,j,rfl,rfl,hz,q⟩:=h;obtain⟨t,rfl⟩:=rx;obtain⟨t',rfl⟩:=ry;exact add_str (fun t' tk=>⟨.str (i++j),H,I.tok _,⟨_,rfl⟩,q⟩) hz
theorem vals1{x:V}(r:Vals [x] us):∃u,us=[u]/\RelV x u:=by
 cases r with
 | cons r1 r2=>cases r2;exact⟨_,rfl,r1⟩
theorem vals2{x y:V}(r:Vals [x,y] us):∃u w',us=[u,w']/\RelV x u/\RelV y w':=by
 cases r with
 | cons r1 r2=>
   cases r2 with
   | cons r3 r4=>cases r4;exact⟨_,_,rfl,r1,r3⟩
def Rn(hc:X.calm=true):oA X (.builtin "max") (fun xs H Q=>∃i j,xs=[.int i,.int j]/\Q (.int (if j > i then j else i)) H):=by
 intro pins s σ H xs us Q I r h;obtain⟨i,j,rfl,q⟩:=h;obtain⟨u,w',rfl,⟨t,rfl⟩,⟨t',rfl⟩⟩:=vals2 r;refine max_two_ints (I.ok.hd hc) fun h' tk k=>⟨_,H,I.kept k,?_,q⟩;by_cases hj:j > i
 . rw[ass hj,ass hj];exact⟨_,rfl⟩
 . rw[ash hj,ash hj];exact⟨_,rfl⟩
def Ro(hc:X.calm=true):oA X (.builtin "min") (fun xs H Q=>∃i j,xs=[.int i,.int j]/\Q (.int (if j<i then j else i)) H):=by
 intro pins s σ H xs us Q I r h;obtain⟨i,j,rfl,q⟩:=h;obtain⟨u,w',rfl,⟨t,rfl⟩,⟨t',rfl⟩⟩:=vals2 r;refine min_two_ints (I.ok.hd hc) fun h' tk k=>⟨_,H,I.kept k,?_,q⟩;by_cases hj:j<i
 . rw[ass hj,ass hj];exact⟨_,rfl⟩
 . rw[ash hj,ash hj];exact⟨_,rfl⟩
def GB:oA X (.type "str") (fun xs H Q=>∃i,xs=[.int i]/\i.natAbs.log2<1920/\Q (.str (toString i)) H):=by
 intro pins s σ H xs us Q I r h;obtain⟨i,rfl,hz,q⟩:=h;obtain⟨u,rfl,t,rfl⟩:=vals1 r;exact PySem.P.str_of_int hz ⟨.str _,H,I.tok _,⟨_,rfl⟩,q⟩
structure LN(h:Heap)(x dx C:Addr)(mA:Bz):Prop where
 obj:h.get? x=some (instObj C dx)
 ns:h.Ns1 dx mA
 ne:dx≠x
variable{dx:Addr}
def Rp{mA:Bz}(n:h.Ns1 dx mA):∃od,h.get? dx=some od/\∀name,lookIn name od=some (mA name):=by
 obtain⟨o,es,ep,ho,hd,hk,_,hm⟩:=n;refine⟨o,ho,fun name=>?_⟩;have e:=hm name;unfold nsFind findBy at e;rw[← Array.find?_toList]at e;unfold lookIn;rw[hd];dsimp only;split
 . rename_i y q;rw[q]at e;exact congrArg some e
 . rename_i q;rw[q]at e;have a:es.toList.any (·.refKey)=false:=by
     rw[List.any_eq_false];intro y hy;obtain⟨z,t,A1⟩:=hk y (Array.mem_toList_iff.mp hy);simp[DictEntry.refKey,A1]
   have a':¬ es.toList.any (·.refKey)=true:=by rw[a];exact asr
   rw[ash a'];exact congrArg some e
variable{C:Addr}
theorem LN.look{mA:Bz}(I:LN h x dx C mA):∃od,PySem.W.InstAt h x (instObj C dx) C (some od)/\∀name,lookIn name od=some (mA name):=
 let ⟨od,ho,hl⟩:=Rp I.ns
 ⟨od,⟨I.obj,rfl,rfl,ho⟩,hl⟩
variable{prog:Program}{f:Addr}{mA:Bz}{name:Str}{v:Value}
def get_map{expr:Bool}{Q:BB}(X:K.In s.heap)(I:LN s.heap x dx C mA)(hg:plainGet K C name=true)(hh:hasDictIn K C=true)
   (ha:findIn K (.ref C) name=some none) (hv:mA name=some v) (hv':handedIn v=true) (h:Q v {s with toks:=s.toks+1}) :
   wpAny (model prog w) A (getAttr (.ref x) name expr) Q E s:=by
 obtain⟨od,J,hl⟩:=I.look;exact PySem.W.get_value X J (plainGet_of hg).1 (PySem.W.findObj_own hh ha rfl (by rw[hl,hv])) hv' h
variable{pl:Sem Bool}
def UX{Q:Value×BY->Shared->Prop}(X:K.In s.heap)(I:LN s.heap x dx C mA)(hg:plainGet K C name=true)
   (hf:findIn K (.ref C) name=some (some (.ref f))) (ht:isFn K (.ref f)=true) (hv:mA name=none) (h:Q (.ref f,[.ref x]) s) :
   wpAny (model prog w) A (getMethod (.ref x) name pl) Q E s:=by
 obtain⟨od,J,hl⟩:=I.look;exact PySem.W.method_fn X J (plainGet_of hg).1 (plainGet_of hg).2 hf (auN.mp ht) (by show(lookIn name od).map (·.isSome)=some false;rw[hl,hv];rfl) h
def aag{ns:Ap}(X:K.In s.heap)(I:LN s.heap x dx C mA)
   (hs:findIn K (.ref C) "__setattr__" = some (some (.builtin "object.__setattr__"))) (hp:plainOver K C=true) (ht:takerIn K C name=some none) (hh:hasDictIn K C=true)
   (hw:PySem.Within mA ns) (hsz:ns.length<=sizeLine)
   (h:∀h',LN h' x dx C (fun y=>if y=name then some v else mA y)->Heap.SameBut dx s.heap h'->Q () {s with heap:=h',toks:=s.toks+2}) :
   wpAny (model prog w) A (setAttr (.ref x) name v) Q E s:=by
 obtain⟨od,J,hl⟩:=I.look;refine PySem.W.set_plain X J hs (PySem.W.osa_open (s:={s with toks:=s.toks+1}) (r:=none) X J hp ht fun b=>?_);obtain⟨cd,hc,Gu⟩:=PySem.W.any_some hh;have hx:s.heap.get? x=some ⟨.ref C,some dx,.plain,#[]⟩:=I.obj;refine ar0 (asd (ar0 (ar0 (wpAny_loadPart hx (ar0 (PySem.W.Looks.here (s:={s with toks:=s.toks+1}) (PySem.W.looks_clsIn X hc) ?_))))));rw[Gu];refine asd (a:=some dx) (ar0 (asd (ar0 ?_)));refine wpAny_nsSet1 (s:={s with toks:=s.toks+1}) I.ns fun h' hn2 JR=>?_;obtain⟨oD,esD,epD,hoD,hdD,hcD⟩:=hn2.count (PySem.Within.cons name v hw);refine ar0 (wpAny_lookBehind hoD (by rw[hdD];exact pastItsLine_dict (asV hcD (by rw[asN];omega))) ?_);exact asd (h _ ⟨(JR.2 _ (auj I.ne)).trans I.obj,hn2,I.ne⟩ JR)
abbrev _root_.D1:=List (Str×Value)
def UY{R:Result->Shared->Prop}{vs:BY}{kw:D1}(X:K.In s.heap)(hm:makesIn K C=true)
   (hi:findIn K (.ref C) "__init__" = some (some (.ref f))) (hf:PySem.W.typeIn K (.ref f)=some (.type "function"))
   (h:codeAny (model prog w) (A.under (.builtin "type.__call__" ⟨.ref C::vs,kw⟩)) (.call (.ref f) ⟨.ref (s.heap.objs.size+1)::vs,kw⟩) (PySem.W.InitBack (s.heap.objs.size+1) R)
     {s with heap:=(s.heap.push emptyDict).push (instObj C s.heap.objs.size)}) :
   codeAny (model prog w) A (.call (.ref C) ⟨vs,kw⟩) R s:=by
 obtain⟨hh,g,d,t,os⟩:=s;exact PySem.W.make_core (PySem.W.makes_of X hm) (PySem.W.looks_findIn X hi) (fun self=>PySem.W.bind_fn X self hf) (.inl rfl) h
def mZ(f:Str)(v:V):CA->CA
 | []=>[(f,v)]
 | (g,x)::r=>if g=f then(g,v)::r else(g,x)::mZ f v r
theorem An(f g:Str)(v:V):∀fs:CA,(mZ f v fs).lookup g=if g=f then some v else fs.lookup g
 | []=>by
   show List.lookup g [(f,v)]=_;by_cases h:g=f
   . have hb:(g==f)=true:=auN.mpr h;simp only[List.lookup,hb,ass h]
   . have hb:(g==f)=false:=ats.mpr h;simp only[List.lookup,hb,ash h]
 | (k,x)::r=>by
   have ih:=An f g v r;rw[show mZ f v ((k,x)::r)=(if k=f then(k,v)::r else(k,x)::mZ f v r) from rfl];by_cases hk:k=f
   . rw[ass hk];by_cases h:g=k
     . have hb:(g==k)=true:=auN.mpr h;simp only[List.lookup,hb,ass (h.trans hk)]
     . have hb:(g==k)=false:=ats.mpr h;simp only[List.lookup,hb,ash (fun e:g=f=>h (e.trans hk.symm))]
   . rw[ash hk];by_cases h:g=k
     . have hb:(g==k)=true:=auN.mpr h;simp only[List.lookup,hb,ash (fun e:g=f=>hk (h.symm.trans e))]
     . have hb:(g==k)=false:=ats.mpr h;simp only[List.lookup,hb];exact ih
theorem yR(f:Str)(v:V):∀fs:CA,f∈(mZ f v fs).map (·.1)/\∀g,g∈fs.map (·.1)->g∈(mZ f v fs).map (·.1)
 | []=>⟨by simp[mZ],fun g h=>by simp at h⟩
 | (k,x)::r=>by
   obtain⟨i1,i2⟩:=yR f v r;rw[show mZ f v ((k,x)::r)=(if k=f then(k,v)::r else(k,x)::mZ f v r) from rfl];by_cases hk:k=f
   . rw[ass hk];subst hk;exact⟨Uf,fun g h=>by simpa using h⟩
   . rw[ash hk];refine⟨?_,fun g h=>?_⟩
     . rw[asA];exact ar9 _ i1
     . rw[asA]at h ⊢;rcases asb.mp h with e|e
       . exact asb.mpr (.inl e)
       . exact ar9 _ (i2 g e)
theorem Ao(f:Str)(v:V):∀fs:CA,(mZ f v fs).length<=fs.length+1
 | []=>by simp[mZ]
 | (k,x)::r=>by
   have ih:=Ao f v r;rw[show mZ f v ((k,x)::r)=(if k=f then(k,v)::r else(k,x)::mZ f v r) from rfl];by_cases hk:k=f
   . rw[ass hk,asN,asN];omega
   . rw[ash hk,asN,asN];omega
theorem sr.some_of{v:V}{o:Option Value}(r:sr (some v) o):∃u,o=some u/\RelV v u:=by
 cases o with
 | none=>exact(show False from r).elim
 | some u=>exact⟨u,rfl,r⟩
theorem sr.none_of{o:Option Value}(r:sr none o):o=none:=by
 cases o with
 | none=>rfl
 | some u=>exact(show False from r).elim
theorem Rq{v:V}(r:RelV v u):handedIn u=true:=by
 cases v with
 | non=>cases (show u=Value.none from r);rfl
 | bl b=>cases (show u=Value.bool b from r);rfl
 | int i=>obtain⟨t,e⟩:=(show ∃t,u=Value.int i t from r);cases e;rfl
 | str x=>obtain⟨t,e⟩:=(show ∃t,u=Value.str x t from r);cases e;rfl
 | OO b=>obtain⟨t,e⟩:=(show ∃t,u=Value.bytes b t from r);cases e;rfl
 | flt b=>obtain⟨t,e⟩:=(show ∃t,u=Value.float b t from r);cases e;rfl
 | ref a=>cases (show u=Value.ref a from r);rfl
 | ty n=>cases (show u=Value.type n from r);rfl
variable{a:Addr}{fs:CA}
def GC(cW:uq P w H h)(e:H a=some (.ins C dx fs)):∃mA,LN h a dx C mA/\(∀f,sr (fs.lookup f) (mA f))/\PySem.Within mA (fs.map (·.1))/\fs.length<=1000/\H dx=some (.own a):=by
 obtain⟨d,z,ne,ob,mA,n,r,q⟩:=(show eN P w H h a (.ins C dx fs) from cW a _ e);exact⟨mA,⟨ob,n,ne⟩,r,q,z,d⟩
structure kO(K:Frag)(C:Addr):Prop where
 pg:plainGet K C Str.empty=true
 hd:hasDictIn K C=true
 po:plainOver K C=true
 sa:findIn K (.ref C) "__setattr__" = some (some (.builtin "object.__setattr__"))
theorem kO.get(c:kO K C)(f:Str):plainGet K C f=true:=c.pg
def aI(K:Frag)(C:Addr)(f:Str):Prop:=findIn K (.ref C) f=some none
theorem aI.ajc{f:Str}(n:aI K C f):takerIn K C f=some none:=by
 unfold takerIn;rw[show findIn K (.ref C) f=some none from n];rfl
structure Meth(K:Frag)(C:Addr)(m:Str)(f:Addr):Prop where
 at_:findIn K (.ref C) m=some (some (.ref f))
 fn:isFn K (.ref f)=true
 kp:keepIn K (.ref f)=true
variable{f:Str}{v:V}
def LQ{b:Bool}{Q:BB}(I:Inv X pins σ H s)(e:H a=some (.ins C dx fs))(c:kO X.K C)(n:aI X.K C f)(l:fs.lookup f=some v)
   (h:∀u s',Inv X pins σ H s'->RelV v u->Q u s'):wpAny (model X.prog X.w) A (getAttr (.ref a) f b) Q E s:=by
 obtain⟨mA,O,r,_,_,_⟩:=GC I.cW e;obtain⟨u,hu,ru⟩:=sr.some_of (v:=v) (o:=mA f) (by rw[← l];exact r f);exact get_map I.AY O (c.get f) c.hd n hu (Rq ru) (h u _ (I.tok _) ru)
def qK{m:Str}{g:Addr}{Q:Value×BY->Shared->Prop}(I:Inv X pins σ H s)(e:H a=some (.ins C dx fs))(c:kO X.K C)(k:Meth X.K C m g)(l:fs.lookup m=none)
   (h:Q (.ref g,[.ref a]) s):wpAny (model X.prog X.w) A (getMethod (.ref a) m pl) Q E s:=by
 obtain⟨mA,O,r,_,_,_⟩:=GC I.cW e;have hn:mA m=none:=sr.none_of (by rw[← l];exact r m);exact UX I.AY O (c.get m) k.at_ k.fn hn h
def LR{y:V}(I:Inv X pins σ H s)(e:H a=some (.ins C dx fs))(c:kO X.K C)(n:aI X.K C f)(hl:fs.length<1000)(ry:RelV y u)
   (h:∀s',Inv X pins σ (upd H a (.ins C dx (mZ f y fs))) s'->Q () s'):wpAny (model X.prog X.w) A (setAttr (.ref a) f u) Q E s:=by
 obtain⟨mA,O,r,wi,_,ho⟩:=GC I.cW e;have hz:(fs.map (·.1)).length<=sizeLine:=by rw[ar3,asD];omega
 refine aag I.AY O c.sa c.po n.ajc c.hd wi hz fun h' O' sb=>h _ ?_;have hd:∃o,h'.get? dx=some o:=let ⟨o,_,_,e',_⟩:=O'.ns;⟨o,e'⟩;refine I.write (x:=a) (e:=dx) (by rw[e];exact True.intro) (.inr ho) (fun b q hb z=>(sb.2 b hb).trans z) hd ?_;refine⟨by rw[ak O.ne];exact ho,?_,O.ne,O'.obj,_,O'.ns,fun g=>?_,fun g hg=>?_⟩
 . have:=Ao f y fs;omega
 . show sr ((mZ f y fs).lookup g) (if g=f then some u else mA g);rw[An];by_cases q:g=f
   . rw[ass q,ass q];exact ry
   . rw[ash q,ash q];exact r g
 . by_cases q:g=f
   . rw[q];exact(yR f y fs).1
   . refine(yR f y fs).2 g (wi g fun z=>hg ?_);show(if g=f then some u else mA g)=none;rw[ash q];exact z
theorem Inv.made(I:Inv X pins σ H s):Inv X pins σ (upd (upd H s.heap.objs.size (.own (s.heap.objs.size+1))) (s.heap.objs.size+1) (.ins C s.heap.objs.size []))
   {s with heap:=(s.heap.push emptyDict).push (instObj C s.heap.objs.size)}:=by
 have e1:(s.heap.push emptyDict).get? s.heap.objs.size=some emptyDict:=asM s.heap rfl;have e2:((s.heap.push emptyDict).push (instObj C s.heap.objs.size)).get? (s.heap.objs.size+1)=some (instObj C s.heap.objs.size):=by
   have:=asM (s.heap.push emptyDict) (o:=instObj C s.heap.objs.size) rfl
   rwa [Heap.size_push]at this
 have e3:(s.heap.push emptyDict).Ns s.heap.objs.size (fun _=>none):=⟨emptyDict,#[],_,e1,rfl,(fun e he=>absurd he Uf),fun _=>rfl⟩;have I1:=I.laid (a:=s.heap.objs.size) (o:=.own (s.heap.objs.size+1)) (h':=s.heap.push emptyDict) (t':=s.toks) (fun b u q=>asv _ q) (asp _) ⟨_,e1⟩;refine I1.laid (a:=s.heap.objs.size+1) (o:=.ins C s.heap.objs.size []) (t':=s.toks) (fun b u q=>asv _ q) (Nat.le_of_eq (Heap.size_push _ _)) ?_;have ne:s.heap.objs.size≠s.heap.objs.size+1:=as8 (Nat.lt_succ_self _);refine⟨by rw[ak ne,aD],asU _,ne,e2,fun _=>none,(Heap.Ns1.of_empty e3).at fun o q=>asv _ q,fun _=>True.intro,fun y hy=>absurd rfl hy⟩
def aah{env:Env}{e:Expr}{Q:BB}(hb:attributeBase e f env (eval e env)=eval e env)
   (h:wpAny (model prog w) A (eval e env) (fun o s₁=>wpAny (model prog w) A (getAttr o f true) Q E s₁) E s):wpAny (model prog w) A (eval (.Attribute e f pos) env) Q E s:=
 Attribute_any_ h (by rw[arm_eval_Attribute,hb])
def amI(K:Frag)(ta:TE)(f:Str):TE:=fun σ H Q=>ta σ H fun x H1=>∃a C dx fs v,x=.ref a/\H1 a=some (.ins C dx fs)/\kO K C/\aI K C f/\fs.lookup f=some v/\Q v H1
def amJ(K:Frag)(ta tv:TE)(f:Str):TS:=fun D σ H=>tv σ H fun y H1=>ta σ H1 fun x H2=>∃a C dx fs,x=.ref a/\H2 a=some (.ins C dx fs)/\kO K C/\aI K C f/\fs.length<1000 ∧
 D.nx σ (upd H2 a (.ins C dx (mZ f y fs)))
variable{o e value:Expr}{pos':Pos}{tv:TE}
def LV(he:PE X e ta)(hb:AS X e f):PE X (.Attribute e f pos) (amI X.K ta f):=by
 intro pins s σ H Q I h;refine aah hb (fX (he pins s σ H _ I h) fun u s1 zz=>?_);obtain⟨x,H1,I1,rx,a,C,dx,fs,v,ex,ea,c,n,l,q⟩:=zz;subst ex;obtain rfl:u=Value.ref a:=rx;exact LQ I1 ea c n l fun u' s2 I2 ru=>⟨v,H1,I2,ru,q⟩
def UZ(ha:PE X o ta)(hv:PE X value tv)(hs:swapsWith value (some (.Attribute o f pos')) pos.line X.env=pure false):PS X (.Assign [.Attribute o f pos'] value pos) (amJ X.K ta tv f):=by
 intro pins s σ H D I h;refine plainObj_wpAny_Assign_Attribute (fX (hv pins s σ H _ I h) fun u s1 ⟨y,H1,I1,ry,q⟩=>fX (ha pins s1 σ H1 _ I1 q) fun ov s2 zz=>?_) hs;obtain⟨x,H2,I2,rx,a,C,dx,fs,ex,ea,c,n,l,q2⟩:=zz;subst ex;obtain rfl:ov=Value.ref a:=rx;exact LR I2 ea c n l ry fun s3 I3=>⟨σ,_,I3,q2⟩
def adL{m:Str}{apos:Pos}{args:CS}{Q:BB}(he:PE X e te)(I:Inv X pins σ H s)
   (h:te σ H fun x H1=>∃a C dx fs g,x=.ref a/\H1 a=some (.ins C dx fs)/\kO X.K C/\Meth X.K C m g/\fs.lookup m=none ∧
     ∀s1,Inv X pins σ H1 s1->wpAny (model X.prog X.w) X.A (callWith pos (.ref g) [.ref a] (backTo pos (starEach args X.env)) (backToKw pos (keywordEach [] X.env))) Q X.xe s1)
   (ht:eval (.Call (.Attribute e m apos) args [] pos) X.env=(do
     let ov ← eval e X.env
     standAt apos.atName
     let (f,first) ← holding [ov] (getMethod ov m pl)
     callWith pos f first (backTo pos (starEach args X.env)) (backToKw pos (keywordEach [] X.env)))) :
   wpAny (model X.prog X.w) X.A (eval (.Call (.Attribute e m apos) args [] pos) X.env) Q X.xe s:=by
 refine aul (pl:=pl) (fX (he pins s σ H _ I h) fun u s1 zz=>?_) ht;obtain⟨x,H1,I1,rx,a,C,dx,fs,g,ex,ea,c,k,l,q⟩:=zz;subst ex;obtain rfl:u=Value.ref a:=rx;exact qK I1 ea c k l (q s1 I1)
structure dU(k:Nat)(A:Around):Prop where
 hd:A.handled=none
 dp:A.depth+3*k+5<recursionLimit
 un:A.units+16*k+200<cLine
theorem dU.mono{j:Nat}(r:dU k A)(h:j<=k):dU j A:=⟨r.hd,by have:=r.dp;omega,by have:=r.un;omega⟩
theorem dU.deeper(r:dU (k+1) A)(env:Env):dU k (A.deeper env):=
 ⟨r.hd,by have:=r.dp;show A.depth+1+3*k+5<_;omega,by have:=r.un;show A.units+3+16*k+200<_;omega⟩
theorem dU.in1(r:dU (k+1) A):dU k A.in1:=
 ⟨r.hd,by have:=r.dp;show A.depth+3*k+5<_;omega,by have:=r.un;show A.units+1+16*k+200<_;omega⟩
def LW{kw:D1}:(A.under (.builtin "type.__call__" ⟨.ref C::us,kw⟩)).depth=A.depth+1:=by
 first|rfl|simp[Around.under,Code.weight,Code.isCreation,Code.isGuard,Code.isCaller,Code.frames,Code.isFrame,guardIds]
def LX{kw:D1}:(A.under (.builtin "type.__call__" ⟨.ref C::us,kw⟩)).units=A.units+1:=by
 first|rfl|simp[Around.under,Code.cUnits,Code.frames,Code.isFrame]
theorem dU.make(r:dU (k+1) A)(C:Addr)(us:BY)(kw:D1):dU k (A.under (.builtin "type.__call__" ⟨.ref C::us,kw⟩)):=
 ⟨r.hd,by have:=r.dp;rw[LW];omega,by have:=r.un;rw[LX];omega⟩
theorem dU.depth(r:dU k A):A.depth<recursionLimit:=by have:=r.dp;omega
theorem dU.units(r:dU k A):A.units+64<cLine:=by have:=r.un;omega
def afk:TA:=fun _ H Q=>Q [] H
def ajd(ta:TE)(tr:TA):TA:=fun σ H Q=>ta σ H fun x H1=>tr σ H1 fun xs H2=>Q (x::xs) H2
variable{t:TA}
def dZ:PA X [] afk:=fun _ _ _ _ H Q I h=>Calls.spliced_nil ⟨[],H,I,.nil,h⟩
def bY(ha:PE X e te)(hr:PA X es t)(hs:AC X e es:=by rfl):PA X (e::es) (ajd te t):=by
 intro pos pins s σ H Q I h;rw[hs];show wpAny _ _ (spliced ((false,eval e X.env)::backTo pos (starEach es X.env))) _ _ s;refine Calls.spliced_cons (fX (ha pins s σ H _ I h) fun u s1 zz=>?_);obtain⟨x,H1,I1,r1,q1⟩:=zz;exact fX (hr pos pins s1 σ H1 _ I1 q1) fun us s2 ⟨xs,H2,I2,r2,q2⟩=>⟨x::xs,H2,I2,.cons r1 r2,q2⟩
def amK(t:TA):TE:=fun σ H Q=>t σ H fun xs H1=>xs.length<=sizeLine/\∀p,H1 p=none->Q (.ref p) (upd H1 p (.tup xs))
def amL(t:TA):TE:=fun σ H Q=>t σ H fun xs H1=>xs.length<=sizeLine/\∀p,H1 p=none->Q (.ref p) (upd H1 p (.lst xs))
def afl{x1}(h:PA X es t):PE X (.Tuple es x1 pos) (amK t):=by
 intro pins s σ H Q I hq;refine wpAny_Tuple_spliced (fX (h pos pins s σ H _ I hq) fun us s1 ⟨xs,H1,I1,r,z,q⟩=>⟨by rw[← r.length];exact z,?_⟩);have hf:H1 s1.heap.objs.size=none:=I1.cW.fresh (asp _);refine⟨.ref s1.heap.objs.size,upd H1 s1.heap.objs.size (.tup xs),I1.laid (t':=s1.toks) (fun b u e=>asv _ e) (asp _) ?_,rfl,q _ hf⟩;exact⟨z,us,r,⟨_,asM _ rfl,rfl,_,rfl⟩⟩
def afm(h:PA X es t):PE X (.List es pos) (amL t):=by
 intro pins s σ H Q I hq;refine wpAny_List_spliced (fX (h pos pins s σ H _ I hq) fun us s1 ⟨xs,H1,I1,r,z,q⟩=>⟨by rw[← r.length];exact z,?_⟩);have hf:H1 s1.heap.objs.size=none:=I1.cW.fresh (asp _);refine⟨.ref s1.heap.objs.size,upd H1 s1.heap.objs.size (.lst xs),I1.laid (t':=s1.toks) (fun b u e=>asv _ e) (asp _) ?_,rfl,q _ hf⟩;exact⟨z,us,0,r,asM _ rfl⟩
abbrev Sp:=BN->Hp->VK->XK->Prop
abbrev Rr:=Db->Hp->Shared->XK->Value->Shared->Prop
structure Ei(P:Program)(w:World)(K:Frag)(mg:Bz)(base:Heap)(A:Around)(outer:Db)(s:Shared)(H:Hp):Prop where
 frames:A.frames=some outer
 mod:Mod K mg base
 bs:∀b o,base.get? b=some o->s.heap.get? b=some o/\H b=none
 Ux:base.objs.size<=s.heap.objs.size
 vo:s.heap.FunFrames base outer
 UN:∀b∈ur outer,H b=none
 cW:uq P w H s.heap
 bare:AllBare s.gens
def CE(outer:Db)(P:Program)(w:World)(H:Hp)(s:Shared)(Q:VK)(u:Value)(s':Shared):Prop:=
 ∃v H',s'.os=s.os/\AllBare s'.gens/\Un (ur outer) [] H H' s.heap s'.heap/\uq P w H' s'.heap/\RelV v u/\Q v H'
def CR(CX:Rr)(outer:Db)(P:Program)(w:World)(H:Hp)(s:Shared)(Q:VK)(E:XK)(r:Result)(s':Shared):Prop:=
 match r with
 | .ok (.ret u)=>CE outer P w H s Q u s'
 | .ok _=>False
 | .error e=>CX outer H s E e s'
structure dP(P:Program)(w:World)(K:Frag)(mg:Bz)(base:Heap)(CX:Rr)(k:Nat)(f:Addr)(fd:FuncData)(ps:Ap)(sp:Sp):Prop where
 len:∀vs H Q E,sp vs H Q E->vs.length=ps.length
 run:∀(A:Around) (outer:Db) (s:Shared) (H:Hp) (args:Args) (us:BY) (vs:BN) (Q:VK) (E:XK),dU k A->Ei P w K mg base A outer s H->BindsTo s fd args (ps.zip us)->Vals vs us->sp vs H Q E →
   codeAny (model P w) A (.call (.ref f) args) (CR CX outer P w H s Q E) s
variable{mg:Bz}{base:Heap}{CX:Rr}{ps:Ap}
theorem dP.imp{f:Addr}{fd:FuncData}{sp sp':Sp}(F:dP P w K mg base CX k f fd ps sp)
   (h:∀vs H Q E,sp' vs H Q E->sp vs H Q E):dP P w K mg base CX k f fd ps sp':=
 ⟨fun vs H Q E q=>F.len vs H Q E (h _ _ _ _ q),fun A outer s H args us vs Q E hr he hb hv hs=>F.run A outer s H args us vs Q E hr he hb hv (h _ _ _ _ hs)⟩
theorem Ei.make{outer:Db}(e:Ei P w K mg base A outer s H)(C:Addr)(us:BY)(kw:D1) :
   Ei P w K mg base (A.under (.builtin "type.__call__" ⟨.ref C::us,kw⟩)) outer s H:=⟨by first|exact e.frames|(simpa [Around.under,Code.envs,Code.isFrame,pushEnvs] using e.frames),e.mod,e.bs,e.Ux,e.vo,e.UN,e.cW,e.bare⟩
theorem Ei.in1{outer:Db}(e:Ei P w K mg base A outer s H) :
   Ei P w K mg base A.in1 outer s H:=⟨e.frames,e.mod,e.bs,e.Ux,e.vo,e.UN,e.cW,e.bare⟩
variable{s':Shared}
theorem Inv.afn(I:Inv X pins σ H s):Ei X.prog X.w X.K X.mg X.base X.A X.stack s H:=
 ⟨I.ok.frames,I.ok.mod,I.bs,asV I.ok.Ux I.sz,I.stack,I.Gw,I.cW,I.bare⟩
theorem Inv.after{Q:VK}(I:Inv X pins σ H s)(h:CE X.stack X.prog X.w H s Q u s'):EP X pins σ Q u s':=by
 obtain⟨v,H',os,bare,un,cW,r,q⟩:=h;obtain⟨hh,g,d,t,os'⟩:=s';obtain rfl:os'=s.os:=os;exact⟨v,H',I.call (h':=hh) (g':=g) (d':=d) (t':=t) (ch:=[]) un cW bare (fun b z=>absurd z Uf),r,q⟩
def U0(sp:Sp)(Aq:BN)(E:XK)(t:TA):TE:=fun σ H Q=>t σ H fun vs H1=>sp (vs++Aq) H1 Q E
def adM(C:Addr)(m:Str)(sp:Sp)(Aq:BN)(E:XK)(ta:TE)(t:TA):TE:=fun σ H Q=>ta σ H fun x H1=>∃a dx fs,x=.ref a/\H1 a=some (.ins C dx fs)/\fs.lookup m=none ∧
 t σ H1 fun vs H2=>sp (x::(vs++Aq)) H2 Q E
def aje(C:Addr)(sp:Sp)(Aq:BN)(E:XK)(t:TA):TE:=fun σ H Q=>t σ H fun vs H1=>∀x dx,H1 x=none->H1 dx=none->dx≠x →
 sp (.ref x::(vs++Aq)) (upd (upd H1 dx (.own x)) x (.ins C dx [])) (fun v H2=>v=.non/\Q (.ref x) H2) E
def Binds(K:Frag)(fd:FuncData)(ps:Ap)(ds:BY):Prop:=
 ∀(s:Shared) (us:BY),K.In s.heap->(us++ds).length=ps.length->BindsTo s fd ⟨us,[]⟩ (ps.zip (us++ds))
theorem Binds.all{fd:FuncData}(h:∀us:BY,us.length=ps.length->bindArgs fd ⟨us,[]⟩=pure (ps.zip us)):Binds K fd ps []:=fun s us _ hl=>by
 rw[asx]at hl ⊢;exact .of_eq (h us hl)
def Passes(CX:Rr)(X:Cx)(E:XK):Prop:=∀(pins:BA) (σ:St) (H:Hp) (s:Shared) (e:Value) (s':Shared),Inv X pins σ H s->CX X.stack H s E e s'->X.xe e s'
section
variable{f:Addr}{fd:FuncData}{sp:Sp}{Aq:BN}{ds:BY}{E:XK}{x m:Str}{p apos:Pos}
def B3{Q:VK}{vs:BN}(F:dP X.prog X.w X.K X.mg X.base CX k f fd ps sp)(hr:dU k X.A)(hb:Binds X.K fd ps ds)(hd:Vals Aq ds)(hx:Passes CX X E)
   (I:Inv X pins σ H s) (r:Vals vs us) (h:sp (vs++Aq) H Q E):wpAny (model X.prog X.w) X.A (call (.ref f) us) (EP X pins σ Q) X.xe s:=by
 have r2:Vals (vs++Aq) (us++ds):=r.append hd;have hl:(us++ds).length=ps.length:=by rw[← r2.length];exact F.len _ _ _ _ h
 refine wpAny_call (codeAny_mono (F.run X.A X.stack s H ⟨us,[]⟩ (us++ds) (vs++Aq) Q E hr I.afn (hb s us I.AY hl) r2 h) fun r s' hq=>?_);cases r with
 | error e=>exact hx pins σ H s e s' I hq
 | ok fl=>
   cases fl with
   | ret u=>exact I.after hq
   | next=>exact False.elim hq
   | brk=>exact False.elim hq
   | cont=>exact False.elim hq
def GD(F:dP X.prog X.w X.K X.mg X.base CX k f fd ps sp)(hr:dU k X.A)(hg:Gl X x)(hm:X.mg x=some (.ref f))(hk:keepIn X.K (.ref f)=true)(hb:Binds X.K fd ps ds)(hd:Vals Aq ds)(hx:Passes CX X E)
   (ha:PA X (e::es) t) (su:AD x:=by decide) (he:AC X e es:=by rfl) (hpl:AL X pos es:=by rfl) :
   PE X (.Call (.Name x p) (e::es) [] pos) (U0 sp Aq E t):=by
 intro pins s σ H Q I h;refine auz (uv I hg hm ?_ su);refine au1 (h₀:=X.base) I.ok.mod.kin hk (fX (ha pos pins s σ H _ I h) fun us s1 ⟨vs,H1,I1,r,q⟩=>⟨I1.AY,?_⟩) he hpl;exact B3 F hr hb hd hx I1 r q
def U1(F:dP X.prog X.w X.K X.mg X.base CX k f fd ps sp)(hr:dU k X.A)(hg:Gl X x)(hm:X.mg x=some (.ref f))(hk:keepIn X.K (.ref f)=true)(hb:Binds X.K fd ps ds)(hd:Vals Aq ds)(hx:Passes CX X E)
   (su:AD x:=by decide):PE X (.Call (.Name x p) [] [] pos) (U0 sp Aq E afk):=by
 intro pins s σ H Q I h;refine auz (uv I hg hm ?_ su);exact callWith_K0 I.AY hk (B3 (us:=[]) F hr hb hd hx I .nil h)
def OZ(he:PE X o ta)(c:kO X.K C)(hm:Meth X.K C m f)(F:dP X.prog X.w X.K X.mg X.base CX k f fd ps sp)(hr:dU k X.A)(hb:Binds X.K fd ps ds)(hd:Vals Aq ds)(hx:Passes CX X E)(ha:PA X (e::es) t)
   (pY:AC X e es:=by rfl) (hpl:AL X pos es:=by rfl)
   (ht:eval (.Call (.Attribute o m apos) (e::es) [] pos) X.env=(do
     let ov ← eval o X.env
     standAt apos.atName
     let (f,first) ← holding [ov] (getMethod ov m pl)
     callWith pos f first (backTo pos (starEach (e::es) X.env)) (backToKw pos (keywordEach [] X.env))):=by rfl) :
   PE X (.Call (.Attribute o m apos) (e::es) [] pos) (adM C m sp Aq E ta t):=by
 intro pins s σ H Q I h;refine aul (pl:=pl) (fX (he pins s σ H _ I h) fun u s1 zz=>?_) ht;obtain⟨x,H1,I1,rx,a,dx,fs,ex,ea,l,q⟩:=zz;subst ex;obtain rfl:u=Value.ref a:=rx;refine qK I1 ea c hm l ?_;refine au1 (first:=[.ref a]) (h₀:=X.base) I.ok.mod.kin hm.kp (fX (ha pos pins s1 σ H1 _ I1 q) fun us s2 ⟨vs,H2,I2,r,q2⟩=>⟨I2.AY,?_⟩) pY hpl;exact B3 (us:=.ref a::us) (vs:=.ref a::vs) F hr hb hd hx I2 (.cons rfl r) q2
def JS(he:PE X o ta)(c:kO X.K C)(hm:Meth X.K C m f)(F:dP X.prog X.w X.K X.mg X.base CX k f fd ps sp)(hr:dU k X.A)(hb:Binds X.K fd ps ds)(hd:Vals Aq ds)(hx:Passes CX X E)
   (ht:eval (.Call (.Attribute o m apos) [] [] pos) X.env=(do
     let ov ← eval o X.env
     standAt apos.atName
     let (f,first) ← holding [ov] (getMethod ov m pl)
     callWith pos f first (backTo pos (starEach [] X.env)) (backToKw pos (keywordEach [] X.env))):=by rfl) :
   PE X (.Call (.Attribute o m apos) [] [] pos) (adM C m sp Aq E ta afk):=by
 intro pins s σ H Q I h;refine aul (pl:=pl) (fX (he pins s σ H _ I h) fun u s1 zz=>?_) ht;obtain⟨x,H1,I1,rx,a,dx,fs,ex,ea,l,q⟩:=zz;subst ex;obtain rfl:u=Value.ref a:=rx;refine qK I1 ea c hm l ?_;exact callWith_K0 (first:=[.ref a]) I1.AY hm.kp (B3 (us:=[.ref a]) (vs:=[.ref a]) F hr hb hd hx I1 (.cons rfl .nil) q)
structure Mk(K:Frag)(C f:Addr):Prop where
 makes:makesIn K C=true
 init:findIn K (.ref C) "__init__" = some (some (.ref f))
 fn:isFn K (.ref f)=true
 kp:keepIn K (.ref C)=true
def U3{Q:VK}{vs:BN}(M:Mk X.K C f)(F:dP X.prog X.w X.K X.mg X.base CX k f fd ps sp)(hr:dU (k+1) X.A)(hb:Binds X.K fd ps ds)(hd:Vals Aq ds)
   (hx:Passes CX X E) (I:Inv X pins σ H s) (r:Vals vs us)
   (h:∀x dx,H x=none->H dx=none->dx≠x->sp (.ref x::(vs++Aq)) (upd (upd H dx (.own x)) x (.ins C dx [])) (fun v H2=>v=.non/\Q (.ref x) H2) E) :
   wpAny (model X.prog X.w) X.A (call (.ref C) us) (EP X pins σ Q) X.xe s:=by
 have hq:=h (s.heap.objs.size+1) s.heap.objs.size (I.cW.fresh (avd _)) (I.cW.fresh (asp _)) (as8 (Nat.lt_succ_self _));have I2:=Inv.made (C:=C) I;have r2:Vals (V.ref (s.heap.objs.size+1)::(vs++Aq)) (Value.ref (s.heap.objs.size+1)::(us++ds)):=.cons rfl (r.append hd);have hl:(Value.ref (s.heap.objs.size+1)::us++ds).length=ps.length:=by
   have e:=r2.length;rw[F.len _ _ _ _ hq]at e;exact e.symm
 refine wpAny_call (UY (f:=f) I.AY M.makes M.init (auN.mp M.fn) (codeAny_mono (F.run _ X.stack _ _ ⟨Value.ref (s.heap.objs.size+1)::us,[]⟩ (Value.ref (s.heap.objs.size+1)::(us++ds)) _ _ E (hr.make C us [])
   (I2.afn.make C us []) (hb _ (Value.ref (s.heap.objs.size+1)::us) I2.AY hl) r2 hq) fun r s' hq'=>?_))
 cases r with
 | error e=>exact hx pins σ _ _ e s' I2 hq'
 | ok fl=>
   cases fl with
   | ret u=>
     obtain⟨v,H',I3,rv,ev,q3⟩:=I2.after hq';subst ev;exact⟨rv,⟨V.ref (s.heap.objs.size+1),H',I3,rfl,q3⟩⟩
   | next=>exact False.elim hq'
   | brk=>exact False.elim hq'
   | cont=>exact False.elim hq'
def O1(M:Mk X.K C f)(F:dP X.prog X.w X.K X.mg X.base CX k f fd ps sp)(hr:dU (k+1) X.A)(hg:Gl X x)(hm:X.mg x=some (.ref C))(hb:Binds X.K fd ps ds)(hd:Vals Aq ds)(hx:Passes CX X E)
   (ha:PA X (e::es) t) (su:AD x:=by decide) (he:AC X e es:=by rfl) (hpl:AL X pos es:=by rfl) :
   PE X (.Call (.Name x p) (e::es) [] pos) (aje C sp Aq E t):=by
 intro pins s σ H Q I h;refine auz (uv I hg hm ?_ su);refine au1 (h₀:=X.base) I.ok.mod.kin M.kp (fX (ha pos pins s σ H _ I h) fun us s1 ⟨vs,H1,I1,r,q⟩=>⟨I1.AY,?_⟩) he hpl;exact U3 M F hr hb hd hx I1 r q
end
structure d7(N P:Ap)(sc:Scope):Prop where
 kind:sc.kind=.function
 co:sc.isCoroutine=false
 gen:sc.isGenerator=false
 nd:N.Nodup
 pre:N.take P.length=P
 par:∀x∈P,sc.names.lookup x=some .local\/sc.names.lookup x=some .cell
 afo:∀y∈sc.names,y.2 ≠ .free
theorem Fl{kindOf:Str->Option NameKind}{x:Str}:∀{binds:D1} {m:Bz},(∀v,(x,v)∉binds)->bindL kindOf binds m x=m x
 | [],_,_=>rfl
 | (n,v)::r,m,h=>by
   unfold bindL;rw[Fl fun w hw=>h w (ar9 _ hw)];split
   . have:x≠n:=by rintro rfl;exact h v ar4
     simp[this]
   . rfl
theorem Fo{kindOf:Str->Option NameKind}{x:Str}:∀{binds:D1} {m:Bz},(∀v,(x,v)∉binds)->bindC kindOf binds m x=m x
 | [],_,_=>rfl
 | (n,v)::r,m,h=>by
   unfold bindC;rw[Fo fun w hw=>h w (ar9 _ hw)];split
   . rfl
   . have:x≠n:=by rintro rfl;exact h v ar4
     simp[this]
theorem Fp{kindOf:Str->Option NameKind}{x:Str}{v:Value}:∀{P:Ap} {vs:BY} {i:Nat} {m:Bz},P.Nodup->P[i]? = some x->vs[i]? = some v->kindOf x=some .local →
   bindL kindOf (P.zip vs) m x=some v
 | [],_,_,_,_,h,_,_=>by simp at h
 | _::_,[],_,_,_,_,h,_=>by simp at h
 | p::P,w::vs,0,m,nd,h1,h2,hk=>by
   simp at h1 h2;subst h1;subst h2;show bindL kindOf ((p,w)::P.zip vs) m p=_;unfold bindL;rw[Fl fun v hv=>(as6.mp nd).1 (List.of_mem_zip hv).1,ass hk];simp
 | p::P,w::vs,i+1,m,nd,h1,h2,hk=>by
   show bindL kindOf ((p,w)::P.zip vs) m x=_;unfold bindL;exact Fp (i:=i) (List.nodup_cons.mp nd).2 (by simpa using h1) (by simpa using h2) hk
theorem Ft{kindOf:Str->Option NameKind}{x:Str}{v:Value}:∀{P:Ap} {vs:BY} {i:Nat} {m:Bz},P.Nodup->P[i]? = some x->vs[i]? = some v->kindOf x≠some .local →
   bindC kindOf (P.zip vs) m x=some v
 | [],_,_,_,_,h,_,_=>by simp at h
 | _::_,[],_,_,_,_,h,_=>by simp at h
 | p::P,w::vs,0,m,nd,h1,h2,hk=>by
   simp at h1 h2;subst h1;subst h2;show bindC kindOf ((p,w)::P.zip vs) m p=_;unfold bindC;rw[Fo fun v hv=>(as6.mp nd).1 (List.of_mem_zip hv).1,ash hk];simp
 | p::P,w::vs,i+1,m,nd,h1,h2,hk=>by
   show bindC kindOf ((p,w)::P.zip vs) m x=_;unfold bindC;exact Ft (i:=i) (List.nodup_cons.mp nd).2 (by simpa using h1) (by simpa using h2) hk
def start(N:Ap)(vs:BN):St:=vs.map some++List.replicate (N.length-vs.length) none
def yS(CX:Rr)(P:Program)(w:World)(K:Frag)(mg:Bz)(base:Heap)(N:Ap)(qual:Str)(scope:Scope)(f:Addr)(cd:Value)(A:Around)(outer:Db)(s:Shared)(H:Hp)(E:XK):Cx where
 prog:=P
 w:=w
 K:=K
 mg:=mg
 base:=base
 A:=A.deeper (envOfC qual scope s.heap.objs.size f cd)
 N:=N
 s₀:=s
 H₀:=H
 env:=envOfC qual scope s.heap.objs.size f cd
 outer:=outer
 stack:=envOfC qual scope s.heap.objs.size f cd::outer
 ex:=[]
 calm:=true
 fn:=fun _=>true
 pn:=[]
 xe:=fun e s'=>wpAny (model P w) (A.deeper (envOfC qual scope s.heap.objs.size f cd)) (leaving (envOfC qual scope s.heap.objs.size f cd) e) (fun _ s''=>CX outer H s E e s'') (fun e' s''=>CX outer H s E e' s'') s'
def JT{sc:Scope}{n:Nat}{x:Str}(h:sc.names.lookup x=some .cell):∃c,(cellsFrom n sc.names []).lookup x=some c:=by
 have q:=cellsFrom_some sc.names n [] (.inl h);exact Option.isSome_iff_exists.mp q
def Rt{N:Ap}{qual:Str}{scope:Scope}{f:Addr}{cd:Value}{outer:Db}{s1:Shared}{E:XK}{vs:BN}
   (S:d7 N ps scope) (hd:A.handled=none) (e0:Ei P w K mg base A outer s H) (hl:vs.length=ps.length) (r:Vals vs us)
   (x:InCallC s s.heap.objs.size (bindL (envOfC qual scope s.heap.objs.size f cd).kindOf (ps.zip us) fun _=>none) (cellsFrom (s.heap.objs.size+1) scope.names []) (bindC (envOfC qual scope s.heap.objs.size f cd).kindOf (ps.zip us) fun _=>none) s1) :
   Inv (yS CX P w K mg base N qual scope f cd A outer s H E) [] (start N vs) H s1:=by
 have hpl:ps.length<=N.length:=by have:=congrArg List.length S.pre;rw[asK]at this;omega
 obtain⟨h1,tk,rfl,hk⟩:=x.done;have noA:∀b:Addr,b∉(yS CX P w K mg base N qual scope f cd A outer s H E).ex:=fun b z=>absurd (show b∈([]:BM) from z) Uf;refine⟨⟨e0.mod,S.kind,rfl,rfl,asp _,fun y z c h1 h2=>?_,fun y hy=>?_,fun y c _ h=>?_,fun _=>hd,Around.frames_deeper e0.frames,.inr ⟨rfl,rfl⟩,fun b z=>absurd z (noA b),e0.bs,e0.Ux,fun b _ _=>noA b,fun b z=>absurd z (noA b),e0.vo,e0.UN⟩,
   rfl,e0.bare,Un.kept hk,⟨_,x.toInCall.ns,fun i y v h1 h2 h3=>?_⟩,fun y c h=>⟨_,x.cell y c h⟩,e0.cW.fresh (asp _),fun y c h=>?_,fun p hp=>absurd (show p∈([]:BA) from hp) Uf,e0.cW.kept hk,?_⟩
 . exact name_of_addr x.apart (atO h1) (atO h2)
 . have hy:scope.names.lookup y=some .cell\/scope.names.lookup y=some .free:=hy;rcases hy with hy|hy
   . exact JT hy
   . exact absurd rfl (S.afo _ (atO hy))
 . exact aty (x.above y c (atO h))
 . have hi:i<vs.length:=by
     unfold start at h2;by_cases hi:i<vs.length
     . exact hi
     . rw[List.getElem?_append_right (by simpa using hi)]at h2;rw[List.getElem?_replicate]at h2;split at h2<;>cases h2
   have ha:vs[i]? = some v:=by
     unfold start at h2;rw[List.getElem?_append_left (by simpa using hi),List.getElem?_map]at h2;cases e:vs[i]? with
     | none=>rw[e]at h2;cases h2
     | some a=>rw[e]at h2;cases h2;rfl
   obtain⟨u,hu,rv⟩:=r.get ha;have hp:ps[i]? = some y:=by
     rw[← S.pre,List.getElem?_take_of_lt We];exact h1
   have ndP:ps.Nodup:=by rw[← S.pre];exact S.nd.sublist (List.take_sublist _ _)
   refine⟨u,rv,?_⟩;rcases S.par y (asu hp) with k|k
   . exact .inl ⟨k,Fp ndP hp hu k⟩
   . obtain⟨c,e⟩:=JT (n:=s.heap.objs.size+1) k;refine .inr ⟨.inl k,c,e,?_⟩;have q:=x.cell y c e;rw[Ft ndP hp hu (by show scope.names.lookup y≠_;rw[k];decide)]at q;exact q
 . exact e0.cW.fresh (aty (x.above y c (atO h)))
 . unfold start;show _=N.length;rw[asa,ar3,atD];omega
abbrev _root_.EQ:=Array (Option Value)
def adO{f:Addr}{qual:Str}{params:Arguments}{body:CU}{scope:Scope}{dV kV doc pm jc ct oc:Value}{an od:ET}
   {Uz:EQ} {N:Ap} {sp:Sp} (lk:K.lookup f=some ⟨oc,od,.func (fnOf name qual params body scope dV kV doc pm an jc ct),Uz⟩) (ko:codeIn K jc qual=true) (S:d7 N ps scope)
   (len:∀vs H Q E,sp vs H Q E->vs.length=ps.length)
   (U4:∀(A:Around) (outer:Db) (s:Shared) (H:Hp) (vs:BN) (Q:VK) (E:XK),dU k (A.deeper (envOfC qual scope s.heap.objs.size f jc))->sp vs H Q E →
     ∃t,OS (yS CX P w K mg base N qual scope f jc A outer s H E) body t/\t {nx:=fun _ H'=>Q .non H',rt:=Q} (start N vs) H) :
   dP P w K mg base CX (k+1) f (fnOf name qual params body scope dV kV doc pm an jc ct) ps sp:=by
 refine⟨len,fun A outer s H args us vs Q E hr e0 hb r U5=>?_⟩;have hl:=len _ _ _ _ U5;have KX:K.In s.heap:=e0.mod.kin.keeps fun b o e=>(e0.bs b o e).1;have lim:s.heap.NoLimit:=e0.mod.nolimit.keeps fun b o e=>(e0.bs b o e).1;have O2:∀y∈ps.zip us,scope.names.lookup y.1=some .local\/(scope.names.lookup y.1=some .cell/\((cellsFrom (s.heap.objs.size+1) scope.names []).lookup y.1).isSome=true):=fun⟨n,v⟩ hy=>by
   rcases S.par n (List.of_mem_zip hy).1 with q|q
   . exact .inl q
   . exact .inr ⟨q,cellsFrom_some _ _ _ (.inl q)⟩
 refine codeAny_call_function hr.depth (KX _ _ lk) rfl S.co S.gen rfl (PySem.W.codeRec_of KX ko) (hb _ _ _ _ ?_);refine wpAny_newFunctionEnv_cells S.kind O2 fun env he s1 x=>?_;subst he;refine⟨lim.keeps x.toInCall.keep,codeAny_func ?_⟩;obtain⟨t,ht,hq⟩:=U4 A outer s H vs Q E (hr.deeper _) U5;have I:Inv (yS CX P w K mg base N qual scope f jc A outer s H E) [] (start N vs) H s1:=Rt S hr.hd e0 hl r x;refine atc (ht [] s1 (start N vs) H _ I hq) (fun fl s' hs=>?_) fun e s' hs=>hs;have fin:∀{σ':St} {H':Hp} {v:V} {u:Value},Inv (yS CX P w K mg base N qual scope f jc A outer s H E) [] σ' H' s'->RelV v u->Q v H'->CE outer P w H s Q u s':=
   fun {σ' H' v u} J rv q=>⟨v,H',J.os,J.bare,J.base,J.cW,rv,q⟩
 cases fl with
 | ret u=>
   obtain⟨v,σ',H',J,rv,q⟩:=hs;exact fin J rv q
 | next=>
   obtain⟨σ',H',J,q⟩:=hs;exact fin (v:=V.non) (u:=Value.none) J rfl q
 | brk=>
   obtain⟨_,_,_,q⟩:=hs;exact False.elim q
 | cont=>
   obtain⟨_,_,_,q⟩:=hs;exact False.elim q
section
variable{x:Str}{p:Pos}{id T:String}{r:BN->Hp->VK->Prop}
def tCB(r:BN->Hp->VK->Prop)(t:TA):TE:=fun σ H Q=>t σ H fun vs H1=>r vs H1 Q
def qb(hc:oA X (.builtin id) r)(hg:Gl X x)(hm:X.mg x=none)(hv:bootBuiltins x=some (.builtin id))(ha:PA X (e::es) t)(hn:x≠"__name__":=by decide)(su:AD x:=by decide)
   (he:AC X e es:=by rfl) (hpl:AL X pos es:=by rfl):PE X (.Call (.Name x p) (e::es) [] pos) (tCB r t):=by
 intro pins s σ H Q I h;refine auz (Gy I hg hm hv ?_ hn su);exact PyProof.Rows.callWith_builtin1 (fX (ha pos pins s σ H _ I h) fun us s1 ⟨vs,H1,I1,r1,q1⟩=>hc pins s1 σ H1 vs us Q I1 r1 q1) he hpl
def jB(hc:oA X (.type T) r)(hg:Gl X x)(hm:X.mg x=none)(hv:bootBuiltins x=some (.type T))(ha:PA X (e::es) t)(hn:x≠"__name__":=by decide)(su:AD x:=by decide)
   (he:AC X e es:=by rfl) (hpl:AL X pos es:=by rfl):PE X (.Call (.Name x p) (e::es) [] pos) (tCB r t):=by
 intro pins s σ H Q I h;refine auz (Gy I hg hm hv ?_ hn su);exact auM (fX (ha pos pins s σ H _ I h) fun us s1 ⟨vs,H1,I1,r1,q1⟩=>hc pins s1 σ H1 vs us Q I1 r1 q1) he hpl
end
end L2
namespace HT
open PySem PyProof.Rows
variable{prog:Program}{w:World}{A:Around}{E:BB}{s:Shared}
def aai{t b:Addr}{vs ws:BY}{Q:BB}(ht:IsTup s.heap t vs.toArray)(hb:IsTup s.heap b ws.toArray)(hv:vs≠[])
   (h1:ws=[]->Q (.ref t) s) (h2:ws≠[]->Q (.ref s.heap.objs.size) {s with heap:=s.heap.push {cls:=.type "tuple",data:=.seq (vs++ws).toArray}})
   (hsz:vs.length+ws.length<=sizeLine):wpAny (model prog w) A (binaryOp .Add (.ref t) (.ref b)) Q E s:=by
 obtain⟨⟨cls,dd,data,sl⟩,ho,hc,n,hd⟩:=id ht;obtain⟨⟨amM,dd2,data2,ZI⟩,UA,ZJ,n2,hd2⟩:=id hb;simp only at hc hd ZJ hd2;subst hc hd ZJ hd2;have e:vs.toArray++ws.toArray=(vs++ws).toArray:=by simp
 by_cases hw:ws=[]
 . exact concat_meets ⟨_,ho,rfl⟩ ⟨_,UA,rfl⟩ noFill_tuple_add seq_tuple_add PySem.F.slot_tuple_add PySem.F.entry_tuple_add (PySem.F.args_tuple_add_2 _ _)
     (tuple_addW1 t b vs.toArray ws.toArray n n2 dd dd2 sl ZI (by simpa using hv) (by simp[hw])) ⟨ho,UA,h1 hw⟩
 . refine concat_meets ⟨_,ho,rfl⟩ ⟨_,UA,rfl⟩ noFill_tuple_add seq_tuple_add PySem.F.slot_tuple_add PySem.F.entry_tuple_add (PySem.F.args_tuple_add_2 _ _)
     (tuple_addW2 t b vs.toArray ws.toArray n n2 dd dd2 sl ZI (by simpa using hv) (by simpa using hw) (by rw[List.size_toArray,List.size_toArray];exact hsz)) ⟨ho,UA,?_⟩
   rw[e];exact h2 hw
abbrev _root_.CC:=Option Int
def iF(n d:Nat):CC->Nat
 | none=>d
 | some v=>if v<0 then(v+(n:Int)).toNat else min v.toNat n
theorem afp(n d:Nat)(hd:d<=n)(o:CC):iF n d o<=n:=by
 cases o with
 | none=>exact hd
 | some v=>
   show(if v<0 then(v+(n:Int)).toNat else min v.toNat n)<=n;by_cases hv:v<0
   . rw[if_pos hv];omega
   . rw[if_neg hv];exact Nat.min_le_right _ _
def O4(v:Int)(n d:Nat):(if v<0 then max (v+(n:Int)) 0 else min v (n:Int))=((iF n d (some v):Nat):Int):=by
 show(if v<0 then max (v+(n:Int)) 0 else min v (n:Int))=(((if v<0 then(v+(n:Int)).toNat else min v.toNat n):Nat):Int);by_cases hv:v<0
 . simp only[if_pos hv];omega
 . simp only[if_neg hv];omega
def LY(lo hi:CC)(n:Nat):Builtin.Slice.sliceAdjust lo hi 1 (n:Int)=(((iF n 0 lo:Nat):Int),((iF n n hi:Nat):Int)):=by
 have h1:¬ ((1:Int)<0):=by omega
 unfold Builtin.Slice.sliceAdjust;simp only[h1,if_false];refine Prod.ext ?_ ?_
 . cases lo with
   | none=>rfl
   | some v=>exact O4 v n 0
 . cases hi with
   | none=>rfl
   | some v=>exact O4 v n n
def LZ(i j:Nat):Builtin.Slice.slicePlaces (i:Int) (j:Int) 1=j-i:=by
 unfold Builtin.Slice.slicePlaces;have h1:(1:Int) > 0:=by omega
 simp only[h1,if_true,Int.ediv_one];split<;>omega
theorem B4{v:Value}{o:CC}{Q:CC->Shared->Prop}(p:IsPart v o)(h:Q o s):wpAny (model prog w) A (Builtin.Slice.slicePartIndex v) Q E s:=by
 cases p with
 | none=>exact slicePart_none h
 | int i t=>exact slicePart_int h
def qc{sl:Addr}{vl vu:Value}{lo hi:CC}{n:Nat}{Q:Int×Int×Nat->Shared->Prop}(hs:s.heap.IsSliceOf sl vl vu .none)(pl:IsPart vl lo)(pu:IsPart vu hi)
   (h:Q (((iF n 0 lo:Nat):Int),1,iF n n hi-iF n 0 lo) s):wpAny (model prog w) A (Builtin.Slice.sliceApplied (.ref sl) (pure (n:Int))) Q E s:=by
 obtain⟨os,UB,hcs,hds⟩:=id hs;unfold Builtin.Slice.sliceApplied Builtin.Slice.sliceFields;refine wpAny_bind (wpAny_bind (wpAny_field UB hds (x:=vl) rfl (wpAny_bind (wpAny_field UB hds (x:=vu) rfl (wpAny_bind (wpAny_field UB hds (x:=.none) rfl (wpAny_pure ?_)))))));refine wpAny_bind (slicePart_none ?_);show wpAny _ _ (if ((1:Int)==0)=true then _ else _) _ _ s;rw[if_neg Wp];refine wpAny_bind (B4 pl (wpAny_bind (B4 pu (wpAny_bind (wpAny_pure ?_)))));show wpAny _ _ (match Builtin.Slice.sliceAdjust lo hi 1 (n:Int) with|(lo,hi)=>pure (lo,(1:Int),Builtin.Slice.slicePlaces lo hi 1)) _ _ s;rw[LY lo hi n];show wpAny _ _ (pure (((iF n 0 lo:Nat):Int),(1:Int),Builtin.Slice.slicePlaces ((iF n 0 lo:Nat):Int) ((iF n n hi:Nat):Int) 1)) _ _ s;rw[LZ];exact wpAny_pure h
def U6(xs:D2)(i k:Nat):((List.range k).filterMap fun(m:Nat)=>xs[((i:Int)+(m:Int)*1).toNat]?).toArray=((xs.toList.drop i).take k).toArray:=by
 have e:(fun(m:Nat)=>xs[((i:Int)+(m:Int)*1).toNat]?)=fun m=>xs[i+m]?:=by
   funext m;have:((i:Int)+(m:Int)*1).toNat=i+m:=by omega
   rw[this]
 rw[e];have:=pick_run xs i k;rw[List.filterMap_map]at this;have e2:((fun x=>xs[x]?)∘fun x=>i+x)=fun m=>xs[i+m]?:=rfl;rw[e2]at this;rw[this]
def w9{t sl:Addr}{items:D2}{vl vu:Value}{lo hi:CC}{Q:BB}(ht:IsTup s.heap t items)(hs:s.heap.IsSliceOf sl vl vu .none)(pl:IsPart vl lo)(pu:IsPart vu hi)
   (hw:¬ (iF items.size 0 lo=0/\iF items.size items.size hi=items.size))
   (h:Q (.ref s.heap.objs.size) {s with heap:=s.heap.push {cls:=.type "tuple",data:=.seq ((items.toList.drop (iF items.size 0 lo)).take (iF items.size items.size hi-iF items.size 0 lo)).toArray}})
   (hsz:items.size<=sizeLine):wpAny (model prog w) A (getItem (.ref t) (.ref sl)) Q E s:=by
 have O5:sizeOk (.seq ((items.toList.drop (iF items.size 0 lo)).take (iF items.size items.size hi-iF items.size 0 lo)).toArray):=by
   show((items.toList.drop (iF items.size 0 lo)).take (iF items.size items.size hi-iF items.size 0 lo)).toArray.size<=sizeLine;rw[List.size_toArray,List.length_take,List.length_drop,Array.length_toList];omega
 have hj:iF items.size items.size hi<=items.size:=afp _ _ (Nat.le_refl _) hi;obtain⟨os,UB,hcs,hds⟩:=id hs;have hTs:s.TypeIs (.ref sl) "slice":=⟨os,UB,hcs⟩;unfold getItem
 try with_reducible refine wpAny_holding ?_
 first|refine wpAny_bind (wpAny_pure ?_)|skip
 refine wpAny_bind (wpAny_sequenceKey ht.typeIs Wp ?_);refine wpAny_bind (wpAny_callSpecial?_slot (name:=Str.ofString "__getitem__") ht.typeIs PyProof.Rows.slot_tuple_getitem
   (wpAny_call_entry PyProof.Rows.slot_tuple_getitem ht.typeIs entry_tuple_getitem ?_ (args_tuple_getitem _ _)))
 show wpAny _ _ (Builtin.Tuple.tupleItemsOf (.ref t) >>= _) _ _ s;refine wpAny_bind (tupleItemsOf_ ht ?_);refine wpAny_bind (wpAny_typeOf hTs ?_);rw[if_pos Wp];refine wpAny_bind (qc hs pl pu ?_);have Fv:¬ ((((iF items.size 0 lo:Nat):Int)==0&&(1:Int)==1&&(iF items.size items.size hi-iF items.size 0 lo)==items.size)=true):=by
   intro q;rw[Bool.and_eq_true,Bool.and_eq_true]at q;have q1:((iF items.size 0 lo:Nat):Int)=0:=eq_of_beq q.1.1;have q2:iF items.size items.size hi-iF items.size 0 lo=items.size:=eq_of_beq q.2;exact hw ⟨We,We⟩
 show wpAny _ _ (if (((iF items.size 0 lo:Nat):Int)==0&&(1:Int)==1&&(iF items.size items.size hi-iF items.size 0 lo)==items.size)=true then _ else _) _ _ s;rw[if_neg Fv,U6]
 first
   | exact wpAny_bind (m:=Builtin.Tuple.tupleExact _) (wpAny_newObj_type (wpAny_pure ⟨_,rfl,wpAny_pure h⟩) O5)
   | exact wpAny_bind (m:=Builtin.Tuple.tupleExact _) (wpAny_newObj_type (wpAny_bind (wpAny_pure (wpAny_pure ⟨_,rfl,wpAny_pure h⟩))) O5)
   | exact wpAny_bind (wpAny_bind (m:=Builtin.Tuple.tupleExact _) (wpAny_newObj_type (wpAny_pure (wpAny_pure ⟨_,rfl,wpAny_pure h⟩)) O5))
   | exact wpAny_bind (wpAny_bind (m:=Builtin.Tuple.tupleExact _) (wpAny_newObj_type (wpAny_pure ⟨_,rfl,wpAny_pure h⟩) O5))
end HT
namespace L2
open PySem PySem.Spec PyProof.Rows
abbrev TO:=St->Hp->(CC->Hp->Prop)->Prop
def PO(X:Cx)(e:Option Expr)(t:TO):Prop:=
 ∀(pins:BA) (s:Shared) (σ:St) (H:Hp) (Q:CC->Hp->Prop),Inv X pins σ H s->t σ H Q →
   wpAny (model X.prog X.w) X.A (evalPart e X.env) (fun u s'=>∃o H',Inv X pins σ H' s'/\IsPart u o/\Q o H') X.xe s
def aaj:TO:=fun _ H Q=>Q none H
def aji(t:TE):TO:=fun σ H Q=>t σ H fun x H1=>∃i,x=.int i/\Q (some i) H1
abbrev _root_.AT:=List Int
theorem intsAre_of{ns:AT}:∀{us:BY},Vals (ns.map V.int) us->IntsAre us ns:=by
 induction ns with
 | nil=>intro us r;rw[at6]at r;cases r;exact .nil
 | cons n ns ih=>
   intro us r;rw[asA]at r;cases r with
   | cons r1 r2=>
     obtain⟨t,e⟩:=r1;subst e;exact .cons n t (ih r2)
variable{X:Cx}{e:Expr}{te:TE}{lo hi:Option Expr}{tl th:TO}{pos p2:Pos}
def aak:PO X none aaj:=by
 intro pins s σ H Q I h;rw[evalPart_none];exact asd ⟨none,H,I,.none,h⟩
def aal(h:PE X e te):PO X (some e) (aji te):=by
 intro pins s σ H Q I hw;rw[evalPart_some];refine fX (h pins s σ H _ I hw) fun u s1 zz=>?_;obtain⟨x,H1,I1,r1,q1⟩:=zz;obtain⟨i,rfl,q⟩:=q1;obtain⟨t,rfl⟩:=r1;exact⟨some i,H1,I1,.int i t,q⟩
def SlR(X:Cx)(r:V->CC->CC->Hp->VK->Prop):Prop:=
 ∀(pins:BA) (s:Shared) (σ:St) (H:Hp) (x:V) (v vl vu:Value) (lo hi:CC) (sl:Addr) (Q:VK),Inv X pins σ H s->RelV x v->s.heap.IsSliceOf sl vl vu .none->IsPart vl lo->IsPart vu hi->r x lo hi H Q →
   ∃T id,typeLookup (.type T) "__getitem__" = pure (some (.builtin id))/\s.TypeIs v T/\wpAny (model X.prog X.w) X.A (getItem v (.ref sl)) (EP X pins σ Q) X.xe s
def tSl(r:V->CC->CC->Hp->VK->Prop)(te:TE)(tl th:TO):TE:=fun σ H Q=>te σ H fun x H1=>tl σ H1 fun l H2=>th σ H2 fun u H3=>r x l u H3 Q
def B5{r:V->CC->CC->Hp->VK->Prop}(hr:SlR X r)(he:PE X e te)(hl:PO X lo tl)(hu:PO X hi th):PE X (.Subscript e (.Slice lo hi none p2) pos) (tSl r te tl th):=by
 intro pins s σ H Q I h;refine Subscript_ (fX (he pins s σ H _ I h) fun v s1 zz=>?_);obtain⟨x,H1,I1,r1,q1⟩:=zz;refine wpAny_Slice (fX (hl pins s1 σ H1 _ I1 q1) fun vl s2 ⟨l,H2,I2,pl,q2⟩=>fX (hu pins s2 σ H2 _ I2 q2) fun vu s3 zz=>?_);obtain⟨u,H3,I3,pu,q3⟩:=zz;rw[evalPart_none];refine asd ?_;have I4:Inv X pins σ H3 {s3 with heap:=s3.heap.push {cls:=.type "slice",data:=.fields #[vl,vu,.none]}}:=I3.kept (t':=s3.toks) fun b ob q=>asv _ q;obtain⟨T,id,hT,ht,hg⟩:=hr pins {s3 with heap:=s3.heap.push {cls:=.type "slice",data:=.fields #[vl,vu,.none]}} σ H3 x v vl vu l u s3.heap.objs.size Q I4 r1 (Heap.IsSliceOf.new ..) pl pu q3;show wpAny (model X.prog X.w) X.A (subscriptTail e (.Slice lo hi none p2) v (.ref s3.heap.objs.size)) (EP X pins σ Q) X.xe {s3 with heap:=s3.heap.push {cls:=.type "slice",data:=.fields #[vl,vu,.none]}};exact tail_any (ops:=[.ref s3.heap.objs.size,v]) ht hT hg (by with_unfolding_all rfl)
def GF(xs:BN)(lo hi:CC):BN:=(xs.drop (HT.iF xs.length 0 lo)).take (HT.iF xs.length xs.length hi-HT.iF xs.length 0 lo)
def As(xs:BN)(lo hi:CC):(GF xs lo hi).length<=xs.length:=by
 unfold GF;rw[asK,atU];omega
def amO(K:Frag):V->CC->CC->Hp->VK->Prop:=fun x lo hi H Q=>∃a xs,x=.ref a/\se K H a xs ∧
 ¬ (HT.iF xs.length 0 lo=0/\HT.iF xs.length xs.length hi=xs.length)/\∀p,H p=none->Q (.ref p) (upd H p (.tup (GF xs lo hi)))
def afq:SlR X (amO X.K):=by
 intro pins s σ H x v vl vu lo hi sl Q I rx hs pl pu h;obtain⟨a,xs,rfl,hx,hw,q⟩:=h;cases rx;obtain⟨its,r,ht,hz⟩:=I.tuple hx;have hlen:its.toArray.size=xs.length:=by rw[asy];exact r.length.symm
 refine⟨"tuple",_,atn.lookup,ht.typeIs,?_⟩;refine HT.w9 ht hs pl pu (by rw[hlen];exact hw) ?_ (by rw[hlen];exact hz);rw[hlen];refine⟨.ref s.heap.objs.size,_,I.laid (t':=s.toks) (o:=.tup (GF xs lo hi)) (fun b ob q=>asv _ q) (asp _) ?_,rfl,q _ (I.cW.fresh (asp _))⟩;exact⟨asV (As xs lo hi) hz,_,(r.drop (HT.iF xs.length 0 lo)).take (HT.iF xs.length xs.length hi-HT.iF xs.length 0 lo),IsTup.new _ _⟩
def ajk(K:Frag):R2:=fun x y H Q=>∃a b xs ys,x=.ref a/\y=.ref b/\se K H a xs/\se K H b ys/\xs≠[]/\xs.length+ys.length<=sizeLine ∧
 (ys=[]->Q (.ref a) H)/\(ys≠[]->∀p,H p=none->Q (.ref p) (upd H p (.tup (xs++ys))))
variable{xs:BN}{us:BY}
theorem Vals.Bf(r:Vals xs us):us=[]↔xs=[]:=by
 cases r with
 | nil=>simp
 | cons _ _=>simp
def O6:wW X (binaryOp .Add) (ajk X.K):=by
 intro pins s σ H x y v u Q I rx ry h;obtain⟨a,b,xs,ys,rfl,rfl,ha,hb,hx,hz,q1,q2⟩:=h;cases rx;cases ry;obtain⟨its,r1,p1,_⟩:=I.tuple ha;obtain⟨vp,r2,p2,_⟩:=I.tuple hb;refine HT.aai p1 p2 (fun z=>hx (r1.Bf.mp z)) (fun z=>⟨.ref a,H,I,rfl,q1 (r2.Bf.mp z)⟩) (fun z=>?_) (by rw[← r1.length,← r2.length];exact hz);refine⟨.ref s.heap.objs.size,_,I.laid (t':=s.toks) (o:=.tup (xs++ys)) (fun b ob q=>asv _ q) (asp _) ?_,rfl,q2 (fun w=>z (r2.Bf.mpr w)) _ (I.cW.fresh (asp _))⟩;exact⟨by rw[asa];exact hz,_,r1.append r2,IsTup.new _ _⟩
def O7(n:Nat)(i:Int):Option Nat:=if 0<=i then(if i<n then some i.toNat else none) else if -(n:Int)<=i then some (i+n).toNat else none
variable{α:Type}
def ux(xs:List α)(i:Int):Option α:=(O7 xs.length i).bind fun j=>xs[j]?
variable{n:Nat}
def Bg{i:Int}{j:Nat}(h:O7 n i=some j):seqIndex? i n=some j/\j<n /\ -(n:Int)<=i/\i<n:=by
 unfold O7 at h;by_cases h0:0<=i
 . rw[ass h0]at h;by_cases h1:i<n
   . rw[ass h1]at h;have e:i.toNat=j:=asE h;exact⟨by rw[seqIndex_of h0 h1,e],We,We,h1⟩
   . rw[ash h1]at h;cases h
 . rw[ash h0]at h;by_cases h1:-(n:Int)<=i
   . rw[ass h1]at h;have e:(i+n).toNat=j:=asE h;exact⟨by rw[seqIndex_neg We h1,e],We,h1,We⟩
   . rw[ash h1]at h;cases h
theorem GH{xs:List α}{i:Int}{v:α}(h:ux xs i=some v):∃j,seqIndex? i xs.length=some j/\xs[j]? = some v/\j<xs.length /\ -(xs.length:Int)<=i/\i<xs.length:=by
 unfold ux at h;cases e:O7 xs.length i with
 | none=>rw[e]at h;cases h
 | some j=>
   rw[e]at h;obtain⟨h1,h2,h3,h4⟩:=Bg e;exact⟨j,h1,h,h2,h3,h4⟩
def gJ{xs:List α}{j:Nat}{v:α}(h:xs[j]? = some v):ux xs (j:Int)=some v:=by
 have hj:j<xs.length:=(asl.mp h).1;have e:O7 xs.length (j:Int)=some j:=by
   unfold O7;rw[ass We,ass We];simp
 unfold ux;rw[e];exact h
def qL(b:Expr):Prop:=∀o i,subscripted b false o i=operate [o,i] (getItem o i)
def IxR(X:Cx)(r:R2):Prop:=
 ∀(value slice:Expr) (pins:BA) (s:Shared) (σ:St) (H:Hp) (x y:V) (v u:Value) (Q:VK),Inv X pins σ H s->RelV x v->RelV y u->r x y H Q →
   subscripted slice false v u=operate [v,u] (getItem v u)->wpAny (model X.prog X.w) X.A (subscriptTail value slice v u) (EP X pins σ Q) X.xe s
abbrev _root_.ES:=V->BN->Hp->VK->Prop
def MtR(X:Cx)(id:String)(r:ES):Prop:=
 ∀(pins:BA) (s:Shared) (σ:St) (H:Hp) (x:V) (xs:BN) (v:Value) (us:BY) (Q:VK),Inv X pins σ H s->RelV x v->Vals xs us->r x xs H Q →
   wpAny (model X.prog X.w) X.A (call (.builtin id) (v::us)) (EP X pins σ Q) X.xe s
section
variable{a b:Expr}{ta tb:TE}
def B6{r:R2}(hr:IxR X r)(ha:PE X a ta)(hb:PE X b tb)(hs:qL b):PE X (.Subscript a b pos) (tOp r ta tb):=by
 intro pins s σ H Q I h;exact Subscript_ (afa ha hb I h fun v u s2 x y H2 I2 rx ry q=>hr a b pins s2 σ H2 x y v u Q I2 rx ry q (hs _ _))
def amQ(K:Frag):R2:=fun x y H Q=>∃p xs i v,x=.ref p/\y=.int i/\ou K H p xs/\ux xs i=some v/\Q v H
def amR(K:Frag):R2:=fun x y H Q=>∃p xs i v,x=.ref p/\y=.int i/\se K H p xs/\ux xs i=some v/\Q v H
def amS:R2:=fun x y H Q=>∃z i c,x=.str z/\y=.int i/\z.length<=sizeLine/\ux z.cps.toList i=some c/\Q (.str ⟨#[c]⟩) H
def O8:IxR X (amQ X.K):=by
 intro value slice pins s σ H x y v u Q I rx ry h hs;obtain⟨p,xs,i,z,rfl,rfl,hq,he,q⟩:=h;cases rx;obtain⟨t,rfl⟩:=ry;obtain⟨its,r,pl,hz⟩:=I.list hq;obtain⟨j,h1,h2,h3,h4,h5⟩:=GH he;obtain⟨w,ew,L1⟩:=r.get h2;have hl:=r.length;have hn:=yQ;have fin:EP X pins σ Q w s:=⟨z,H,I,L1,q⟩;by_cases h0:0<=i
 . have hj:i.toNat=j:=by
     rw[seqIndex_of h0 h5]at h1;exact asE h1
   exact item_listR pl.isList h0 We (by rw[hj];simpa using ew) fin hs
 . have hj:(i+(its.toArray.size:Int)).toNat=j:=by
     rw[seqIndex_neg We h4]at h1;rw[asy,← hl];exact asE h1
   exact subscriptTail_builtinR (x:=w) pl.isList.typeIs slot_list_getitem.lookup
     (wpAny_getItem_list_neg (Q:=fun r s'=>r=w/\EP X pins σ Q r s') pl.isList We (by rw[List.size_toArray]<;>omega) We (by rw[hj];simpa using ew) ⟨rfl,fin⟩) hs
def GJ:IxR X (amR X.K):=by
 intro value slice pins s σ H x y v u Q I rx ry h hs;obtain⟨p,xs,i,z,rfl,rfl,hq,he,q⟩:=h;cases rx;obtain⟨t,rfl⟩:=ry;obtain⟨its,r,pl,hz⟩:=I.tuple hq;obtain⟨j,h1,h2,h3,h4,h5⟩:=GH he;obtain⟨w,ew,L1⟩:=r.get h2;have hl:=r.length;have hn:=yQ;have fin:EP X pins σ Q w s:=⟨z,H,I,L1,q⟩;exact subscriptTail_builtinR (x:=w) pl.typeIs slot_tuple_getitem.lookup
   (getItem_tuple (j:=j) (Q:=fun r s'=>r=w/\EP X pins σ Q r s') pl We We (by rw[List.size_toArray,← hl];exact h1) (by simpa using ew) ⟨rfl,fin⟩) hs
def afr:IxR X amS:=by
 intro value slice pins s σ H x y v u Q I rx ry h hs;obtain⟨z,i,c,rfl,rfl,hz,he,q⟩:=h;obtain⟨t,rfl⟩:=rx;obtain⟨t',rfl⟩:=ry;obtain⟨j,h1,h2,h3,h4,h5⟩:=GH he;have hl:z.cps.toList.length=z.length:=by simp[Str.length]
 rw[hl]at h1 h4 h5;have hn:=yQ;exact tail_any (typeIs_str s z t) slot_str_getitem.lookup (getItem_str (c:=c) (by
   have e1:decide (i < -(2 ^ 63:Int))=false:=asS We;have e2:decide (i ≥ 2 ^ 63)=false:=asS We;rw[e1,e2,Bool.or_false]) (by rw[h1];simpa using h2) ⟨.str ⟨#[c]⟩,H,I.tok _,⟨_,rfl⟩,q⟩) hs
def L5(its:BY)(n j:Nat)(u:Value):Obj.mapSeq (·.setIfInBounds j u) {cls:=.type "list",data:=.seq its.toArray n}={cls:=.type "list",data:=.seq (its.set j u).toArray n}:=by
 simp[Obj.mapSeq]
theorem Inv.lst{pins:BA}{σ:St}{H:Hp}{s:Shared}{p:Addr}(I:Inv X pins σ H s)(h:H p=some (.lst xs)) :
   ∃(its:BY) (n:Nat),Vals xs its/\s.heap.get? p=some {cls:=.type "list",data:=.seq its.toArray n}/\xs.length<=sizeLine:=by
 obtain⟨z,its,n,r,e⟩:=I.cW p _ h;exact⟨its,n,r,e,z⟩
theorem Inv.afs{pins:BA}{σ:St}{H:Hp}{s:Shared}{p:Addr}{ys:BN}{its its':BY}{n':Nat}{f:Obj->Obj}(I:Inv X pins σ H s)(h:H p=some (.lst xs))
   (ho:s.heap.get? p=some {cls:=.type "list",data:=.seq its.toArray n}) (hf:f {cls:=.type "list",data:=.seq its.toArray n}={cls:=.type "list",data:=.seq its'.toArray n'}) (r:Vals ys its') (hz:ys.length<=sizeLine) (t:Nat) :
   Inv X pins σ (upd H p (.lst ys)) {s with heap:=s.heap.update p f,toks:=t}:=by
 have e:(s.heap.update p f).get? p=some {cls:=.type "list",data:=.seq its'.toArray n'}:=by
   rw[atX f ho (by rw[hf]<;>rfl),hf]
 refine I.write (x:=p) (e:=p) (by rw[h];trivial) (.inl rfl) (fun b u hb q=>(auE _ _ (auj hb)).trans q) ⟨_,e⟩ ?_;exact⟨hz,its',n',r,e⟩
def ajl:V->V->V->Hp->(Hp->Prop)->Prop:=fun o i v H Q=>∃p xs k j,o=.ref p/\i=.int k/\H p=some (.lst xs)/\O7 xs.length k=some j/\Q (upd H p (.lst (xs.set j v)))
def set_list:aiU X ajl:=by
 intro pins s σ H o i v ov iv u Q I ro ri rv h;obtain⟨p,xs,k,j,rfl,rfl,hp,hj,q⟩:=h;cases ro;obtain⟨t,rfl⟩:=ri;obtain⟨its,n,r,ho,hz⟩:=I.lst hp;obtain⟨h1,h2,h3,h4⟩:=Bg hj;have hl:=r.length;have hn:=yQ;have I':Inv X pins σ (upd H p (.lst (xs.set j v))) {s with heap:=s.heap.update p (Obj.mapSeq (·.setIfInBounds j u))}:=
   I.afs hp ho (L5 its n j u) (r.set rv j) (by rw[at8];exact hz) s.toks
 by_cases h0:0<=k
 . have hk:k.toNat=j:=by
     rw[seqIndex_of h0 h4]at h1;exact asE h1
   exact PySem.W.ki_setAt ho h0 We (by rw[asy,← hl];exact h4) (by rw[hk];exact⟨_,I',q⟩)
 . have hk:(k+(its.toArray.size:Int)).toNat=j:=by
     rw[seqIndex_neg We h3]at h1;rw[asy,← hl];exact asE h1
   exact PySem.W.ki_setBack ho We (by rw[asy,← hl];exact h3) We (by rw[hk];exact⟨_,I',q⟩)
def GK(lo hi:CC)(n:Nat):(sliceBounds lo hi none n).1=((HT.iF n 0 lo:Nat):Int)/\(sliceBounds lo hi none n).2.1=((HT.iF n n hi:Nat):Int)/\(sliceBounds lo hi none n).2.2=1:=by
 refine⟨?_,?_,rfl⟩
 . cases lo with
   | none=>simp[sliceBounds,HT.iF]
   | some i=>
     simp only[sliceBounds,HT.iF,Option.getD_none,show(1:Int) > 0 by decide,auJ];by_cases h:i<0
     . simp only[h,auJ]<;>omega
     . simp only[h,at5]<;>omega
 . cases hi with
   | none=>simp[sliceBounds,HT.iF]
   | some i=>
     simp only[sliceBounds,HT.iF,Option.getD_none,show(1:Int) > 0 by decide,auJ];by_cases h:i<0
     . simp only[h,auJ]<;>omega
     . simp only[h,at5]<;>omega
def Ej(its:BY)(lo hi:CC):slicePick its.toArray lo hi none=((its.drop (HT.iF its.length 0 lo)).take (HT.iF its.length its.length hi-HT.iF its.length 0 lo)).toArray:=by
 obtain⟨h1,h2,h3⟩:=GK lo hi its.toArray.size;unfold slicePick;rw[h1,h2,h3];simp only[sliceRange_one,pick_run,asy]<;>rfl
def amT(K:Frag):V->CC->CC->Hp->VK->Prop:=fun x lo hi H Q=>∃a xs,x=.ref a/\ou K H a xs/\∀p,H p=none->Q (.ref p) (upd H p (.lst (GF xs lo hi)))
def aam:SlR X (amT X.K):=by
 intro pins s σ H x v vl vu lo hi sl Q I rx hs pl pu h;obtain⟨a,xs,rfl,hx,q⟩:=h;cases rx;obtain⟨its,r,ht,hz⟩:=I.list hx;have hlen:=r.length;refine⟨"list",_,slot_list_getitem.lookup,ht.isList.typeIs,?_⟩;refine wpAny_getItem_list_slice ht.isList hs pl pu .none Uf ?_ (by rw[asy]<;>omega);rw[Ej,← hlen];refine⟨.ref s.heap.objs.size,_,I.laid (t':=s.toks) (o:=.lst (GF xs lo hi)) (fun b ob q=>asv _ q) (asp _) ?_,rfl,q _ (I.cW.fresh (asp _))⟩;exact⟨asV (As xs lo hi) hz,_,0,(r.drop (HT.iF xs.length 0 lo)).take (HT.iF xs.length xs.length hi-HT.iF xs.length 0 lo),asM _ rfl⟩
def xg:V->Bool
 | .non=>true
 | .bl _=>true
 | .int _=>true
 | .str _ => true
 | _=>false
def eqV:V->V->Bool
 | .non,.non=>true
 | .bl a,.bl b=>a==b
 | .bl a,.int b=>(if a then 1 else 0)==b
 | .int a,.bl b=>a==(if b then 1 else 0)
 | .int a,.int b=>a==b
 | .str a, .str b => a == b
 | _,_=>false
theorem afu{A:Around}{s:Shared}{y x:V}{u v:Value}(ry:RelV y u)(rx:RelV x v)(fy:xg y=true)(fx:xg x=true):SeqAt.EqAt A s u v (eqV y x):=by
 cases y with
 | non=>
   cases ry;cases x with
   | non=>cases rx;exact SeqAt.EqAt.same _
   | bl b=>cases rx;exact SeqAt.EqAt.none_bool b
   | int b=>obtain⟨t,rfl⟩:=rx;exact SeqAt.EqAt.none_int b t
   | str b=>obtain⟨t,rfl⟩:=rx;exact SeqAt.EqAt.none_str b t
   | _=>exact absurd (show false=true from fx) asr
 | bl a=>
   cases ry;cases x with
   | non=>cases rx;exact SeqAt.EqAt.bool_none a
   | bl b=>cases rx;exact SeqAt.EqAt.bool_bool a b
   | int b=>obtain⟨t,rfl⟩:=rx;exact SeqAt.EqAt.bool_int a b t
   | str b=>obtain⟨t,rfl⟩:=rx;exact SeqAt.EqAt.bool_str a b t
   | _=>exact absurd (show false=true from fx) asr
 | int a=>
   obtain⟨t',rfl⟩:=ry;cases x with
   | non=>cases rx;exact SeqAt.EqAt.int_none a t'
   | bl b=>cases rx;exact SeqAt.EqAt.int_bool a t' b
   | int b=>obtain⟨t,rfl⟩:=rx;exact SeqAt.EqAt.int_int a t' b t
   | str b=>obtain⟨t,rfl⟩:=rx;exact SeqAt.EqAt.int_str a t' b t
   | _=>exact absurd (show false=true from fx) asr
 | str a=>
   obtain⟨t',rfl⟩:=ry;cases x with
   | non=>cases rx;exact SeqAt.EqAt.str_none a t'
   | bl b=>cases rx;exact SeqAt.EqAt.str_bool a t' b
   | int b=>obtain⟨t,rfl⟩:=rx;exact SeqAt.EqAt.str_int a t' b t
   | str b=>obtain⟨t,rfl⟩:=rx;exact SeqAt.EqAt.str_str a t' b t
   | _=>exact absurd (show false=true from fx) asr
 | _=>exact absurd (show false=true from fy) asr
def L6(x:V)(u:Value):Bool:=match u with
 | .none=>eqV .non x
 | .bool b=>eqV (.bl b) x
 | .int i _=>eqV (.int i) x
 | .str z _ => eqV (.str z) x
 | _=>false
theorem U7{x y:V}{u:Value}(r:RelV y u)(f:xg y=true):L6 x u=eqV y x:=by
 cases y with
 | non=>cases r;rfl
 | bl b=>cases r;rfl
 | int i=>obtain⟨t,rfl⟩:=r;rfl
 | str z=>obtain⟨t,rfl⟩:=r;rfl
 | _=>exact absurd (show false=true from f) asr
theorem xh{x:V}:∀{xs:BN} {us:BY},Vals xs us->xs.all xg=true->us.any (L6 x)=xs.any fun y=>eqV y x
 | _,_,.nil,_=>rfl
 | y::xs,u::us,.cons r t,f=>by
   rw[List.all_cons,asI]at f;rw[auT,auT,U7 r f.1,xh t f.2]
theorem sF{A:Around}{s:Shared}{x:V}{v:Value}(rx:RelV x v)(fx:xg x=true):∀{xs:BN} {us:BY},Vals xs us->xs.all xg=true->∀u∈us,SeqAt.EqAt A s u v (L6 x u)
 | _,_,.nil,_=>fun u hu=>by cases hu
 | y::xs,u::us,.cons r t,f=>fun u' hu=>by
   rw[List.all_cons,asI]at f;rcases asb.mp hu with rfl|hu
   . rw[U7 r f.1];exact afu r rx f.1 fx
   . exact sF rx fx t f.2 u' hu
def inV(x:V)(xs:BN):Bool:=xs.any fun y=>eqV y x
def rIn(K:Frag)(neg:Bool):R2:=fun x y H Q=>∃p xs,y=.ref p/\(ou K H p xs\/se K H p xs)/\xg x=true/\xs.all xg=true/\Q (.bl (if neg then !inV x xs else inV x xs)) H
def uy:wW X (compareOp .In) (rIn X.K false):=by
 intro pins s σ H x y v u Q I rx ry h;obtain⟨p,xs,rfl,hq,fx,fs,q⟩:=h;cases ry;rcases hq with hq|hq
 . obtain⟨its,r,pl,hz⟩:=I.list hq;refine SeqAt.in_listAt (L6 x) pl.isList (fun w hw=>sF rx fx r fs w (by simpa using hw)) ⟨.bl _,H,I,rfl,?_⟩;rw[show its.toArray.any (L6 x)=its.any (L6 x) by simp,xh r fs];exact q
 . obtain⟨its,r,pl,hz⟩:=I.tuple hq;refine SeqAt.in_tupleAt (L6 x) pl (fun w hw=>sF rx fx r fs w (by simpa using hw)) ⟨.bl _,H,I,rfl,?_⟩;rw[show its.toArray.any (L6 x)=its.any (L6 x) by simp,xh r fs];exact q
def xj:wW X (compareOp .NotIn) (rIn X.K true):=by
 intro pins s σ H x y v u Q I rx ry h;obtain⟨p,xs,rfl,hq,fx,fs,q⟩:=h;cases ry;rcases hq with hq|hq
 . obtain⟨its,r,pl,hz⟩:=I.list hq;refine SeqAt.notIn_listAt (L6 x) pl.isList (fun w hw=>sF rx fx r fs w (by simpa using hw)) ⟨.bl _,H,I,rfl,?_⟩;rw[show its.toArray.any (L6 x)=its.any (L6 x) by simp,xh r fs];exact q
 . obtain⟨its,r,pl,hz⟩:=I.tuple hq;refine SeqAt.notIn_tupleAt (L6 x) pl (fun w hw=>sF rx fx r fs w (by simpa using hw)) ⟨.bl _,H,I,rfl,?_⟩;rw[show its.toArray.any (L6 x)=its.any (L6 x) by simp,xh r fs];exact q
def GL:oA X (.builtin "len") (fun xs H Q=>∃p ys,xs=[.ref p]/\(ou X.K H p ys\/se X.K H p ys)/\Q (.int ys.length) H):=by
 intro pins s σ H xs us Q I r h;obtain⟨p,ys,rfl,hq,q⟩:=h;obtain⟨u,rfl,rx⟩:=vals1 r;cases rx;have hn:=yQ;rcases hq with hq|hq
 . obtain⟨its,r',pl,hz⟩:=I.list hq;have hlen:=r'.length;exact Calls.call_len_list pl.isList (by simp only[asy]<;>omega) ⟨.int ys.length,H,I.tok _,⟨s.toks+1,by rw[asy,hlen]⟩,q⟩
 . obtain⟨its,r',pl,hz⟩:=I.tuple hq;have hlen:=r'.length;exact len_tuple pl (by simp only[asy]<;>omega) ⟨.int ys.length,H,I.tok _,⟨s.toks+1,by rw[asy,hlen]⟩,q⟩
def xm:oA X (.type "list") (fun xs H Q=>∃p ys,xs=[.ref p]/\(ou X.K H p ys\/se X.K H p ys)/\∀l,H l=none->Q (.ref l) (upd H l (.lst ys))):=by
 intro pins s σ H xs us Q I r h;obtain⟨p,ys,rfl,hq,q⟩:=h;obtain⟨u,rfl,rx⟩:=vals1 r;cases rx;have fin:∀(its:BY),Vals ys its->ys.length<=sizeLine->∀(h':Heap) (c':Nat),(∀b o',s.heap.get? b=some o'->h'.get? b=some o') →
     h'.get? s.heap.objs.size=some {cls:=.type "list",dict:=none,data:=.seq its.toArray c',slots:=#[]}->EP X pins σ Q (.ref s.heap.objs.size) {s with heap:=h'}:=fun its r' hz h' c' kp e=>
   ⟨.ref s.heap.objs.size,_,I.laid (t':=s.toks) kp (asp _) (show eN X.prog X.w _ h' _ (.lst ys) from⟨hz,its,c',r',e⟩),rfl,q _ (I.cW.fresh (asp _))⟩
 rcases hq with hq|hq
 . obtain⟨its,r',pl,hz⟩:=I.list hq;have hlen:=r'.length;obtain⟨o,ho,hc,n,hd⟩:=pl.isList;exact call_list_seq p (.inl rfl) ho hc hd (fun h' c' kp e=>fin its r' hz h' c' kp e) (by simp only[asy]<;>omega)
 . obtain⟨its,r',pl,hz⟩:=I.tuple hq;have hlen:=r'.length;obtain⟨o,ho,hc,n,hd⟩:=pl;exact call_list_seq p (.inr rfl) ho hc hd (fun h' c' kp e=>fin its r' hz h' c' kp e) (by simp only[asy]<;>omega)
def vz:oA X (.type "tuple") (fun xs H Q=>∃p ys,xs=[.ref p]/\((ou X.K H p ys/\∀l,H l=none->Q (.ref l) (upd H l (.tup ys)))\/(se X.K H p ys/\Q (.ref p) H))):=by
 intro pins s σ H xs us Q I r h;obtain⟨p,ys,rfl,h⟩:=h;obtain⟨u,rfl,rx⟩:=vals1 r;cases rx;rcases h with⟨hq,q⟩|⟨hq,q⟩
 . obtain⟨its,r',pl,hz⟩:=I.list hq;have hlen:=r'.length;refine call_tuple_list pl.isList (fun h' kp=>?_) (by simp only[asy]<;>omega);have I1:Inv X pins σ H {s with heap:=h'}:=I.kept (t':=s.toks) kp;have I2:Inv X pins σ (upd H h'.objs.size (.tup ys)) {s with heap:=h'.push {cls:=.type "tuple",data:=.seq its.toArray}}:=
     I1.laid (t':=s.toks) (fun b o e=>asv _ e) (asp _) (show eN X.prog X.w _ _ _ (.tup ys) from⟨hz,its,r',IsTup.new _ _⟩)
   exact⟨.ref h'.objs.size,_,I2,rfl,q _ (I1.cW.fresh (asp _))⟩
 . obtain⟨its,r',pl,hz⟩:=I.tuple hq;exact call_tuple_same pl ⟨.ref p,H,I,rfl,q⟩
def tyV(K:Frag)(T:String)(x:V)(H:Hp):Prop:=match x with
 | .str _ => T = "str"
 | .int _=>T="int"
 | .ref p=>(T="list" /\ ∃xs,ou K H p xs)\/(T="tuple" /\ ∃o,K.lookup p=some o/\o.cls=.type "tuple" /\ o.dict=none) ∨
     (T="dict" /\ ((∃kvs,H p=some (.dK kvs))\/∃kvs,H p=some (.dT kvs)))\/(T="set" /\ ∃S n,H p=some (.set S n))
 | _=>False
def U8{pins:BA}{σ:St}{H:Hp}{s:Shared}{T:String}{x:V}{v:Value}(I:Inv X pins σ H s)(r:RelV x v)(ty:tyV X.K T x H) :
   s.TypeIs v T/\∀a,v=.ref a->∃ob,s.heap.get? a=some ob/\ob.dict=none:=by
 cases x with
 | str z=>
   obtain⟨t,rfl⟩:=r;cases (show T="str" from ty);exact⟨typeIs_str s z t,fun _ e=>nomatch e⟩
 | int i=>
   obtain⟨t,rfl⟩:=r;cases (show T="int" from ty);exact⟨typeIs_int s i t,fun _ e=>nomatch e⟩
 | ref p=>
   cases r;rcases ty with⟨rfl,xs,hq⟩|⟨rfl,o,hk,hc,hd⟩|⟨rfl,hk⟩|⟨rfl,S,n,hk⟩
   . obtain⟨its,_,pl,_⟩:=I.list hq;refine⟨pl.isList.typeIs,fun a e=>?_⟩;cases e;obtain⟨o,n,e,c,hd,_⟩:=pl;exact⟨o,e,hd⟩
   . refine⟨⟨o,I.AY p o hk,hc⟩,fun a e=>?_⟩;cases e;exact⟨o,I.AY _ o hk,hd⟩
   . have z:∃o,s.heap.get? p=some o/\o.ExactDict:=by
       rcases hk with⟨kvs,hk⟩|⟨kvs,hk⟩
       . obtain⟨_,_,_,_,o,_,_,e,ex,_⟩:=I.cW p _ hk;exact⟨o,e,ex⟩
       . obtain⟨_,_,_,_,o,_,_,e,ex,_⟩:=I.cW p _ hk;exact⟨o,e,ex⟩
     obtain⟨o,e,ex⟩:=z;refine⟨⟨o,e,ex.1⟩,fun a e2=>?_⟩;cases e2;exact⟨o,e,ex.2.1⟩
   . obtain⟨o,_,_,_,e,ex,_⟩:=I.cW p _ hk;refine⟨⟨o,e,ex.1⟩,fun a e2=>?_⟩;cases e2;exact⟨o,e,ex.2.1⟩
 | _=>exact False.elim ty
def amV(K:Frag)(T:String)(r:ES)(to:TE):TE:=fun σ H Q=>to σ H fun x H1=>tyV K T x H1/\r x [] H1 Q
def tBM(K:Frag)(T:String)(r:ES)(to:TE)(t:TA):TE:=fun σ H Q=>to σ H fun x H1=>tyV K T x H1/\t σ H1 fun xs H2=>r x xs H2 Q
variable{o:Expr}{es:CS}{to:TE}{t:TA}{name:Str}{apos lW:Pos}{T id:String}{r:ES}
def afv(pa:PlainAttrs T)(slot:Slot T name id)(hty:typeOf (.builtin id)=pure (.type "method_descriptor"))(hm:MtR X id r)(ho:PE X o to)
   (gy:AS X o name:=by rfl) (hline:(apos.endLine==lW.line)=true:=by rfl):PE X (.Call (.Attribute o name apos) [] [] lW) (amV X.K T r to):=by
 intro pins s σ H Q I h;refine wpAny_Call_method0_late gy hline (fX (ho pins s σ H _ I h) fun v s1 zz=>?_);obtain⟨x,H1,I1,r1,ty,q1⟩:=zz;obtain⟨h1,h2⟩:=U8 I1 r1 ty;exact⟨T,id,pa,slot,hty,h1,h2,auF rfl (PySem.evalArgs_none (hm pins s1 σ H1 x [] v [] Q I1 r1 .nil q1))⟩
def Fw(pa:PlainAttrs T)(slot:Slot T name id)(hty:typeOf (.builtin id)=pure (.type "method_descriptor"))(hm:MtR X id r)(ho:PE X o to)(ha:PA X (e::es) t)
   (gy:AS X o name:=by rfl)
   (qN:((backTo lW (starEach (e::es) X.env)).all (fun x=>!x.1)&&(backToKw lW (keywordEach [] X.env)).all (fun x=>x.1.isSome)
     && decide ((e::es).length+([]:EO).length+(if ([]:EO).isEmpty then 0 else 1)<30))=true:=by rfl)
   (hline:(apos.endLine==lW.line)=true:=by rfl) (hs:AC X e es:=by rfl) (vS:AL X lW es:=by rfl) :
   PE X (.Call (.Attribute o name apos) (e::es) [] lW) (tBM X.K T r to t):=by
 intro pins s σ H Q I h;refine wpAny_Call_method_late gy qN hline rfl (fX (ho pins s σ H _ I h) fun v s1 zz=>?_);obtain⟨x,H1,I1,r1,ty,q1⟩:=zz;obtain⟨h1,h2⟩:=U8 I1 r1 ty;refine⟨T,id,pa,slot,hty,h1,h2,?_⟩;have hA:=ha lW pins s1 σ H1 _ I1 q1;rw[hs]at hA ⊢;refine auF (by show(false || (backTo lW (starEach es X.env)).any (·.1))=false;rw[vS]<;>rfl) (Calls.evalArgs_plain ?_);exact fX hA fun us s2 ⟨vs,H2,I2,r2,q2⟩=>hm pins s2 σ H2 x vs v us Q I2 r1 r2 q2
end
def MtM(X:Cx)(id:String)(r:ES):Prop:=
 ∀(pins:BA) (s:Shared) (σ:St) (H:Hp) (x:V) (xs:BN) (v:Value) (us:BY) (Q:VK),Inv X pins σ H s->RelV x v->Vals xs us->r x xs H Q →
   wpAny (model X.prog X.w) X.A (call (.builtin id) (v::us)) (EP X pins σ Q) X.xe s
variable{x:V}
theorem Vals.one(h:Vals [x] us):∃u,us=[u]/\RelV x u:=by
 cases h with
 | cons r h=>cases h;exact⟨_,rfl,r⟩
theorem Vals.zero:∀{us:BY},Vals [] us->us=[]
 | _,.nil=>rfl
theorem Vals.dropLast(h:Vals xs us):Vals xs.dropLast us.dropLast:=by
 induction h with
 | nil=>exact .nil
 | cons r t ih=>
   cases t with
   | nil=>exact .nil
   | cons q t'=>exact .cons r ih
theorem Vals.eraseIdx:∀{xs:BN} {us:BY} (i:Nat),Vals xs us->Vals (xs.eraseIdx i) (us.eraseIdx i)
 | _,_,_,.nil=>.nil
 | _,_,0,.cons _ t=>t
 | _,_,i+1,.cons r t=>.cons r (Vals.eraseIdx i t)
theorem Vals.rep{xs:BN}{us:BY}(h:Vals xs us):∀k:Nat,Vals (List.replicate k xs).flatten (List.replicate k us).flatten
 | 0=>.nil
 | k+1=>by
   rw[att,att,aub,aub];exact Vals.append h (Vals.rep h k)
theorem L7(l:List α):l.eraseIdx (l.length-1)=l.dropLast:=by
 induction l with
 | nil=>rfl
 | cons a r ih=>
   cases r with
   | nil=>rfl
   | cons b r=>
     have e:(a::b::r).length-1=((b::r).length-1)+1:=by
       have h1:(a::b::r).length=r.length+2:=rfl;have h2:(b::r).length=r.length+1:=rfl;omega
     rw[e,List.eraseIdx_cons_succ,ih]
     all_goals rfl
theorem Fx{α:Type}:∀(l:List α) (i:Nat),(l.eraseIdx i).length<=l.length
 | [],_=>asp _
 | _::_,0=>avd _
 | _::r,i+1=>Nat.succ_le_succ (Fx r i)
theorem foldl_rep(its:BY):∀(k:Nat) (acc:BY),
   List.foldl (fun x1 x2=>x1++x2) acc.toArray (List.replicate k its.toArray)=(acc++(List.replicate k its).flatten).toArray
 | 0,acc=>by simp
 | k+1,acc=>by
   have e:acc.toArray++its.toArray=(acc++its).toArray:=by simp
   have e2:(acc++its)++(List.replicate k its).flatten=acc++(List.replicate (k+1) its).flatten:=by
     rw[att,aub,ar7]
   rw[← e2,← foldl_rep its k (acc++its),← e,att,aum]
variable{pins:BA}{σ:St}{H:Hp}{s:Shared}{l:Addr}{ys:BN}
theorem Inv.U9{its its':BY}{f:D2->D2}{t':Nat}(I:Inv X pins σ H s)(hH:H l=some (.lst xs))
   (e:s.heap.get? l=some {cls:=.type "list",data:=.seq its.toArray n}) (hf:f its.toArray=its'.toArray) (hv:Vals ys its') (hz:ys.length<=sizeLine) :
   Inv X pins σ (upd H l (.lst ys)) {s with heap:=s.heap.update l (Obj.mapSeq f),toks:=t'}:=by
 have q:=PySem.IsL.update e f;rw[hf]at q;refine I.write (x:=l) (e:=l) (by rw[hH];exact trivial) (.inl rfl) (fun b' u hb hu=>(auE s.heap (Obj.mapSeq f) (auj hb)).trans hu) ⟨_,q⟩ ?_;exact⟨hz,its',_,hv,q⟩
theorem Inv.ajn{its:BY}{t':Nat}(I:Inv X pins σ H s)(hv:Vals ys its)(hz:ys.length<=sizeLine) :
   Inv X pins σ (upd H s.heap.objs.size (.lst ys)) {s with heap:=s.heap.push {cls:=.type "list",data:=.seq its.toArray},toks:=t'}:=
 I.laid (fun _ _ q=>asv _ q) (asp _) ⟨hz,its,0,hv,asM _ rfl⟩
theorem Inv.fresh(I:Inv X pins σ H s):H s.heap.objs.size=none:=I.cW.fresh (asp _)
theorem Inv.Ru(I:Inv X pins σ H s)(hH:H l=some (.lst xs)):xs.length<=sizeLine/\∃(its:BY) (n:Nat),Vals xs its/\xs.length=its.length/\s.heap.get? l=some {cls:=.type "list",data:=.seq its.toArray n}:=by
 obtain⟨z,its,n,r,e⟩:=I.cW l _ hH;exact⟨z,its,n,r,r.length,e⟩
def B7(h:n<=sizeLine):Builtin.List.listTooLong n=false:=by
 unfold Builtin.List.listTooLong;exact asS We
def aao:V->BN->Hp->VK->Prop:=fun x vs H Q=>∃l xs y,x=.ref l/\vs=[y]/\H l=some (.lst xs)/\xs.length<sizeLine/\Q .non (upd H l (.lst (xs++[y])))
def yT:MtM X "list.append" aao:=by
 intro pins s σ H x vs v us Q I rx rv h;obtain⟨l,xs,y,rfl,rfl,hH,hz,q⟩:=h;cases rx;obtain⟨u,rfl,ru⟩:=rv.one;obtain⟨z,its,n,r,hl,e⟩:=I.Ru hH;refine auO F.slot_list_append ⟨_,e,rfl⟩ F.entry_list_append (F.args_list_append_2 _ _) (PySem.list_append l its.toArray n u (by rw[asy];omega)) ⟨e,?_⟩;refine⟨.non,_,I.U9 (its':=its++[u]) hH e Uf (r.append (.cons ru .nil)) ?_,rfl,q⟩;rw[asa,aun];omega
def aap:V->BN->Hp->VK->Prop:=fun x vs H Q=>∃l b xs zs,x=.ref l/\vs=[.ref b]/\H l=some (.lst xs)/\H b=some (.lst zs)/\xs.length+zs.length<=sizeLine/\Q .non (upd H l (.lst (xs++zs)))
def Rw:MtM X "list.extend" aap:=by
 intro pins s σ H x vs v us Q I rx rv h;obtain⟨l,b,xs,zs,rfl,rfl,hH,hB,hz,q⟩:=h;cases rx;obtain⟨u,rfl,ru⟩:=rv.one;cases ru;obtain⟨z,its,n,r,hl,e⟩:=I.Ru hH;obtain⟨z2,vp,n2,r2,hl2,e2⟩:=I.Ru hB;have hsz:its.toArray.size+vp.toArray.size<=sizeLine:=by rw[asy,asy];omega
 have JV:¬ (!its.toArray.isEmpty&&Builtin.List.listTooLong (its.toArray.size+vp.toArray.size))=true:=by
   rw[B7 hsz,Bool.and_false];exact asr
 refine auO F.slot_list_extend ⟨_,e,rfl⟩ F.entry_list_extend (F.args_list_extend_2 _ _)
   (AutoSeq1.list_extend_list_list_0 l its.toArray n b vp.toArray n2 JV (by rw[asy];omega) We) ⟨e,e2,?_⟩
 refine⟨.non,_,I.U9 (its':=its++vp) hH e Uf (r.append r2) ?_,rfl,q⟩;rw[asa];omega
def amX:V->BN->Hp->VK->Prop:=fun x vs H Q=>∃l xs y,x=.ref l/\vs=[]/\H l=some (.lst xs)/\xs[xs.length-1]? = some y/\Q y (upd H l (.lst xs.dropLast))
def afw:MtM X "list.pop" amX:=by
 intro pins s σ H x vs v us Q I rx rv h;obtain⟨l,xs,y,rfl,rfl,hH,hy,q⟩:=h;cases rx;have hus:=rv.zero;subst hus;obtain⟨z,its,n,r,hl,e⟩:=I.Ru hH;obtain⟨u,hu,ru⟩:=r.get hy;have hy':its.toArray[its.toArray.size-1]? = some u:=by
   show its.toArray[its.length-1]? = some u;rw[← atY,← hl];exact hu
 refine auO F.slot_list_pop ⟨_,e,rfl⟩ F.entry_list_pop (F.args_list_pop_1 _) (MeetsSeq.list_pop_last l its.toArray n u hy' (by rw[asy];omega)) ⟨e,?_⟩;refine⟨y,_,I.U9 (its':=its.dropLast) hH e ?_ r.dropLast ?_,ru,q⟩
 . show its.toArray.eraseIdxIfInBounds (its.toArray.size-1)=its.dropLast.toArray;rw[asy,List.eraseIdxIfInBounds_toArray,L7]
 . rw[List.length_dropLast];omega
def afx:V->BN->Hp->VK->Prop:=fun x vs H Q=>∃l xs i k y,x=.ref l/\vs=[.int i]/\H l=some (.lst xs) /\ -(2 ^ 63)<=i/\i<2 ^ 63/\seqIndex? i xs.length=some k/\xs[k]? = some y/\Q y (upd H l (.lst (xs.eraseIdx k)))
def Va:MtM X "list.pop" afx:=by
 intro pins s σ H x vs v us Q I rx rv h;obtain⟨l,xs,i,k,y,rfl,rfl,hH,h1,h2,hk,hy,q⟩:=h;cases rx;obtain⟨u,rfl,ru⟩:=rv.one;obtain⟨t,rfl⟩:=ru;obtain⟨z,its,n,r,hl,e⟩:=I.Ru hH;obtain⟨w,hw,L1⟩:=r.get hy;refine auO F.slot_list_pop ⟨_,e,rfl⟩ F.entry_list_pop (F.args_list_pop_2 _ _)
   (MeetsSeq.list_pop_at l its.toArray n i t k w (fitsIndex_both h1 h2) (by rw[asy,← hl];exact hk) (by rw[← atY];exact hw) (by rw[asy];omega)) ⟨e,?_⟩
 refine⟨y,_,I.U9 (its':=its.eraseIdx k) hH e ?_ (r.eraseIdx k) ?_,L1,q⟩
 . show its.toArray.eraseIdxIfInBounds k=(its.eraseIdx k).toArray;rw[List.eraseIdxIfInBounds_toArray]
 . have:=Fx xs k;omega
theorem len_rep(xs:List α)(k:Nat):(List.replicate k xs).flatten.length=k*xs.length:=by
 induction k with
 | zero=>simp
 | succ k ih=>rw[att,aub,asa,ih,Nat.succ_mul,Nat.add_comm]
end L2
namespace Att
open PySem PySem.W PySem.Calls PyProof.Rows
def A3{P:Params}{h:Heap}:∀(ns:AT) (vs:BY),WellAll P h vs (ns.map WData.int)->IntsAre vs ns:=by
 intro ns
 induction ns with
 | nil=>
   intro vs w;rw[List.map_nil]at w;cases w;exact .nil
 | cons n ns ih=>
   intro vs w;rw[List.map_cons]at w;cases w with
   | cons a b=>
     cases a;exact .cons _ _ (ih _ b)
def Rx{l:OpenLaw}{n:Nat}(hn:l.most=some n){P:Params}{h:Heap}{args:List WData}{vals:BY}
   (Ry:l.row.toRowW.claim.pre args=true) (hwl:WellAll P h vals args) :
   ∃a vs ns,vals=[Value.ref a]/\args=[WData.list (ns.map WData.int)]/\h.get? a=some {cls:=.type "list",data:=.seq vs.toArray}/\IntsAre vs ns/\ns.length<=n:=by
 have Rz:WShape.hasAll [] args [.list .int]=true:=(pre_splitW Ry).1;have hc:l.pre.holds [] {args:=args}=true:=(pre_splitW Ry).2;obtain⟨d,r,rfl,h1,h2⟩:=hasAllW_cons Rz;obtain rfl:=hasAllW_nil h2;obtain⟨xs,rfl,h3⟩:=hasW_list h1;obtain⟨ns,rfl⟩:=items_int h3;have hlen:ns.length<=n:=by
   unfold OpenLaw.pre at hc;have h4:(WTm.not (.lt (.lit (.int (n:Int))) (.len (.arg 0)))).holds [] {args:=[.list (ns.map .int)]}=true:=by
     have h4:=(holds_andW hc).1;rw[hn]at h4;exact h4
   have h5:=condW_of h4 (w_not (w_lt w_lit (w_len_list (w_arg rfl))));rw[List.length_map]at h5;refine Nat.le_of_not_lt fun q=>?_;have q':(n:Int)<((ns.length:Nat):Int):=by omega
   first
     | (rw[decide_eq_true q']at h5;exact absurd h5 Wp)
     | (simp at h5;omega)
 cases hwl with
 | cons w1 w2=>
   cases w2;cases w1 with
   | list ho amZ=>exact⟨_,_,ns,rfl,rfl,ho,A3 ns _ amZ,hlen⟩
def RA(l:OpenLaw)(args:List WData):l.row.toRowW.claim.post args (.bool true) args=true:=
 postW_of (r:=l.row.toRowW) (X:=(true==true))
   (show WShape.has [] (.bool true) .bool=true by first|rfl|decide|simp[WShape.has,WShape.arms,WShape.armsAll])
   (show(WTm.eq .res (.lit (.bool true))).value [] {args:=args,res:=some (.bool true),after:=args}=some (.bool (true==true)) from w_eq_bool (w_res rfl) w_lit) rfl
def JW{l:OpenLaw}{n:Nat}{q:Program}{loose:Ap}{XP:Bz->Heap->Prop}{YP:World->Heap->Prop}{d:DefRec}
   (hn:l.most=some n) (hdf:d.params.defaults=[])
   (call:∀(w:World) (s₀ s₁:Shared) (mg mb:Bz) (fa:Addr) (o:Obj) (pm cd doc:Value) (a:Addr) (vs:BY) (ns:AT),
     Ground q loose [] XP w s₀ mg mb s₁.heap->YP w s₁.heap →
     s₁.heap.get? fa=some o->o.data=.func (docDef d.name d.params d.body d.scope pm cd doc)->s₁.heap.CodeRec cd d.name->mg d.name=some (.ref fa) →
     s₁.heap.get? a=some {cls:=.type "list",data:=.seq vs.toArray}->IntsAre vs ns->ns.length<=n->s₁.gens=#[] →
     codeAny (model l.prog w) callerA (.call (.ref fa) ⟨[.ref a],[]⟩) (fun r s'=>r=.ok (.ret (.bool true))/\OldK s₁.heap s'.heap/\s'.os=s₁.os/\AllBare s'.gens) s₁) :
   WalkO q loose XP YP l.row.toRowW d [] (fun f vs=>PySem.call f vs):=by
 intro w s₀ s₁ mg mb G Y fa o pm cd doc dV kV ho hd ko hD hmg hg args vals as Ry hlay hrd hwl hlo;obtain rfl:dV=.none:=Dflts.none hD hdf;obtain rfl:kV=.none:=Dflts.noKw hD;obtain⟨a,vs,ns,rfl,rfl,afz,hints,hlen⟩:=Rx hn Ry hwl;refine enter_call (codeAny_mono (call w s₀ s₁ mg mb fa o pm cd doc a vs ns G Y ho (fd_plain hd) ko hmg afz hints hlen hg) fun r s' hq=>?_);obtain⟨rfl,h2,h3,h4⟩:=hq;exact⟨.inl ⟨.bool true,.bool true,[],rfl,fun _=>rfl,.bool true,RA l _,fun _=>⟨List.Pairwise.nil,fun _ hm=>(nomatch hm)⟩⟩,h2,h3,h4⟩
def ledger(h:Heap)(L d:Addr):BA:=(List.range h.objs.size).filterMap fun a=>if a=L\/a=d then none else(h.get? a).map fun o=>(a,o)
end Att
namespace L2
open PySem PySem.Spec PyProof.Rows
theorem Fy:∀{vs:BY} {ns:AT},IntsAre vs ns->Vals (ns.map V.int) vs
 | _,_,.nil=>.nil
 | _,_,.cons n t h=>.cons ⟨t,rfl⟩ (Fy h)
def Only(H:Hp):Prop:=∀b,H b=none\/∃o xs,H b=some (.bG o (.lst xs))
variable{P:Program}{w:World}{a:Addr}{x:Str}
def Vb{K:Frag}{mg mb:Bz}{CX:Rr}{k:Nat}{fa:Addr}{fd:FuncData}{sp:Sp}{s₁:Shared}{vs:BY}{ns:AT}
   (KX:K.In s₁.heap) (hns:s₁.heap.Ns mainGlobals mg) (hb:s₁.heap.Ns builtinsNs mb) (hbb:∀x:Str,x≠"__name__"->mb x=bootBuiltins x) (am0:s₁.heap.NoLimit) (hg:s₁.gens=#[])
   (ha:s₁.heap.get? a=some {cls:=.type "list",data:=.seq vs.toArray}) (hi:IntsAre vs ns) (hl:ns.length<=sizeLine) (hr:dU k callerA)
   (F:∀base:Heap,K.In base->base.Ns mainGlobals mg->dP P w K mg base CX k fa fd [x] sp) (ajp:∀(s:Shared) (u:Value),BindsTo s fd ⟨[u],[]⟩ [(x,u)])
   (U5:∀H:Hp,Only H->ou K H a (ns.map V.int)->sp [.ref a] H (fun v _=>v=.bl true) fun _ _ _=>False)
   (hCX:∀H e s',CX [] H s₁ (fun _ _ _=>False) e s'->False) :
   codeAny (model P w) callerA (.call (.ref fa) ⟨[.ref a],[]⟩) (fun r s'=>r=.ok (.ret (.bool true))/\OldK s₁.heap s'.heap/\s'.os=s₁.os/\AllBare s'.gens) s₁:=by
 have rv:=Fy hi;have am2:=hi.length;have core:∀H:Hp,Only H->ou K H a (ns.map V.int)->uq P w H s₁.heap->(∀b,H b≠none->b=a)->(H a≠none->K.lookup a=none) →
     codeAny (model P w) callerA (.call (.ref fa) ⟨[.ref a],[]⟩) (fun r s'=>r=.ok (.ret (.bool true))/\OldK s₁.heap s'.heap/\s'.os=s₁.os/\AllBare s'.gens) s₁:=by
   intro H hO hS cW hA hK;have O9:∀{b:Addr} {o:Obj},s₁.heap.get? b=some o->H b=none->(Gs s₁.heap H).get? b=some o:=fun e n=>UM e n;have noA:∀{b:Addr} {o:Obj} {es:Array DictEntry} {ep:Nat},s₁.heap.get? b=some o->o.data=.dict es ep->H b=none:=fun {b o es ep} e d=>by
     cases q:H b with
     | none=>rfl
     | some u=>
       have e':b=a:=hA b (by rw[q];simp);subst e';rw[ha]at e;cases e;have d':Data.seq vs.toArray _=Data.dict es ep:=d;cases d'
   have nsK:∀{b:Addr} {m:Bz},s₁.heap.Ns b m->(Gs s₁.heap H).Ns b m:=fun {b m} ⟨o,es,ep,e,d,r⟩=>⟨o,es,ep,O9 e (noA e d),d,r⟩;have hKb:K.In (Gs s₁.heap H):=fun b o e=>O9 (KX b o e) (by
     cases q:H b with
     | none=>rfl
     | some u=>
       have e':b=a:=hA b (by rw[q];simp);subst e';rw[hK (by rw[q];simp)]at e;cases e)
   have hM:Mod K mg (Gs s₁.heap H):=⟨hKb,nsK hns,⟨mb,nsK hb,hbb⟩,let ⟨mc,h1,h2⟩:=am0;⟨mc,nsK h1,h2⟩⟩;have e0:Ei P w K mg (Gs s₁.heap H) callerA [] s₁ H:=⟨rfl,hM,fun b o e=>Z6 e,Nat.le_of_eq (Rg _ _),trivial,fun b hb=>absurd (show b∈([]:BM) from hb) Uf,cW,.of_eq hg⟩;refine codeAny_mono ((F _ hKb (nsK hns)).run callerA [] s₁ H ⟨[.ref a],[]⟩ [.ref a] [.ref a] _ _ hr e0 (ajp s₁ (.ref a)) (.cons rfl .nil) (U5 H hO hS)) fun r s' h=>?_;cases r with
   | error e=>exact(hCX H e s' h).elim
   | ok fl=>
     cases fl with
     | next=>exact False.elim h
     | brk=>exact False.elim h
     | cont=>exact False.elim h
     | ret u=>
       obtain⟨v,H',os,bare,un,am3,r',q⟩:=h;have q':v=.bl true:=q;subst q';obtain rfl:u=Value.bool true:=r';refine⟨rfl,OldK.of_keep fun b o e=>?_,os,bare⟩;cases q:H b with
       | none=>exact un.keep b o e q (by intro z;exact absurd (show b∈([]:BM) from z) Uf) Uf
       | some u=>
         rcases hO b with z|⟨ob,xs,z⟩
         . rw[q]at z;cases z
         . have z2:=un.eU b ob _ z;obtain⟨e1,_⟩:=cW b _ z;obtain⟨e2,_⟩:=am3 b _ z2;rw[e]at e1;cases e1;exact e2
 cases hk:K.lookup a with
 | some o=>
   have e:=KX a o hk;rw[ha]at e;cases e;refine core (fun _=>none) (fun _=>.inl rfl) (.inr ⟨_,vs.toArray,_,hk,rfl,rfl,rfl,by rw[List.size_toArray,am2];exact hl,by simpa using rv⟩) (fun b u z=>by have z':(none:Option HO)=some u:=z;cases z') (fun b z=>absurd rfl z) fun z=>absurd rfl z
 | none=>
   refine core (fun b=>if b=a then some (.bG {cls:=.type "list",data:=.seq vs.toArray} (.lst (ns.map V.int))) else none) (fun b=>?_) (.inl (.inr ⟨{cls:=.type "list",data:=.seq vs.toArray},ass rfl⟩)) (fun b u z=>?_) (fun b z=>?_) fun _=>hk
   . by_cases hb:b=a
     . exact .inr ⟨_,_,ass hb⟩
     . exact .inl (ash hb)
   . by_cases hb:b=a
     . have z':=(ass hb).symm.trans z;cases z';subst hb;exact⟨ha,by rw[ar3];exact hl,vs,_,rv,ha⟩
     . have z':=(ash hb).symm.trans z;cases z'
   . by_cases hb:b=a
     . exact hb
     . exact absurd (ash hb) z
def aaq{l:PySem.W.OpenLaw}{n k:Nat}{q:Program}{loose:Ap}{XP:Bz->Heap->Prop}{YP:World->Heap->Prop}{d:DefRec}{K:Params->Frag}{CX:World->Rr}{sp:World->Sp}
   (hn:l.most=some n) (hn2:n<=sizeLine) (hdf:d.params.defaults=[]) (hr:dU k callerA)
   (hY:∀(w:World) (h:Heap),YP w h->(K w.params).In h)
   (F:∀(w:World) (mg:Bz) (fa:Addr) (h:Heap),(K w.params).In h->h.Ns mainGlobals mg->mg d.name=some (.ref fa) →
     ∃fd:FuncData,(∀(s:Shared) (u:Value),BindsTo s fd ⟨[u],[]⟩ [(x,u)]) ∧
       ∀base:Heap,(K w.params).In base->base.Ns mainGlobals mg->dP l.prog w (K w.params) mg base (CX w) k fa fd [x] (sp w))
   (U5:∀(w:World) (H:Hp) (a:Addr) (ns:AT),ns.length<=n->Only H->ou (K w.params) H a (ns.map V.int)->sp w [.ref a] H (fun v _=>v=.bl true) fun _ _ _=>False)
   (hCX:∀(w:World) (H:Hp) (s:Shared) (e:Value) (s':Shared),CX w [] H s (fun _ _ _=>False) e s'->False) :
   PySem.W.WalkO q loose XP YP l.row.toRowW d [] (fun f vs=>PySem.call f vs):=by
 refine Att.JW hn hdf fun w s₀ s₁ mg mb fa o pm cd doc a vs ns G Y ho hd ko hmg afz hints hlen hg=>?_;have KX:=hY w _ Y;obtain⟨fd,hb,hF⟩:=F w mg fa _ KX G.T.g hmg;exact Vb KX G.T.g G.T.b G.T.builtins G.T.nolimit hg afz hints (asV hlen hn2) hr hF hb (fun H hO hS=>U5 w H a ns hlen hO hS) fun H e s'=>hCX w H s₁ e s'
def inClass(s:Stmt)(j:Nat):Stmt:=match s with
 | .ClassDef _ _ _ body _ _ _ _ _ _ _=>body.getD j (.Pass ⟨0,0,0,0⟩)
 | _=>.Pass ⟨0,0,0,0⟩
def xo(s:Stmt):Arguments:=match s with
 | .FunctionDef _ a _ _ _ _ _ _ _ _=>a
 | _=>{posonlyargs:=[],args:=[],vararg:=none,kwonlyargs:=[],kw_defaults:=[],kwarg:=none,defaults:=[]}
def dF(s:Stmt):CU:=match s with
 | .FunctionDef _ _ b _ _ _ _ _ _ _=>b
 | _=>[]
def av(s:Stmt):Scope:=match s with
 | .FunctionDef _ _ _ _ _ _ sc _ _ _=>sc
 | _=>{kind:=.function,names:=[],isGenerator:=false,isCoroutine:=false}
abbrev pZ:Rr:=fun _ _ _ _ _ _=>False
abbrev E0:XK:=fun _ _ _=>False
variable{X:Cx}
def sG:Passes pZ X E0:=fun _ _ _ _ _ _ _ h=>h.elim
structure kr(K:Frag)(x qual:Str)(st:Stmt)(f:Addr)(fd:FuncData):Prop where
 ex:∃(oc:Value) (od:ET) (kV doc pm:Value) (an:ET) (jc ct:Value) (Uz:EQ),
   fd=fnOf x qual (xo st) (dF st) (av st) .none kV doc pm an jc ct/\K.lookup f=some ⟨oc,od,.func fd,Uz⟩/\codeIn K jc qual=true
 kp:keepIn K (.ref f)=true
variable{K:Frag}{mg:Bz}{base:Heap}
theorem kr.ok{qual:Str}{st:Stmt}{f:Addr}{fd:FuncData}{N ps:Ap}{k:Nat}{sp:Sp}(F:kr K x qual st f fd)(S:d7 N ps (av st))(len:∀vs H Q E,sp vs H Q E->vs.length=ps.length)
   (U4:∀(jc:Value) (A:Around) (outer:Db) (s:Shared) (H:Hp) (vs:BN) (Q:VK) (E:XK),dU k (A.deeper (envOfC qual (av st) s.heap.objs.size f jc))->sp vs H Q E →
     ∃t,OS (yS pZ P w K mg base N qual (av st) f jc A outer s H E).Z9 (dF st) t/\t {nx:=fun _ H'=>Q .non H',rt:=Q} (start N vs) H):dP P w K mg base pZ (k+1) f fd ps sp:=by
 obtain⟨oc,od,kV,doc,pm,an,jc,ct,Uz,rfl,lk,ko⟩:=F.ex;refine adO lk ko S len fun A outer s H vs Q E hr U5=>?_;obtain⟨t,h,q⟩:=U4 jc A outer s H vs Q E hr U5;exact⟨t,h.Z9,q⟩
theorem kr.binds{qual:Str}{st:Stmt}{f:Addr}{fd:FuncData}{ps:Ap}(F:kr K x qual st f fd)
   (h:∀(kV doc pm:Value) (an:ET) (jc ct:Value) (us:BY),us.length=ps.length->bindArgs (fnOf x qual (xo st) (dF st) (av st) .none kV doc pm an jc ct) ⟨us,[]⟩=pure (ps.zip us)):Binds K fd ps []:=by
 obtain⟨oc,od,kV,doc,pm,an,jc,ct,Uz,rfl,lk,ko⟩:=F.ex;exact .all (h kV doc pm an jc ct)
def bB{qual:Str}{st:Stmt}{f:Addr}{oc:Value}{od an:ET}{Uz:EQ}{kV doc pm jc ct:Value}(l:K.lookup f=some ⟨oc,od,.func (fnOf x qual (xo st) (dF st) (av st) .none kV doc pm an jc ct),Uz⟩)
   (c:codeIn K jc qual=true) (k:keepIn K (.ref f)=true):kr K x qual st f (fnOf x qual (xo st) (dF st) (av st) .none kV doc pm an jc ct):=⟨⟨oc,od,kV,doc,pm,an,jc,ct,Uz,rfl,l,c⟩,k⟩
def jC{n:Nat}(h:n<=1000):n<sizeLine:=atZ h Wp
def RB{A B:Prop}(h:B):if false=true then A else B:=by
 rw[ash asr];exact h
def RC{A B:Prop}(h:A):if true=true then A else B:=by
 rw[ass rfl];exact h
def aC(H H':Hp):Prop:=∀b o,H b=some o->H' b=some o
theorem aC.refl(H:Hp):aC H H:=fun _ _ h=>h
variable{H:Hp}
theorem aC.trans{H1 H2:Hp}(a:aC H H1)(b:aC H1 H2):aC H H2:=fun c o h=>b c o (a c o h)
variable{H':Hp}
theorem aC.free(e:aC H H'){l:Addr}(h:H' l=Option.none):H l=Option.none:=by
 cases q:H l with
 | none=>rfl
 | some o=>
   rw[e l o q]at h;cases h
theorem aC.seq{xs:BN}(e:aC H H')(h:ou K H a xs):ou K H' a xs:=by
 rcases h with(h|⟨o,h⟩)|h
 . exact .inl (.inl (e _ _ h))
 . exact .inl (.inr ⟨o,e _ _ h⟩)
 . exact .inr h
section
variable{κ:Type}[DecidableEq κ]
def m5(kvs:List (κ×V))(k:κ):Option V:=(kvs.find? fun kv=>decide (kv.1=k)).map (·.2)
def putK(kvs:List (κ×V))(k:κ)(v:V):List (κ×V):=
 if (kvs.any fun kv=>decide (kv.1=k))=true then kvs.map (fun kv=>if kv.1=k then(kv.1,v) else kv) else kvs++[(k,v)]
def sH{p:κ×V}{r:List (κ×V)}{k:κ}(e:p.1=k):m5 (p::r) k=some p.2:=by simp[m5,at9,e]
def sI{p:κ×V}{r:List (κ×V)}{k:κ}(e:¬ p.1=k):m5 (p::r) k=m5 r k:=by simp[m5,at9,e]
theorem xq(k:κ):∀kvs:List (κ×V),(kvs.any fun kv=>decide (kv.1=k))=(m5 kvs k).isSome
 | []=>rfl
 | p::r=>by
   rw[auT];by_cases e:p.1=k
   . simp only[sH e,atz e,Bool.true_or,Option.isSome_some]
   . rw[sI e,asS e,Bool.false_or];exact xq k r
def Au(kvs:List (κ×V))(k:κ)(v:V):(putK kvs k v).length<=kvs.length+1:=by
 unfold putK;split
 . rw[ar3];omega
 . rw[asa,asN,List.length_nil];omega
def Vc{kvs:List (κ×V)}{k:κ}(v:V)(h:m5 kvs k=none):putK kvs k v=kvs++[(k,v)]:=by
 unfold putK;rw[xq,h];exact ash Wp
theorem sr.RD{o:Option V}{u:Option Value}(r:sr o u):o.isSome=u.isSome:=by
 cases o with
 | none=>cases u with
   | none=>rfl
   | some _=>exact(show False from r).elim
 | some _=>cases u with
   | none=>exact(show False from r).elim
   | some _=>rfl
theorem sr.getD{o:Option V}{u:Option Value}{d:V}{d':Value}(r:sr o u)(rd:RelV d d'):RelV (o.getD d) (u.getD d'):=by
 cases o with
 | none=>cases u with
   | none=>exact rd
   | some _=>exact(show False from r).elim
 | some _=>cases u with
   | none=>exact(show False from r).elim
   | some _=>exact r
theorem KV.val{kvs:List (κ×V)}{vs:List (κ×Value)}(r:KV kvs vs)(k:κ):sr (m5 kvs k) (valueAt vs k):=by
 unfold KV at r
 induction r with
 | nil=>exact True.intro
 | @cons p q ps qs h t ih=>
   obtain⟨h1,h2⟩:=h;by_cases e:p.1=k
   . have e':q.1=k:=h1.symm.trans e;have b:valueAt (q::qs) k=some q.2:=by simp[valueAt,at9,e']
     rw[sH e,b];exact h2
   . have e':¬ q.1=k:=fun z=>e (h1.trans z);have b:valueAt (q::qs) k=valueAt qs k:=by simp[valueAt,at9,e']
     rw[sI e,b];exact ih
theorem KV.any{kvs:List (κ×V)}{vs:List (κ×Value)}(r:KV kvs vs)(k:κ):(kvs.any fun kv=>decide (kv.1=k))=vs.any fun kv=>decide (kv.1=k):=by
 unfold KV at r
 induction r with
 | nil=>rfl
 | cons h t ih=>rw[auT,auT,ih,h.1]
theorem KV.repl{kvs:List (κ×V)}{vs:List (κ×Value)}(r:KV kvs vs)(k:κ){y:V}{u:Value}(ry:RelV y u) :
   KV (kvs.map fun kv=>if kv.1=k then(kv.1,y) else kv) (vs.map fun kv=>if kv.1=k then(kv.1,u) else kv):=by
 unfold KV at r ⊢
 induction r with
 | nil=>exact .nil
 | @cons p q ps qs h t ih=>
   rw[asA,asA];refine .cons ?_ ih;obtain⟨h1,h2⟩:=h;by_cases e:p.1=k
   . rw[ass e,ass (h1.symm.trans e)];exact⟨h1,ry⟩
   . rw[ash e,ash (fun z=>e (h1.trans z))];exact⟨h1,h2⟩
theorem KV.put{kvs:List (κ×V)}{vs:List (κ×Value)}(r:KV kvs vs)(k:κ){y:V}{u:Value}(ry:RelV y u):KV (putK kvs k y) (stored vs k u):=by
 unfold putK stored;rw[r.any k];by_cases e:(vs.any fun kv=>decide (kv.1=k))=true
 . rw[ass e,ass e];exact r.repl k ry
 . rw[ash e,ash e];exact Paired.snoc r ⟨rfl,ry⟩
theorem KV.length{kvs:List (κ×V)}{vs:List (κ×Value)}(r:KV kvs vs):kvs.length=vs.length:=atQ r
end
variable{u:Value}
theorem Vd{k:Key}(r:RelV (kV k) u):(gj P w).is k u=true:=by
 cases k with
 | inl i=>obtain⟨t,e⟩:=(show ∃t,u=Value.int i t from r);subst e;exact JG P w i t
 | inr x=>obtain⟨t,e⟩:=(show ∃t,u=Value.str x t from r);subst e;exact JH P w x t
theorem Fz{P:Program}{w:World}:∀{ks:CO} {us:BY},Vals (ks.map kV) us->ItemsAre (gj P w) ks us
 | [],_,r=>by rw[at6]at r;cases r;exact .nil
 | k::ks,_,r=>by
   rw[asA]at r;cases r with
   | cons h t=>exact .cons (Vd h) (Fz t)
abbrev KT(H:Hp):BS->EU->Prop:=Paired fun p q=>p.1=q.1/\H q.2.1=some (.tup (p.1.map kV))/\RelV p.2 q.2.2
variable{kvs:BS}{xs:EU}
theorem KT.val(r:KT H kvs xs)(k:CO):sr (m5 kvs k) ((atKey xs k).map (·.2)):=by
 induction r with
 | nil=>exact True.intro
 | @cons p q ps qs h t ih=>
   obtain⟨h1,_,h2⟩:=h;by_cases e:p.1=k
   . have e':q.1=k:=h1.symm.trans e;have b:atKey (q::qs) k=some q.2:=by simp[atKey,at9,e']
     rw[sH e,b];exact h2
   . have e':¬ q.1=k:=fun z=>e (h1.trans z);have b:atKey (q::qs) k=atKey qs k:=by simp[atKey,at9,e']
     rw[sI e,b];exact ih
variable{y:V}
theorem KT.repl(r:KT H kvs xs)(k:CO)(ry:RelV y u) :
   KT H (kvs.map fun kv=>if kv.1=k then(kv.1,y) else kv) (xs.map (putAt k u)):=by
 induction r with
 | nil=>exact .nil
 | @cons p q ps qs h t ih=>
   rw[asA,asA];refine .cons ?_ ih;obtain⟨h1,h2,h3⟩:=h;unfold putAt;by_cases e:p.1=k
   . rw[ass e,ass (h1.symm.trans e)];exact⟨h1,h2,ry⟩
   . rw[ash e,ash (fun z=>e (h1.trans z))];exact⟨h1,h2,h3⟩
theorem KT.put(r:KT H kvs xs)(k:CO){b:Addr}(hb:H b=some (.tup (k.map kV)))(ry:RelV y u) :
   KT H (putK kvs k y) (storedH xs k b u):=by
 have e:(kvs.any fun kv=>decide (kv.1=k))=(atKey xs k).isSome:=by
   rw[xq,(r.val k).RD,Option.isSome_map]
 unfold putK storedH;rw[e];by_cases q:(atKey xs k).isSome=true
 . rw[ass q,ass q];exact r.repl k ry
 . rw[ash q,ash q];exact Paired.snoc r ⟨rfl,hb,ry⟩
theorem KT.keeps(r:KT H kvs xs)(ht:∀b ys,H b=some (.tup ys)->H' b=some (.tup ys)):KT H' kvs xs:=
 Paired.aeK r fun _ _ z=>⟨z.1,ht _ _ z.2.1,z.2.2⟩
variable{h:Heap}
def adQ{u:HO}(ok:uq P w H h)(e:Rd H a u):eN P w H h a u:=e.ok ok
def Ve{kvs:Cf}(ok:uq P w H h)(e:Rd H a (.dK kvs)):kvs.length<=sizeLine/\(a==sysModules)=false/\∃vs,KV kvs vs/\h.DictOf (gj P w) a vs:=
 show eN P w H h a (.dK kvs) from adQ ok e
def ajq{kvs:Cf}(ok:uq P w H h)(e:H a=some (.dK kvs)):kvs.length<=sizeLine/\(a==sysModules)=false/\∃vs,KV kvs vs/\h.DictOf (gj P w) a vs:=Ve ok (.inl e)
def L8{ks:CO}(ok:uq P w H h)(e:H a=some (.tup (ks.map kV))):(tupleKind (gj P w)).is h ks a:=by
 obtain⟨_,its,r,o,h1,h2,n,h3⟩:=(show eN P w H h a (.tup (ks.map kV)) from ok a _ e);exact⟨o,its.toArray,n,h1,h2,h3,by simpa using Fz r⟩
def Av(ok:uq P w H h)(e:Rd H a (.dT kvs)):kvs.length<=sizeLine/\(a==sysModules)=false ∧
   ∃xs,KT H kvs xs/\h.DictOfH (tupleKind (gj P w)) a xs:=by
 obtain⟨z,y,xs,r,o,es,ep,h1,h2,h3,h4,h5⟩:=(show eN P w H h a (.dT kvs) from adQ ok e);refine⟨z,y,xs,r,o,es,ep,h1,h2,h3,h4,fun x hx=>?_,h5⟩;have all:∀{l:BS} {m:EU},KT H l m->∀x∈m,(tupleKind (gj P w)).is h x.1 x.2.1:=by
   intro l m q
   induction q with
   | nil=>intro x hx;exact nomatch hx
   | @cons p q ps qs hq t ih=>
     intro x hx;rcases asb.mp hx with e|hx
     . subst e;exact L8 ok (by rw[← hq.1];exact hq.2.1)
     . exact ih x hx
 exact all r x hx
def ajr(ok:uq P w H h)(e:H a=some (.dT kvs)):kvs.length<=sizeLine/\(a==sysModules)=false ∧
   ∃xs,KT H kvs xs/\h.DictOfH (tupleKind (gj P w)) a xs:=Av ok (.inl e)
def Ma(H:Hp)(a:Addr)(y:V)(r:Option V):Prop:=
 (∃kvs k,Rd H a (.dK kvs)/\y=kV k/\r=m5 kvs k)\/∃kvs k b,Rd H a (.dT kvs)/\y=.ref b/\H b=some (.tup (k.map kV))/\r=m5 kvs k
def RG(H:Hp)(a:Addr)(y v:V)(H':Hp):Prop:=
 (∃kvs k,H a=some (.dK kvs)/\y=kV k/\kvs.length<sizeLine/\H'=upd H a (.dK (putK kvs k v))) ∨
 ∃kvs k b,H a=some (.dT kvs)/\y=.ref b/\H b=some (.tup (k.map kV))/\kvs.length<sizeLine/\H'=upd H a (.dT (putK kvs k v))
theorem RG.t{b:Addr}{k:CO}{v:V}(e:H a=some (.dT kvs))(eb:H b=some (.tup (k.map kV)))(hl:kvs.length<sizeLine) :
   RG H a (.ref b) v (upd H a (.dT (putK kvs k v))):=.inr ⟨kvs,k,b,e,rfl,eb,hl,rfl⟩
variable{pins:BA}{σ:St}{s:Shared}{v:V}{r:Value}{o:Option V}{A:Around}{E:BB}
theorem Inv.big(I:Inv X pins σ H s):sysModules<s.heap.objs.size:=by
 have h:mainGlobals<s.heap.objs.size:=(I.mod.glob.keeps I.bk).lt;exact Nat.lt_trans Wp h
def RH{Q:BB}(hu:A.units+1<cLine)(I:Inv X pins σ H s)(g:Ma H a y (some v))(ry:RelV y u)(h:∀w' s',Inv X pins σ H s'->RelV v w'->Q w' s') :
   wpAny (model X.prog X.w) A (getItem (.ref a) u) Q E s:=by
 rcases g with⟨kvs,k,e,ey,l⟩|⟨kvs,k,b,e,ey,eb,l⟩
 . subst ey;obtain⟨z,hd,vs,rel,dd⟩:=Ve I.cW e;obtain⟨w',hw,L1⟩:=sr.some_of (v:=v) (o:=valueAt vs k) (by rw[l];exact rel.val k);exact wpAny_getItem_of (Vd ry) dd.mapOf hw (h w' _ (I.tok _) L1)
 . subst ey;cases (show u=Value.ref b from ry);obtain⟨z,hd,xs,rel,dd⟩:=Av I.cW e;obtain⟨w',hw,L1⟩:=sr.some_of (v:=v) (o:=(atKey xs k).map (·.2)) (by rw[l];exact rel.val k);obtain⟨p,hp,Jy⟩:=asF.mp hw;refine wpAny_getItem_heap (tupleKind_room_in1 hu) (L8 I.cW eb) dd hp ?_;rw[Jy];exact h w' _ (I.tok _) L1
def GN{h':Heap}{t':Nat}{ob:HO}(I:Inv X pins σ H s)(mu:Mut (H a))(hs:Heap.SameBut a s.heap h')(he:∃q,h'.get? a=some q)(new:eN X.prog X.w (upd H a ob) h' a ob) :
   Inv X pins σ (upd H a ob) {s with heap:=h',toks:=t'}:=
 I.write (x:=a) (e:=a) mu (.inl rfl) (fun b q hb z=>(hs.2 b hb).trans z) he new
def afA{h':Heap}{kvs:Cf}{vs:List (Key×Value)}(z:kvs.length<=sizeLine)(hd:(a==sysModules)=false)(rel:KV kvs vs)(dd:h'.DictOf (gj P w) a vs) :
   eN P w H' h' a (.dK kvs):=⟨z,hd,vs,rel,dd⟩
def RJ{Q:Unit->Shared->Prop}(hu:A.units+1<cLine)(I:Inv X pins σ H s)(g:RG H a y v H')(ry:RelV y u)(rv:RelV v r)(h:∀s',Inv X pins σ H' s'->Q () s') :
   wpAny (model X.prog X.w) A (setItem (.ref a) u r) Q E s:=by
 rcases g with⟨kvs,k,e,ey,l,eH⟩|⟨kvs,k,b,e,ey,eb,l,eH⟩
 . subst ey eH;obtain⟨z,hd,vs,rel,dd⟩:=ajq I.cW e;have hz:vs.length<=sizeLine:=by rw[← rel.length];exact z
   have hl:(putK kvs k v).length<=sizeLine:=by have:=Au kvs k v;omega
   refine wpAny_setItem_pairs (hsz:=hz) (Vd ry) dd fun h' ZK hs=>h _ ?_;have he:∃q,h'.get? a=some q:=let ⟨q,_,_,hq,_⟩:=ZK;⟨q,hq⟩;exact GN I (by rw[e];exact True.intro) hs he (afA hl hd (rel.put k rv) ZK)
 . subst ey eH;cases (show u=Value.ref b from ry);obtain⟨z,hd,xs,rel,dd⟩:=ajr I.cW e;have hz:xs.length<=sizeLine:=by rw[← atQ rel];exact z
   have hl:(putK kvs k v).length<=sizeLine:=by have:=Au kvs k v;omega
   refine wpAny_setItem_heap (hsz:=hz) (tupleKind_room_in1 hu) (L8 I.cW eb) dd fun h' ZK hs=>h _ ?_;obtain⟨q,es,ep,hq,h2,h3,h4,_,h5⟩:=ZK;refine GN I (by rw[e];exact True.intro) hs ⟨q,hq⟩ ⟨hl,hd,_,(rel.put k eb rv).keeps fun c ys ec=>?_,q,es,ep,hq,h2,h3,h4,h5⟩;rw[ak (aiJ ec e (fun z=>nomatch z))];exact ec
def RK(i:Expr):Prop:=∀ov iv,subscripted i false ov iv=operate [ov,iv] (getItem ov iv)
def Pa{prog:Program}{env:Env}{value slice:Expr}{pos:Pos}{T id:String}{Q:BB}
   (hl:typeLookup (.type T) "__getitem__" = pure (some (.builtin id))) (hs:RK slice)
   (h:wpAny (model prog w) A (eval value env) (fun o s₁=>wpAny (model prog w) A (eval slice env) (fun i s₂=>s₂.TypeIs o T/\wpAny (model prog w) A (getItem o i) Q E s₂) E s₁) E s) :
   wpAny (model prog w) A (eval (.Subscript value slice pos) env) Q E s:=by
 refine Subscript_ (atc h (fun o s₁ h₁=>atc h₁ (fun i s₂ h₂=>?_) fun _ _ x=>x) fun _ _ x=>x);obtain⟨hT,h₂⟩:=h₂;unfold subscriptTail;refine ar0 ?_;rw[getitemInPython_of_ne hT.not_modules];refine ar0 (auA hT hl ?_);have fin:wpAny (model prog w) A (subscripted slice false o i) (fun r s₃=>wpAny (model prog w) A (letTemporaryGo value o r >>= fun _=>pure r) Q E s₃) E s₂:=by
   rw[hs o i];exact wpAny_operating (atc h₂ (fun r s₃ h₃=>ar0 (wpAny_letTemporaryGo (asd h₃))) fun _ _ x=>x)
 first
   | exact asd (ar0 fin)
   | exact ar0 (asd (ar0 fin))
   | exact ar0 fin
def JX(I:Inv X pins σ H s)(g:Ma H a y o):s.TypeIs (.ref a) "dict":=by
 rcases g with⟨kvs,k,e,_,_⟩|⟨kvs,k,b,e,_,_,_⟩
 . obtain⟨_,_,vs,_,dd⟩:=Ve I.cW e;exact dd.typeIs
 . obtain⟨_,_,xs,_,dd⟩:=Av I.cW e;exact dd.typeIs
def ajs(td ty:TE):TE:=fun σ H Q=>td σ H fun x H1=>ty σ H1 fun y H2=>∃a v,x=.ref a/\Ma H2 a y (some v)/\Q v H2
def ajt(td ty tv:TE):TS:=fun D σ H=>tv σ H fun v H1=>td σ H1 fun x H2=>ty σ H2 fun y H3=>∃a H4,x=.ref a/\RG H3 a y v H4/\D.nx σ H4
variable{o i value:Expr}{pos pos':Pos}{td ty tv:TE}
def Pb(hu:X.A.units+1<cLine)(ho:PE X o td)(hi:PE X i ty)(hs:RK i):PE X (.Subscript o i pos) (ajs td ty):=by
 intro pins s σ H Q I h;refine Pa PySem.F.slot_dict_getitem.lookup hs (fX (ho pins s σ H _ I h) fun u s1 ⟨x,H1,I1,rx,q1⟩=>fX (hi pins s1 σ H1 _ I1 q1) fun iv s2 zz=>?_);obtain⟨y,H2,I2,ry,a,v,ex,g,q2⟩:=zz;subst ex;obtain rfl:u=Value.ref a:=rx;exact⟨JX I2 g,RH hu I2 g ry fun w' s3 I3 L1=>⟨v,H2,I3,L1,q2⟩⟩
def Pg(hu:X.A.units+1<cLine)(ho:PE X o td)(hi:PE X i ty)(hv:PE X value tv)(hs:swapsWith value (some (.Subscript o i pos')) pos.line X.env=pure false) :
   PS X (.Assign [.Subscript o i pos'] value pos) (ajt td ty tv):=by
 intro pins s σ H D I h;refine wpAny_Assign_Subscript (fX (hv pins s σ H _ I h) fun r s1 ⟨v,H1,I1,rv,q1⟩=>fX (ho pins s1 σ H1 _ I1 q1) fun u s2 ⟨x,H2,I2,rx,q2⟩=>fX (hi pins s2 σ H2 _ I2 q2) fun iv s3 zz=>?_) hs;obtain⟨y,H3,I3,ry,a,H4,ex,g,q3⟩:=zz;subst ex;obtain rfl:u=Value.ref a:=rx;exact RJ hu I3 g ry rv fun s4 I4=>⟨σ,H4,I4,q3⟩
def Vf(h:Heap)(hb:sysModules<h.objs.size):eN P w H (h.push {cls:=.type "dict",data:=.dict #[]}) h.objs.size (.dT []):=
 ⟨asU _,ats.mpr (auj (as8 hb)),[],.nil,_,#[],0,asM _ rfl,⟨rfl,rfl,rfl⟩,rfl,rfl,atA⟩
def afB:TE:=fun _ H Q=>∀p,H p=none->Q (.ref p) (upd H p (.dT []))
def Vg:PE X (.Dict [] [] pos) afB:=fun pins s σ H Q I h=>
 wpAny_Dict_empty ⟨.ref s.heap.objs.size,_,I.laid (a:=s.heap.objs.size) (o:=.dT []) (t':=s.toks) (fun _ _ q=>asv _ q) (asp _) (Vf s.heap I.big),rfl,h _ (I.cW.fresh (asp _))⟩
end L2
namespace L3
open PySem PySem.Spec PyProof.Rows L2
inductive D where
 | non|bl (b:Bool)|int (i:Int)|str (x:Str)
 | tup (ds:List D)|lst (ds:List D)|ins (c:Str) (fs:List (Str×D))|uz (kvs:List (Key×D))
 | dct (kvs:List (CO×D))
 | any
 | val (v:V)
 | lz (w:World) (ds es:List D)
abbrev _root_.At:=List D
abbrev _root_.Cl:=List (Key×D)
inductive T where
 | sh (d:D)|tup (ts:List T)|lst (ts:List T)|ins (c:Str) (fs:List (Str×T))|uz (kvs:Cl)|dct (kvs:List (CO×T))
 | pin (x:Addr) (t:T)
 | lz (w:World) (ds es:At)
abbrev _root_.B1:=List (Str×T)
abbrev _root_.Bn:=List T
abbrev _root_.CI:=List (CO×T)
abbrev _root_.Co:=List (CO×D)
abbrev _root_.Cs:=List (Str×D)
mutual
def T.bG:T->D
 | .sh d=>d
 | .tup ts=>.tup (eU ts)
 | .lst ts=>.lst (eU ts)
 | .ins c fs=>.ins c (oj fs)
 | .uz kvs=>.uz kvs
 | .dct kvs=>.dct (Ek kvs)
 | .pin _ t=>t.bG
 | .lz w ds es=>.lz w ds es
def T.eU:Bn->At
 | []=>[]
 | t::ts=>t.bG::T.eU ts
def T.oj:B1->Cs
 | []=>[]
 | (x,t)::fs=>(x,t.bG)::T.oj fs
def T.Ek:CI->Co
 | []=>[]
 | (x,t)::fs=>(x,t.bG)::T.Ek fs
end
mutual
def D.Rz(w:World):D->Int
 | .int i=>hashInt i
 | .str x => hashStr w x
 | .tup ds=>reduceHash (Builtin.Tuple.tupleHashOf (D.GO w ds))
 | _=>0
def D.GO(w:World):At->AT
 | []=>[]
 | d::ds=>d.Rz w::D.GO w ds
end
abbrev _root_.Do:=List (D×Addr×Value)
def JY(w:World)(a:Addr)(ds:At)(vs us:BN)(h:Heap):Prop:=
 (a==sysModules)=false/\∃(xs:Do) (o:Obj) (es:Array DictEntry) (ep:Nat),h.get? a=some o/\o.ExactDict/\o.data=.dict es ep/\es.toList=xs.map (fun x=>⟨x.1.Rz w,.ref x.2.1,x.2.2⟩)/\xs.map (·.1)=ds/\xs.map (fun x=>V.ref x.2.1)=vs/\Vals us (xs.map fun x=>x.2.2)
abbrev _root_.BC:=Str->Addr
variable(K:Frag)(CL:BC)
mutual
inductive bq(Z:Hp):D->V->Prop where
 | non:bq Z .non .non
 | bl (b:Bool):bq Z (.bl b) (.bl b)
 | int (i:Int):bq Z (.int i) (.int i)
 | str (x:Str):bq Z (.str x) (.str x)
 | any (v:V):bq Z .any v
 | val (v:V):bq Z (.val v) v
 | tup {a:Addr} {vs:BN} {ds:At}:se K Z a vs->aB Z ds vs->bq Z (.tup ds) (.ref a)
 | lst {a:Addr} {vs:BN} {ds:At}:ou K Z a vs->aB Z ds vs->bq Z (.lst ds) (.ref a)
 | ins {a dx:Addr} {c:Str} {gs:CA} {fs:Cs}:Z a=some (.ins (CL c) dx gs)->ic Z fs gs->bq Z (.ins c fs) (.ref a)
 | uz {a:Addr} {gs:Cf} {fs:Cl}:Z a=some (.dK gs)->cI Z fs gs->bq Z (.uz fs) (.ref a)
 | dct {a:Addr} {gs:BS} {fs:Co}:Rd Z a (.dT gs)->cA Z fs gs->bq Z (.dct fs) (.ref a)
 | lz {a:Addr} {w:World} {vs us:BN} {ds es:At}:Z a=some (.ext (JY w a ds vs us))->aB Z ds vs->aB Z es us->bq Z (.lz w ds es) (.ref a)
inductive aB(Z:Hp):At->BN->Prop where
 | nil:aB Z [] []
 | cons {d:D} {v:V} {ds:At} {vs:BN}:bq Z d v->aB Z ds vs->aB Z (d::ds) (v::vs)
inductive ic(Z:Hp):Cs->CA->Prop where
 | nil:ic Z [] []
 | cons {x:Str} {d:D} {v:V} {ds:Cs} {vs:CA}:bq Z d v->ic Z ds vs->ic Z ((x,d)::ds) ((x,v)::vs)
inductive cI(Z:Hp):Cl->Cf->Prop where
 | nil:cI Z [] []
 | cons {x:Key} {d:D} {v:V} {ds:Cl} {vs:Cf}:bq Z d v->cI Z ds vs->cI Z ((x,d)::ds) ((x,v)::vs)
inductive cA(Z:Hp):Co->BS->Prop where
 | nil:cA Z [] []
 | cons {x:CO} {d:D} {v:V} {ds:Co} {vs:BS}:bq Z d v->cA Z ds vs->cA Z ((x,d)::ds) ((x,v)::vs)
end
mutual
inductive bz(H Z:Hp):T->V->BM->Prop where
 | sh {d:D} {v:V}:bq K CL Z d v->bz H Z (.sh d) v []
 | tup {a:Addr} {vs:BN} {ts:Bn} {fp:BM}:Z a=some (.tup vs)->aJ H Z ts vs fp->bz H Z (.tup ts) (.ref a) fp
 | lst {a:Addr} {vs:BN} {ts:Bn} {fp:BM}:H a=some (.lst vs)->aJ H Z ts vs fp->bz H Z (.lst ts) (.ref a) (a::fp)
 | ins {a dx:Addr} {c:Str} {gs:CA} {fs:B1} {fp:BM}:H a=some (.ins (CL c) dx gs)->dH H Z fs gs fp->bz H Z (.ins c fs) (.ref a) (a::fp)
 | uz {a:Addr} {gs:Cf} {kvs:Cl}:H a=some (.dK gs)->cI K CL Z kvs gs->bz H Z (.uz kvs) (.ref a) [a]
 | dct {a:Addr} {gs:BS} {kvs:CI} {fp:BM}:H a=some (.dT gs)->cO H Z kvs gs fp->bz H Z (.dct kvs) (.ref a) (a::fp)
 | pin {x:Addr} {t:T} {fp:BM}:bz H Z t (.ref x) fp->bz H Z (.pin x t) (.ref x) fp
 | lz {a:Addr} {w:World} {vs us:BN} {ds es:At}:H a=some (.ext (JY w a ds vs us))->aB K CL Z ds vs->aB K CL Z es us->bz H Z (.lz w ds es) (.ref a) [a]
inductive aJ(H Z:Hp):Bn->BN->BM->Prop where
 | nil:aJ H Z [] [] []
 | cons {t:T} {v:V} {ts:Bn} {vs:BN} {fp gp:BM}:bz H Z t v fp->aJ H Z ts vs gp->aJ H Z (t::ts) (v::vs) (fp++gp)
inductive dH(H Z:Hp):B1->CA->BM->Prop where
 | nil:dH H Z [] [] []
 | cons {x:Str} {t:T} {v:V} {ts:B1} {vs:CA} {fp gp:BM}:bz H Z t v fp->dH H Z ts vs gp->dH H Z ((x,t)::ts) ((x,v)::vs) (fp++gp)
inductive cO(H Z:Hp):CI->BS->BM->Prop where
 | nil:cO H Z [] [] []
 | cons {x:CO} {t:T} {v:V} {ts:CI} {vs:BS} {fp gp:BM}:bz H Z t v fp->cO H Z ts vs gp->cO H Z ((x,t)::ts) ((x,v)::vs) (fp++gp)
end
abbrev _root_.DO:=Option T
abbrev _root_.AR:=List DO
inductive eV(H Z:Hp):AR->L2.St->BM->Prop where
 | nil:eV H Z [] [] []
 | skip {o:Option V} {δ:AR} {σ:L2.St} {fp:BM}:eV H Z δ σ fp->eV H Z (none::δ) (o::σ) fp
 | cons {t:T} {v:V} {δ:AR} {σ:L2.St} {fp gp:BM}:bz K CL H Z t v fp->eV H Z δ σ gp->eV H Z (some t::δ) (some v::σ) (fp++gp)
variable{K:Frag}{CL:BC}{H H':Hp}{a:Addr}
theorem Rd.mono{u:HO}(e:aC H H')(h:Rd H a u):Rd H' a u:=h.imp (e _ _) fun⟨o,q⟩=>⟨o,e _ _ q⟩
variable{xs:BN}
theorem aC.A4(e:aC H H')(h:se K H a xs):se K H' a xs:=by
 rcases h with(h|⟨o,h⟩)|h
 . exact .inl (.inl (e _ _ h))
 . exact .inl (.inr ⟨o,e _ _ h⟩)
 . exact .inr h
variable{Z Z':Hp}{v:V}
theorem bq.mono(e:aC Z Z'){d:D}(h:bq K CL Z d v):bq K CL Z' d v:=
 bq.rec (motive_1:=fun d v _=>bq K CL Z' d v) (motive_2:=fun d v _=>aB K CL Z' d v) (motive_3:=fun d v _=>ic K CL Z' d v) (motive_4:=fun d v _=>cI K CL Z' d v) (motive_5:=fun d v _=>cA K CL Z' d v)
   .non .bl .int .str .any .val (fun h _ r=>.tup (aC.A4 e h) r) (fun h _ r=>.lst (e.seq h) r) (fun h _ r=>.ins (e _ _ h) r) (fun h _ r=>.uz (e _ _ h) r) (fun h _ r=>.dct (Rd.mono e h) r) (fun h _ _ r q=>.lz (e _ _ h) r q) .nil (fun _ _ h r=>.cons h r) .nil (fun _ _ h r=>.cons h r) .nil (fun _ _ h r=>.cons h r) .nil (fun _ _ h r=>.cons h r) h
theorem aB.mono(e:aC Z Z'){d:At}{v:BN}(h:aB K CL Z d v):aB K CL Z' d v:=
 aB.rec (motive_1:=fun d v _=>bq K CL Z' d v) (motive_2:=fun d v _=>aB K CL Z' d v) (motive_3:=fun d v _=>ic K CL Z' d v) (motive_4:=fun d v _=>cI K CL Z' d v) (motive_5:=fun d v _=>cA K CL Z' d v)
   .non .bl .int .str .any .val (fun h _ r=>.tup (aC.A4 e h) r) (fun h _ r=>.lst (e.seq h) r) (fun h _ r=>.ins (e _ _ h) r) (fun h _ r=>.uz (e _ _ h) r) (fun h _ r=>.dct (Rd.mono e h) r) (fun h _ _ r q=>.lz (e _ _ h) r q) .nil (fun _ _ h r=>.cons h r) .nil (fun _ _ h r=>.cons h r) .nil (fun _ _ h r=>.cons h r) .nil (fun _ _ h r=>.cons h r) h
theorem ic.mono(e:aC Z Z'){d:Cs}{v:CA}(h:ic K CL Z d v):ic K CL Z' d v:=
 ic.rec (motive_1:=fun d v _=>bq K CL Z' d v) (motive_2:=fun d v _=>aB K CL Z' d v) (motive_3:=fun d v _=>ic K CL Z' d v) (motive_4:=fun d v _=>cI K CL Z' d v) (motive_5:=fun d v _=>cA K CL Z' d v)
   .non .bl .int .str .any .val (fun h _ r=>.tup (aC.A4 e h) r) (fun h _ r=>.lst (e.seq h) r) (fun h _ r=>.ins (e _ _ h) r) (fun h _ r=>.uz (e _ _ h) r) (fun h _ r=>.dct (Rd.mono e h) r) (fun h _ _ r q=>.lz (e _ _ h) r q) .nil (fun _ _ h r=>.cons h r) .nil (fun _ _ h r=>.cons h r) .nil (fun _ _ h r=>.cons h r) .nil (fun _ _ h r=>.cons h r) h
theorem cI.mono(e:aC Z Z'){d:Cl}{v:Cf}(h:cI K CL Z d v):cI K CL Z' d v:=
 cI.rec (motive_1:=fun d v _=>bq K CL Z' d v) (motive_2:=fun d v _=>aB K CL Z' d v) (motive_3:=fun d v _=>ic K CL Z' d v) (motive_4:=fun d v _=>cI K CL Z' d v) (motive_5:=fun d v _=>cA K CL Z' d v)
   .non .bl .int .str .any .val (fun h _ r=>.tup (aC.A4 e h) r) (fun h _ r=>.lst (e.seq h) r) (fun h _ r=>.ins (e _ _ h) r) (fun h _ r=>.uz (e _ _ h) r) (fun h _ r=>.dct (Rd.mono e h) r) (fun h _ _ r q=>.lz (e _ _ h) r q) .nil (fun _ _ h r=>.cons h r) .nil (fun _ _ h r=>.cons h r) .nil (fun _ _ h r=>.cons h r) .nil (fun _ _ h r=>.cons h r) h
theorem cA.mono(e:aC Z Z'){d:Co}{v:BS}(h:cA K CL Z d v):cA K CL Z' d v:=
 cA.rec (motive_1:=fun d v _=>bq K CL Z' d v) (motive_2:=fun d v _=>aB K CL Z' d v) (motive_3:=fun d v _=>ic K CL Z' d v) (motive_4:=fun d v _=>cI K CL Z' d v) (motive_5:=fun d v _=>cA K CL Z' d v)
   .non .bl .int .str .any .val (fun h _ r=>.tup (aC.A4 e h) r) (fun h _ r=>.lst (e.seq h) r) (fun h _ r=>.ins (e _ _ h) r) (fun h _ r=>.uz (e _ _ h) r) (fun h _ r=>.dct (Rd.mono e h) r) (fun h _ _ r q=>.lz (e _ _ h) r q) .nil (fun _ _ h r=>.cons h r) .nil (fun _ _ h r=>.cons h r) .nil (fun _ _ h r=>.cons h r) .nil (fun _ _ h r=>.cons h r) h
variable{t:T}{fp:BM}
theorem bz.mono(e:aC Z Z')(k:∀a∈fp,H' a=H a)(h:bz K CL H Z t v fp):bz K CL H' Z' t v fp:=
 bz.rec (motive_1:=fun t v fp _=>(∀a∈fp,H' a=H a)->bz K CL H' Z' t v fp) (motive_2:=fun t v fp _=>(∀a∈fp,H' a=H a)->aJ K CL H' Z' t v fp) (motive_3:=fun t v fp _=>(∀a∈fp,H' a=H a)->dH K CL H' Z' t v fp) (motive_4:=fun t v fp _=>(∀a∈fp,H' a=H a)->cO K CL H' Z' t v fp)
   (fun h _=>.sh (h.mono e)) (fun h _ r k=>.tup (e _ _ h) (r k)) (fun h _ r k=>.lst ((k _ ar4).trans h) (r fun a ha=>k a (ar9 _ ha))) (fun h _ r k=>.ins ((k _ ar4).trans h) (r fun a ha=>k a (ar9 _ ha))) (fun h f k=>.uz ((k _ ar4).trans h) (cI.mono e f)) (fun h _ r k=>.dct ((k _ ar4).trans h) (r fun a ha=>k a (ar9 _ ha))) (fun _ r k=>.pin (r k)) (fun h f g k=>.lz ((k _ ar4).trans h) (aB.mono e f) (aB.mono e g)) (fun _=>.nil) (fun _ _ h r k=>.cons (h fun a ha=>k a (ase _ ha)) (r fun a ha=>k a (ar5 _ ha))) (fun _=>.nil) (fun _ _ h r k=>.cons (h fun a ha=>k a (ase _ ha)) (r fun a ha=>k a (ar5 _ ha))) (fun _=>.nil) (fun _ _ h r k=>.cons (h fun a ha=>k a (ase _ ha)) (r fun a ha=>k a (ar5 _ ha))) h k
theorem aJ.mono(e:aC Z Z'){t:Bn}{v:BN}(k:∀a∈fp,H' a=H a)(h:aJ K CL H Z t v fp):aJ K CL H' Z' t v fp:=
 aJ.rec (motive_1:=fun t v fp _=>(∀a∈fp,H' a=H a)->bz K CL H' Z' t v fp) (motive_2:=fun t v fp _=>(∀a∈fp,H' a=H a)->aJ K CL H' Z' t v fp) (motive_3:=fun t v fp _=>(∀a∈fp,H' a=H a)->dH K CL H' Z' t v fp) (motive_4:=fun t v fp _=>(∀a∈fp,H' a=H a)->cO K CL H' Z' t v fp)
   (fun h _=>.sh (h.mono e)) (fun h _ r k=>.tup (e _ _ h) (r k)) (fun h _ r k=>.lst ((k _ ar4).trans h) (r fun a ha=>k a (ar9 _ ha))) (fun h _ r k=>.ins ((k _ ar4).trans h) (r fun a ha=>k a (ar9 _ ha))) (fun h f k=>.uz ((k _ ar4).trans h) (cI.mono e f)) (fun h _ r k=>.dct ((k _ ar4).trans h) (r fun a ha=>k a (ar9 _ ha))) (fun _ r k=>.pin (r k)) (fun h f g k=>.lz ((k _ ar4).trans h) (aB.mono e f) (aB.mono e g)) (fun _=>.nil) (fun _ _ h r k=>.cons (h fun a ha=>k a (ase _ ha)) (r fun a ha=>k a (ar5 _ ha))) (fun _=>.nil) (fun _ _ h r k=>.cons (h fun a ha=>k a (ase _ ha)) (r fun a ha=>k a (ar5 _ ha))) (fun _=>.nil) (fun _ _ h r k=>.cons (h fun a ha=>k a (ase _ ha)) (r fun a ha=>k a (ar5 _ ha))) h k
theorem dH.mono(e:aC Z Z'){t:B1}{v:CA}(k:∀a∈fp,H' a=H a)(h:dH K CL H Z t v fp):dH K CL H' Z' t v fp:=
 dH.rec (motive_1:=fun t v fp _=>(∀a∈fp,H' a=H a)->bz K CL H' Z' t v fp) (motive_2:=fun t v fp _=>(∀a∈fp,H' a=H a)->aJ K CL H' Z' t v fp) (motive_3:=fun t v fp _=>(∀a∈fp,H' a=H a)->dH K CL H' Z' t v fp) (motive_4:=fun t v fp _=>(∀a∈fp,H' a=H a)->cO K CL H' Z' t v fp)
   (fun h _=>.sh (h.mono e)) (fun h _ r k=>.tup (e _ _ h) (r k)) (fun h _ r k=>.lst ((k _ ar4).trans h) (r fun a ha=>k a (ar9 _ ha))) (fun h _ r k=>.ins ((k _ ar4).trans h) (r fun a ha=>k a (ar9 _ ha))) (fun h f k=>.uz ((k _ ar4).trans h) (cI.mono e f)) (fun h _ r k=>.dct ((k _ ar4).trans h) (r fun a ha=>k a (ar9 _ ha))) (fun _ r k=>.pin (r k)) (fun h f g k=>.lz ((k _ ar4).trans h) (aB.mono e f) (aB.mono e g)) (fun _=>.nil) (fun _ _ h r k=>.cons (h fun a ha=>k a (ase _ ha)) (r fun a ha=>k a (ar5 _ ha))) (fun _=>.nil) (fun _ _ h r k=>.cons (h fun a ha=>k a (ase _ ha)) (r fun a ha=>k a (ar5 _ ha))) (fun _=>.nil) (fun _ _ h r k=>.cons (h fun a ha=>k a (ase _ ha)) (r fun a ha=>k a (ar5 _ ha))) h k
theorem cO.mono(e:aC Z Z'){t:CI}{v:BS}(k:∀a∈fp,H' a=H a)(h:cO K CL H Z t v fp):cO K CL H' Z' t v fp:=
 cO.rec (motive_1:=fun t v fp _=>(∀a∈fp,H' a=H a)->bz K CL H' Z' t v fp) (motive_2:=fun t v fp _=>(∀a∈fp,H' a=H a)->aJ K CL H' Z' t v fp) (motive_3:=fun t v fp _=>(∀a∈fp,H' a=H a)->dH K CL H' Z' t v fp) (motive_4:=fun t v fp _=>(∀a∈fp,H' a=H a)->cO K CL H' Z' t v fp)
   (fun h _=>.sh (h.mono e)) (fun h _ r k=>.tup (e _ _ h) (r k)) (fun h _ r k=>.lst ((k _ ar4).trans h) (r fun a ha=>k a (ar9 _ ha))) (fun h _ r k=>.ins ((k _ ar4).trans h) (r fun a ha=>k a (ar9 _ ha))) (fun h f k=>.uz ((k _ ar4).trans h) (cI.mono e f)) (fun h _ r k=>.dct ((k _ ar4).trans h) (r fun a ha=>k a (ar9 _ ha))) (fun _ r k=>.pin (r k)) (fun h f g k=>.lz ((k _ ar4).trans h) (aB.mono e f) (aB.mono e g)) (fun _=>.nil) (fun _ _ h r k=>.cons (h fun a ha=>k a (ase _ ha)) (r fun a ha=>k a (ar5 _ ha))) (fun _=>.nil) (fun _ _ h r k=>.cons (h fun a ha=>k a (ase _ ha)) (r fun a ha=>k a (ar5 _ ha))) (fun _=>.nil) (fun _ _ h r k=>.cons (h fun a ha=>k a (ase _ ha)) (r fun a ha=>k a (ar5 _ ha))) h k
theorem bz.there(h:bz K CL H Z t v fp):∀a∈fp,∃o,H a=some o:=
 bz.rec (motive_1:=fun t v fp _=>∀a∈fp,∃o,H a=some o) (motive_2:=fun t v fp _=>∀a∈fp,∃o,H a=some o) (motive_3:=fun t v fp _=>∀a∈fp,∃o,H a=some o) (motive_4:=fun t v fp _=>∀a∈fp,∃o,H a=some o)
   (fun _ a ha=>absurd ha aso) (fun _ _ r=>r) (fun h _ r a ha=>(asb.mp ha).elim (fun q=>⟨_,q▸h⟩) (r a)) (fun h _ r a ha=>(asb.mp ha).elim (fun q=>⟨_,q▸h⟩) (r a)) (fun h _ a ha=>(asb.mp ha).elim (fun q=>⟨_,q▸h⟩) (fun q=>absurd q aso)) (fun h _ r a ha=>(asb.mp ha).elim (fun q=>⟨_,q▸h⟩) (r a)) (fun _ r=>r) (fun h _ _ a ha=>(asb.mp ha).elim (fun q=>⟨_,q▸h⟩) (fun q=>absurd q aso)) (fun a ha=>absurd ha aso) (fun _ _ h r a ha=>(asf.mp ha).elim (h a) (r a)) (fun a ha=>absurd ha aso) (fun _ _ h r a ha=>(asf.mp ha).elim (h a) (r a)) (fun a ha=>absurd ha aso) (fun _ _ h r a ha=>(asf.mp ha).elim (h a) (r a)) h
theorem aJ.there{t:Bn}{v:BN}(h:aJ K CL H Z t v fp):∀a∈fp,∃o,H a=some o:=
 aJ.rec (motive_1:=fun t v fp _=>∀a∈fp,∃o,H a=some o) (motive_2:=fun t v fp _=>∀a∈fp,∃o,H a=some o) (motive_3:=fun t v fp _=>∀a∈fp,∃o,H a=some o) (motive_4:=fun t v fp _=>∀a∈fp,∃o,H a=some o)
   (fun _ a ha=>absurd ha aso) (fun _ _ r=>r) (fun h _ r a ha=>(asb.mp ha).elim (fun q=>⟨_,q▸h⟩) (r a)) (fun h _ r a ha=>(asb.mp ha).elim (fun q=>⟨_,q▸h⟩) (r a)) (fun h _ a ha=>(asb.mp ha).elim (fun q=>⟨_,q▸h⟩) (fun q=>absurd q aso)) (fun h _ r a ha=>(asb.mp ha).elim (fun q=>⟨_,q▸h⟩) (r a)) (fun _ r=>r) (fun h _ _ a ha=>(asb.mp ha).elim (fun q=>⟨_,q▸h⟩) (fun q=>absurd q aso)) (fun a ha=>absurd ha aso) (fun _ _ h r a ha=>(asf.mp ha).elim (h a) (r a)) (fun a ha=>absurd ha aso) (fun _ _ h r a ha=>(asf.mp ha).elim (h a) (r a)) (fun a ha=>absurd ha aso) (fun _ _ h r a ha=>(asf.mp ha).elim (h a) (r a)) h
theorem bz.bG(e:aC Z Z')(k:∀a∈fp,Z' a=H a)(h:bz K CL H Z t v fp):bq K CL Z' t.bG v:=
 bz.rec (motive_1:=fun t v fp _=>(∀a∈fp,Z' a=H a)->bq K CL Z' t.bG v) (motive_2:=fun t v fp _=>(∀a∈fp,Z' a=H a)->aB K CL Z' (T.eU t) v) (motive_3:=fun t v fp _=>(∀a∈fp,Z' a=H a)->ic K CL Z' (T.oj t) v) (motive_4:=fun t v fp _=>(∀a∈fp,Z' a=H a)->cA K CL Z' (T.Ek t) v)
   (fun h _=>by rw[T.bG];exact h.mono e) (fun h _ r k=>by rw[T.bG];exact .tup (se.of (e _ _ h)) (r k)) (fun h _ r k=>by rw[T.bG];exact .lst (ou.of ((k _ ar4).trans h)) (r fun a ha=>k a (ar9 _ ha))) (fun h _ r k=>by rw[T.bG];exact .ins ((k _ ar4).trans h) (r fun a ha=>k a (ar9 _ ha))) (fun h f k=>by rw[T.bG];exact .uz ((k _ ar4).trans h) (cI.mono e f)) (fun h _ r k=>by rw[T.bG];exact .dct (.inl ((k _ ar4).trans h)) (r fun a ha=>k a (ar9 _ ha))) (fun _ r k=>by rw[T.bG];exact r k) (fun h f g k=>by rw[T.bG];exact .lz ((k _ ar4).trans h) (aB.mono e f) (aB.mono e g)) (fun _=>by rw[T.eU];exact .nil) (fun _ _ h r k=>by rw[T.eU];exact .cons (h fun a ha=>k a (ase _ ha)) (r fun a ha=>k a (ar5 _ ha))) (fun _=>by rw[T.oj];exact .nil) (fun _ _ h r k=>by rw[T.oj];exact .cons (h fun a ha=>k a (ase _ ha)) (r fun a ha=>k a (ar5 _ ha))) (fun _=>by rw[T.Ek];exact .nil) (fun _ _ h r k=>by rw[T.Ek];exact .cons (h fun a ha=>k a (ase _ ha)) (r fun a ha=>k a (ar5 _ ha))) h k
variable{vs:BN}
theorem aB.ind{P:At->BN->Prop}(n:P [] [])(c:∀{d:D} {v:V} {ds:At} {vs:BN},bq K CL Z d v->aB K CL Z ds vs->P ds vs->P (d::ds) (v::vs)){ds:At}(h:aB K CL Z ds vs):P ds vs:=
 aB.rec (motive_1:=fun _ _ _=>True) (motive_2:=fun d v _=>P d v) (motive_3:=fun _ _ _=>True) (motive_4:=fun _ _ _=>True) (motive_5:=fun _ _ _=>True)
   trivial (fun _=>trivial) (fun _=>trivial) (fun _=>trivial) (fun _=>trivial) (fun _=>trivial) (fun _ _ _=>trivial) (fun _ _ _=>trivial) (fun _ _ _=>trivial) (fun _ _ _=>trivial) (fun _ _ _=>trivial) (fun _ _ _ _ _=>trivial) n (fun a b _ i=>c a b i) trivial (fun _ _ _ _=>trivial) trivial (fun _ _ _ _=>trivial) trivial (fun _ _ _ _=>trivial) h
theorem cI.ind{P:Cl->Cf->Prop}(n:P [] [])(c:∀{x:Key} {d:D} {v:V} {ds:Cl} {vs:Cf},bq K CL Z d v->cI K CL Z ds vs->P ds vs->P ((x,d)::ds) ((x,v)::vs)){ds:Cl}{vs:Cf}(h:cI K CL Z ds vs):P ds vs:=
 cI.rec (motive_1:=fun _ _ _=>True) (motive_2:=fun _ _ _=>True) (motive_3:=fun _ _ _=>True) (motive_4:=fun d v _=>P d v) (motive_5:=fun _ _ _=>True)
   trivial (fun _=>trivial) (fun _=>trivial) (fun _=>trivial) (fun _=>trivial) (fun _=>trivial) (fun _ _ _=>trivial) (fun _ _ _=>trivial) (fun _ _ _=>trivial) (fun _ _ _=>trivial) (fun _ _ _=>trivial) (fun _ _ _ _ _=>trivial) trivial (fun _ _ _ _=>trivial) trivial (fun _ _ _ _=>trivial) n (fun a b _ i=>c a b i) trivial (fun _ _ _ _=>trivial) h
theorem cA.ind{P:Co->BS->Prop}(n:P [] [])(c:∀{x:CO} {d:D} {v:V} {ds:Co} {vs:BS},bq K CL Z d v->cA K CL Z ds vs->P ds vs->P ((x,d)::ds) ((x,v)::vs)){ds:Co}{vs:BS}(h:cA K CL Z ds vs):P ds vs:=
 cA.rec (motive_1:=fun _ _ _=>True) (motive_2:=fun _ _ _=>True) (motive_3:=fun _ _ _=>True) (motive_4:=fun _ _ _=>True) (motive_5:=fun d v _=>P d v)
   trivial (fun _=>trivial) (fun _=>trivial) (fun _=>trivial) (fun _=>trivial) (fun _=>trivial) (fun _ _ _=>trivial) (fun _ _ _=>trivial) (fun _ _ _=>trivial) (fun _ _ _=>trivial) (fun _ _ _=>trivial) (fun _ _ _ _ _=>trivial) trivial (fun _ _ _ _=>trivial) trivial (fun _ _ _ _=>trivial) trivial (fun _ _ _ _=>trivial) n (fun a b _ i=>c a b i) h
variable{ts:Bn}
theorem aJ.ind{P:Bn->BN->BM->Prop}(n:P [] [] [])(c:∀{t:T} {v:V} {ts:Bn} {vs:BN} {fp gp:BM},bz K CL H Z t v fp->aJ K CL H Z ts vs gp->P ts vs gp->P (t::ts) (v::vs) (fp++gp))(h:aJ K CL H Z ts vs fp):P ts vs fp:=
 aJ.rec (motive_1:=fun _ _ _ _=>True) (motive_2:=fun d v f _=>P d v f) (motive_3:=fun _ _ _ _=>True) (motive_4:=fun _ _ _ _=>True)
   (fun _=>trivial) (fun _ _ _=>trivial) (fun _ _ _=>trivial) (fun _ _ _=>trivial) (fun _ _=>trivial) (fun _ _ _=>trivial) (fun _ _=>trivial) (fun _ _ _=>trivial) n (fun a b _ i=>c a b i) trivial (fun _ _ _ _=>trivial) trivial (fun _ _ _ _=>trivial) h
theorem dH.ind{P:B1->CA->BM->Prop}(n:P [] [] [])(c:∀{x:Str} {t:T} {v:V} {ts:B1} {vs:CA} {fp gp:BM},bz K CL H Z t v fp->dH K CL H Z ts vs gp->P ts vs gp->P ((x,t)::ts) ((x,v)::vs) (fp++gp)){ts:B1}{vs:CA}(h:dH K CL H Z ts vs fp):P ts vs fp:=
 dH.rec (motive_1:=fun _ _ _ _=>True) (motive_2:=fun _ _ _ _=>True) (motive_3:=fun d v f _=>P d v f) (motive_4:=fun _ _ _ _=>True)
   (fun _=>trivial) (fun _ _ _=>trivial) (fun _ _ _=>trivial) (fun _ _ _=>trivial) (fun _ _=>trivial) (fun _ _ _=>trivial) (fun _ _=>trivial) (fun _ _ _=>trivial) trivial (fun _ _ _ _=>trivial) n (fun a b _ i=>c a b i) trivial (fun _ _ _ _=>trivial) h
theorem cO.ind{P:CI->BS->BM->Prop}(n:P [] [] [])(c:∀{x:CO} {t:T} {v:V} {ts:CI} {vs:BS} {fp gp:BM},bz K CL H Z t v fp->cO K CL H Z ts vs gp->P ts vs gp->P ((x,t)::ts) ((x,v)::vs) (fp++gp)){ts:CI}{vs:BS}(h:cO K CL H Z ts vs fp):P ts vs fp:=
 cO.rec (motive_1:=fun _ _ _ _=>True) (motive_2:=fun _ _ _ _=>True) (motive_3:=fun _ _ _ _=>True) (motive_4:=fun d v f _=>P d v f)
   (fun _=>trivial) (fun _ _ _=>trivial) (fun _ _ _=>trivial) (fun _ _ _=>trivial) (fun _ _=>trivial) (fun _ _ _=>trivial) (fun _ _=>trivial) (fun _ _ _=>trivial) trivial (fun _ _ _ _=>trivial) trivial (fun _ _ _ _=>trivial) n (fun a b _ i=>c a b i) h
theorem aB.length{d:At}{v:BN}(h:aB K CL Z d v):d.length=v.length:=
 aB.ind (P:=fun d v=>d.length=v.length) rfl (fun _ _ i=>congrArg (· + 1) i) h
theorem aJ.length{d:Bn}{v:BN}(h:aJ K CL H Z d v fp):d.length=v.length:=
 aJ.ind (P:=fun d v _=>d.length=v.length) rfl (fun _ _ i=>congrArg (· + 1) i) h
theorem eV.length{d:AR}{v:L2.St}(h:eV K CL H Z d v fp):d.length=v.length:=by
 induction h with
 | nil=>rfl
 | skip _ i=>exact congrArg (· + 1) i
 | cons _ _ i=>exact congrArg (· + 1) i
theorem aB.get{Z:Hp}:∀{ds:At} {vs:BN} {i:Nat} {d:D},aB K CL Z ds vs->ds[i]? = some d->∃v,vs[i]? = some v/\bq K CL Z d v
 | _,_,_,_,.nil,e=>by simp at e
 | _,_,0,_,.cons r _,e=>by simp at e;subst e;exact⟨_,rfl,r⟩
 | _,_,i+1,d,.cons _ t,e=>by
   obtain⟨u,h1,h2⟩:=aB.get (i:=i) (d:=d) t (by simpa using e);exact⟨u,by simpa using h1,h2⟩
theorem aB.aar{Z:Hp}:∀{ds:At} {vs:BN} {i:Nat} {v:V},aB K CL Z ds vs->vs[i]? = some v->∃d,ds[i]? = some d/\bq K CL Z d v
 | _,_,_,_,.nil,e=>by simp at e
 | _,_,0,_,.cons r _,e=>by simp at e;subst e;exact⟨_,rfl,r⟩
 | _,_,i+1,d,.cons _ t,e=>by
   obtain⟨u,h1,h2⟩:=aB.aar (i:=i) (v:=d) t (by simpa using e);exact⟨u,by simpa using h1,h2⟩
theorem eV.get:∀{δ:AR} {σ:L2.St} {fp:BM} {i:Nat} {t:T},eV K CL H Z δ σ fp->δ[i]? = some (some t) →
   ∃v f1 f2 f3,σ[i]? = some (some v)/\fp=f1++(f2++f3)/\bz K CL H Z t v f2 ∧
     (∀{H' Z':Hp} {t':T} {v':V} {g:BM},aC Z Z'->(∀a∈f1++f3,H' a=H a)->bz K CL H' Z' t' v' g->eV K CL H' Z' (δ.set i (some t')) (σ.set i (some v')) (f1++(g++f3))) ∧
     (∀{o:Option V},eV K CL H Z (δ.set i none) (σ.set i o) (f1++f3)):=by
 intro δ σ fp i t h;have mono:∀{H H' Z Z':Hp} {δ:AR} {σ:L2.St} {fp:BM},aC Z Z'->(∀a∈fp,H' a=H a)->eV K CL H Z δ σ fp->eV K CL H' Z' δ σ fp:=by
   intro H H' Z Z' δ σ fp e k r
   induction r with
   | nil=>exact .nil
   | skip _ ih=>exact .skip (ih k)
   | cons r _ ih=>exact .cons (r.mono e fun a ha=>k a (ase _ ha)) (ih fun a ha=>k a (ar5 _ ha))
 induction h generalizing i with
 | nil=>intro e;simp at e
 | @skip o δ σ fp r ih=>
   cases i with
   | zero=>intro e;simp at e
   | succ i=>
     intro e;obtain⟨v,f1,f2,f3,h1,h2,h3,h4,h5⟩:=ih (i:=i) (by simpa using e);exact⟨v,f1,f2,f3,by simpa using h1,h2,h3,fun e k q=>.skip (h4 e k q),.skip h5⟩
 | @cons t0 v0 δ σ fp gp r0 r ih=>
   cases i with
   | zero=>
     intro e;simp at e;subst e;refine⟨v0,[],fp,gp,rfl,rfl,r0,fun {H' Z' t' v' g} e k q=>eV.cons (fp:=g) (gp:=gp) q (mono (fp:=gp) e (fun a ha=>k a (by simpa using ha)) r),.skip (by simpa using r)⟩
   | succ i=>
     intro e;obtain⟨v,f1,f2,f3,h1,h2,h3,h4,h5⟩:=ih (i:=i) (by simpa using e);refine⟨v,fp++f1,f2,f3,by simpa using h1,by rw[h2,List.append_assoc],h3,fun {H' Z' t' v' g} e k q=>?_,fun {o}=>?_⟩
     . rw[ar7];exact .cons (r0.mono e fun a ha=>k a (by simp[ha])) (h4 e (fun a ha=>k a (by rw[ar7];exact ar5 _ ha)) q)
     . rw[ar7];exact .cons r0 h5
variable{δ:AR}{σ:L2.St}
theorem eV.mono(e:aC Z Z')(k:∀a∈fp,H' a=H a)(r:eV K CL H Z δ σ fp):eV K CL H' Z' δ σ fp:=by
 induction r with
 | nil=>exact .nil
 | skip _ ih=>exact .skip (ih k)
 | cons r _ ih=>exact .cons (r.mono e fun a ha=>k a (ase _ ha)) (ih fun a ha=>k a (ar5 _ ha))
theorem eV.there(r:eV K CL H Z δ σ fp):∀a∈fp,∃o,H a=some o:=by
 induction r with
 | nil=>intro a ha;cases ha
 | skip _ ih=>exact ih
 | cons r _ ih=>exact fun a ha=>(asf.mp ha).elim (r.there a) (ih a)
theorem eV.put(r:eV K CL H Z δ σ fp){g:BM}(q:bz K CL H Z t v g) :
   ∀{i:Nat},i<δ.length->∃f,eV K CL H Z (δ.set i (some t)) (σ.set i (some v)) f/\∃f',f'.Sublist fp/\f.Perm (g++f'):=by
 induction r with
 | nil=>intro i hi;simp at hi
 | @skip o δ σ fp r ih=>
   intro i hi;cases i with
   | zero=>exact⟨g++fp,.cons q r,fp,asZ _,au7 _⟩
   | succ i=>
     obtain⟨f,h1,f',h2,h3⟩:=ih (i:=i) (by simpa using hi);exact⟨f,.skip h1,f',h2,h3⟩
 | @cons t0 v0 δ σ fp gp r0 r ih=>
   intro i hi;cases i with
   | zero=>exact⟨g++gp,.cons q r,gp,atr _ _,au7 _⟩
   | succ i=>
     obtain⟨f,h1,f',h2,h3⟩:=ih (i:=i) (by simpa using hi);refine⟨fp++f,.cons r0 h1,fp++f',asW (asZ _) h2,?_⟩;refine(asY fp h3).trans ?_;rw[← ar7,← ar7];exact List.Perm.append_right f' asL
def A5(X:Cx)(e:Expr):TE:=fun σ H Q=>∀(pins:BA) (s:Shared),Inv X pins σ H s->wpAny (model X.prog X.w) X.A (eval e X.env) (EP X pins σ Q) X.xe s
def Vh(X:Cx)(e:Expr):TT:=fun σ H Q=>∀(pins:BA) (s:Shared),Inv X pins σ H s->wpAny (model X.prog X.w) X.A (isTrue e X.env (eval e X.env)) (TP X pins σ Q) X.xe s
def RL(X:Cx)(es:CS):TA:=fun σ H Q=>∀(pos:Pos) (pins:BA) (s:Shared),Inv X pins σ H s->wpAny (model X.prog X.w) X.A (spliced (backTo pos (starEach es X.env))) (AP X pins σ Q) X.xe s
def RM(X:Cx)(st:Stmt):TS:=fun D σ H=>∀(pins:BA) (s:Shared),Inv X pins σ H s->wpAny (model X.prog X.w) X.A (exec st X.env) (SP X pins D) X.xe s
def Vi(X:Cx)(st:CU):TS:=fun D σ H=>∀(pins:BA) (s:Shared),Inv X pins σ H s->wpAny (model X.prog X.w) X.A (execs st X.env) (SP X pins D) X.xe s
variable{X:Cx}{e:Expr}
def cP:PE X e (A5 X e):=fun pins s _ _ _ I h=>h pins s I
def ptS:PT X e (Vh X e):=fun pins s _ _ _ I h=>h pins s I
def Jz{e:CS}:PA X e (RL X e):=fun pos pins s _ _ _ I h=>h pos pins s I
def psS{e:Stmt}:PS X e (RM X e):=fun pins s _ _ _ I h=>h pins s I
def Mb{e:CU}:OS X e (Vi X e):=fun pins s _ _ _ I h=>h pins s I
def bP{t:TE}(h:PE X e t){Q:VK}(q:t σ H Q):A5 X e σ H Q:=fun pins s I=>h pins s σ H Q I q
variable{Q:EN}
def El{t:TT}(h:PT X e t)(q:t σ H Q):Vh X e σ H Q:=fun pins s I=>h pins s σ H Q I q
def GP{e:CS}{t:TA}(h:PA X e t){Q:FA}(q:t σ H Q):RL X e σ H Q:=fun pos pins s I=>h pos pins s σ H Q I q
def om{e:Stmt}{t:TS}(h:PS X e t){D:Ends}(q:t D σ H):RM X e D σ H:=fun pins s I=>h pins s σ H D I q
def afC{e:CU}{t:TS}(h:OS X e t){D:Ends}(q:t D σ H):Vi X e D σ H:=fun pins s I=>h pins s σ H D I q
def notStar:Expr->Bool
 | .Starred _ _=>false
 | _=>true
variable{es:CS}{env:Env}
def aZ(h:notStar e=true):starEach (e::es) env=(false,eval e env)::starEach es env:=by
 cases e<;>first|rfl|(cases h)
structure Bx where
 B:Hp
 Z:Hp
def ku:HO->Bool
 | .tup _=>true
 | .bG _ _=>true
 | _=>false
def Ph(x:Str):Bool:=x.cps[0]? == some 35
def am4(x:Str):Str:=⟨x.cps.extract 1 x.cps.size⟩
def oX(CL:BC)(Z:Hp):Prop:=∀x,Ph x=true->CL x≠0->Z (CL x)=some (.tabs (am4 x))
structure aR(K:Frag)(CL:BC)(b:Bx)(H Z:Hp)(δ:AR)(σ:L2.St)(ts:Bn)(vs:BN):Prop where
 rep:∃fp gp,eV K CL H Z δ σ fp/\aJ K CL H Z ts vs gp/\(fp++gp).Nodup/\∀a∈fp++gp,Z a=none/\b.B a=none
 bh:aC b.B H
 zz:aC b.Z Z
 zh:aC Z H
 new:∀a o,Z a=some o->b.Z a=none->b.B a=none
 tp:∀a o,H a=some o->ku o=true->Z a=some o
 tab:oX CL b.Z
variable{b:Bx}
theorem oX.mono{A B:Hp}(h:oX CL A)(e:aC A B):oX CL B:=fun x hx h0=>e _ _ (h x hx h0)
theorem aR.RN(S:aR K CL b H Z δ σ ts vs):oX CL Z:=S.tab.mono S.zz
theorem aR.RP(S:aR K CL b H Z δ σ ts vs):oX CL H:=S.RN.mono S.zh
def Mf{A B:Hp}(e:aC A B)(h:B a=none):A a=none:=e.free h
variable{p:Addr}
theorem aC.upd{o:HO}(h:H p=none):aC H (upd H p o):=fun b u e=>by rw[ak (bL e h)];exact e
theorem aR.view(S:aR K CL b H Z δ σ (t::ts) (v::vs)):bq K CL H t.bG v:=by
 obtain⟨fp,gp,_,r,_,_⟩:=S.rep;cases r with
 | cons r _=>exact r.bG S.zh fun _ _=>rfl
theorem aR.pop(S:aR K CL b H Z δ σ (t::ts) (v::vs)):aR K CL b H Z δ σ ts vs:=by
 obtain⟨fp,gp,e,r,nd,k⟩:=S.rep;cases r with
 | @cons _ _ _ _ f1 f2 r1 r2=>
   refine⟨⟨fp,f2,e,r2,nd.sublist (asW (asZ _) (atr _ _)),fun a ha=>k a ?_⟩,S.bh,S.zz,S.zh,S.new,S.tp,S.tab⟩;rcases asf.mp ha with h|h
   . exact ase _ h
   . exact ar5 _ (ar5 _ h)
theorem aR.push{d:D}(S:aR K CL b H Z δ σ ts vs)(r:bq K CL Z d v):aR K CL b H Z δ σ (.sh d::ts) (v::vs):=by
 obtain⟨fp,gp,e,r2,nd,k⟩:=S.rep;exact⟨⟨fp,[]++gp,e,.cons (.sh r) r2,nd,k⟩,S.bh,S.zz,S.zh,S.new,S.tp,S.tab⟩
theorem aR.B8(S:aR K CL b H Z δ σ (t::ts) (v::vs)):∃Z',aC Z Z'/\aR K CL b H Z' δ σ (.sh t.bG::ts) (v::vs):=by
 classical
 obtain⟨fp,gp,e,r,nd,k⟩:=S.rep;cases r with
 | @cons _ _ _ _ f1 f2 r1 r2=>
   have nZ:∀a∈f1,Z a=none/\b.B a=none:=fun a ha=>k a (ar5 _ (ase _ ha));have sz:aC Z (fun a=>if a∈f1 then H a else Z a):=fun a o q=>by
     by_cases ha:a∈f1
     . rw[(nZ a ha).1]at q;cases q
     . show(if a∈f1 then H a else Z a)=some o;rw[ash ha];exact q
   have nd1:=asX.mp nd;have dj:∀a∈fp++f2,a∉f1:=fun a ha h1=>by
     rcases asf.mp ha with h|h
     . exact nd1.2.2 a h a (ase _ h1) rfl
     . exact(asX.mp nd1.2.1).2.2 a h1 a h rfl
   refine⟨fun a=>if a∈f1 then H a else Z a,sz,⟨⟨fp,[]++f2,e.mono sz (fun _ _=>rfl),.cons (.sh (r1.bG sz fun a ha=>ass ha)) (r2.mono sz fun _ _=>rfl),?_,fun a ha=>?_⟩,S.bh,S.zz.trans sz,fun a o q=>?_,fun a o q z=>?_,fun a o q i=>?_,S.tab⟩⟩
   . exact nd.sublist (asW (asZ _) (atr _ _))
   . have Vj:a∈fp++f2:=ha;refine⟨?_,(k a ?_).2⟩
     . show(if a∈f1 then H a else Z a)=none;rw[ash (dj a Vj)];refine(k a ?_).1;rcases asf.mp Vj with h|h
       . exact ase _ h
       . exact ar5 _ (ar5 _ h)
     . rcases asf.mp Vj with h|h
       . exact ase _ h
       . exact ar5 _ (ar5 _ h)
   . have q':(if a∈f1 then H a else Z a)=some o:=q;by_cases ha:a∈f1
     . rw[ass ha]at q';exact q'
     . rw[ash ha]at q';exact S.zh a o q'
   . have q':(if a∈f1 then H a else Z a)=some o:=q;by_cases ha:a∈f1
     . exact(nZ a ha).2
     . rw[ash ha]at q';exact S.new a o q' z
   . exact sz a o (S.tp a o q i)
variable{i:Nat}
theorem aR.aas(S:aR K CL b H Z δ σ ts vs)(hi:δ[i]? = some (some t)):∃v Z',σ[i]? = some (some v)/\aC Z Z'/\aR K CL b H Z' (δ.set i (some (.sh t.bG))) σ (.sh t.bG::ts) (v::vs):=by
 classical
 obtain⟨fp,gp,e,r,nd,k⟩:=S.rep;obtain⟨v,f1,f2,f3,hv,oq,rt,put,_⟩:=e.get hi;subst oq;have nZ:∀a∈f2,Z a=none/\b.B a=none:=fun a ha=>k a (by simp[ha]);have sz:aC Z (fun a=>if a∈f2 then H a else Z a):=fun a o q=>by
   by_cases ha:a∈f2
   . rw[(nZ a ha).1]at q;cases q
   . show(if a∈f2 then H a else Z a)=some o;rw[ash ha];exact q
 have dj:∀a∈(f1++f3)++gp,a∉f2:=fun a ha h2=>by
   have hp:((f1++(f2++f3))++gp).Perm (f2++((f1++f3)++gp)):=by
     rw[← ar7,← ar7];refine(List.perm_append_right_iff gp).mpr ?_;rw[← ar7];exact(List.perm_append_right_iff f3).mpr asL
   exact(asX.mp (hp.nodup_iff.mp nd)).2.2 a h2 a ha rfl
 have rF:bq K CL (fun a=>if a∈f2 then H a else Z a) t.bG v:=rt.bG sz fun a ha=>ass ha;have afD:σ.set i (some v)=σ:=by
   apply auG;intro j;rw[List.getElem?_set];split
   . rename_i h;subst h;split
     . exact hv.symm
     . rename_i h2;rw[atd We]
   . rfl
 have e2:eV K CL H (fun a=>if a∈f2 then H a else Z a) (δ.set i (some (.sh t.bG))) σ (f1++([]++f3)):=by
   have:=put (H':=H) (t':=.sh t.bG) (v':=v) (g:=[]) sz (fun _ _=>rfl) (.sh rF)
   rwa [afD]at this
 refine⟨v,fun a=>if a∈f2 then H a else Z a,hv,sz,⟨⟨f1++([]++f3),[]++gp,e2,.cons (.sh rF) (r.mono sz fun _ _=>rfl),?_,fun a ha=>?_⟩,S.bh,S.zz.trans sz,fun a o q=>?_,fun a o q z=>?_,fun a o q i=>sz a o (S.tp a o q i),S.tab⟩⟩
 . exact nd.sublist (asW (asW (asZ _) (atr _ _)) (asZ _))
 . have Vj:a∈(f1++f3)++gp:=ha;have hm:a∈(f1++(f2++f3))++gp:=by
     simp only[asf]at Vj ⊢;rcases Vj with(h|h)|h
     . exact .inl (.inl h)
     . exact .inl (.inr (.inr h))
     . exact .inr h
   refine⟨?_,(k a hm).2⟩;show(if a∈f2 then H a else Z a)=none;rw[ash (dj a Vj)];exact(k a hm).1
 . have q':(if a∈f2 then H a else Z a)=some o:=q;by_cases ha:a∈f2
   . rw[ass ha]at q';exact q'
   . rw[ash ha]at q';exact S.zh a o q'
 . have q':(if a∈f2 then H a else Z a)=some o:=q;by_cases ha:a∈f2
   . exact(nZ a ha).2
   . rw[ash ha]at q';exact S.new a o q' z
theorem aR.move(S:aR K CL b H Z δ σ ts vs)(hi:δ[i]? = some (some t)):∃v,σ[i]? = some (some v)/\aR K CL b H Z (δ.set i none) σ (t::ts) (v::vs):=by
 obtain⟨fp,gp,e,r,nd,k⟩:=S.rep;obtain⟨v,f1,f2,f3,hv,oq,rt,_,del⟩:=e.get hi;subst oq;have afD:σ.set i (some v)=σ:=by
   apply auG;intro j;rw[List.getElem?_set];split
   . rename_i h;subst h;split
     . exact hv.symm
     . rename_i h2;rw[atd We]
   . rfl
 have hp:((f1++(f2++f3))++gp).Perm ((f1++f3)++(f2++gp)):=by
   have h1:(f2++f3).Perm (f3++f2):=asL;have h2:=(asY f1 h1).append_right gp;simp only[ar7]at h2 ⊢;exact h2
 refine⟨v,hv,⟨⟨f1++f3,f2++gp,?_,.cons rt r,hp.nodup_iff.mp nd,fun a ha=>k a (hp.mem_iff.mpr ha)⟩,S.bh,S.zz,S.zh,S.new,S.tp,S.tab⟩⟩;have:=del (o:=some v)
 rwa [afD]at this
theorem aR.look(S:aR K CL b H Z δ σ ts vs)(hi:δ[i]? = some (some t)):∃v,σ[i]? = some (some v)/\bq K CL H t.bG v:=by
 obtain⟨fp,gp,e,r,nd,k⟩:=S.rep;obtain⟨v,f1,f2,f3,hv,oq,rt,_,_⟩:=e.get hi;exact⟨v,hv,rt.bG S.zh fun _ _=>rfl⟩
theorem aR.Vk{d:D}(S:aR K CL b H Z δ σ ts vs)(hi:δ[i]? = some (some (.sh d))):∃v,σ[i]? = some (some v)/\bq K CL Z d v:=by
 obtain⟨fp,gp,e,r,nd,k⟩:=S.rep;obtain⟨v,f1,f2,f3,hv,oq,rt,_,_⟩:=e.get hi;cases rt with
 | sh h=>exact⟨v,hv,h⟩
theorem aR.set(S:aR K CL b H Z δ σ (t::ts) (v::vs))(hi:i<δ.length):aR K CL b H Z (δ.set i (some t)) (σ.set i (some v)) ts vs:=by
 obtain⟨fp,gp,e,r,nd,k⟩:=S.rep;cases r with
 | @cons _ _ _ _ f1 f2 r1 r2=>
   obtain⟨f,h1,f',h2,h3⟩:=e.put r1 hi;have hp:(f++f2).Perm (f'++(f1++f2)):=by
     refine(h3.append_right f2).trans ?_;rw[← ar7];exact asL.append_right f2
   have Vl:(f'++(f1++f2)).Sublist (fp++(f1++f2)):=asW h2 (asZ _);exact⟨⟨f,f2,h1,r2,hp.nodup_iff.mpr (nd.sublist Vl),fun a ha=>k a (Vl.subset (hp.mem_iff.mp ha))⟩,S.bh,S.zz,S.zh,S.new,S.tp,S.tab⟩
mutual
def D.kB:D->Bool
 | .tup ds=>D.aT ds
 | .lst _=>false
 | .ins _ _=>false
 | .uz _=>false
 | .dct _=>false
 | .any=>false
 | .lz _ _ _=>false
 | _=>true
def D.aT:At->Bool
 | []=>true
 | d::ds=>d.kB&&D.aT ds
end
mutual
def T.clean:T->Bool
 | .sh d=>d.kB
 | .tup ts=>T.cM ts
 | .lst ts=>T.cM ts
 | .ins _ fs=>T.kC fs
 | .uz kvs=>D.aT (kvs.map (·.2))
 | .dct kvs=>T.qO kvs
 | .pin _ t=>t.clean
 | .lz _ _ _=>false
def T.cM:Bn->Bool
 | []=>true
 | t::ts=>t.clean&&T.cM ts
def T.kC:B1->Bool
 | []=>true
 | (_,t)::ts=>t.clean&&T.kC ts
def T.qO:CI->Bool
 | []=>true
 | (_,t)::ts=>t.clean&&T.qO ts
end
def bO(X:Cx)(CL:BC)(b:Bx)(e:Expr)(δ:AR)(t:T)(δ':AR):Prop:=
 ∀(H Z:Hp) (σ:L2.St) (ts:Bn) (vs:BN) (Q:VK),aR X.K CL b H Z δ σ ts vs->(∀v H' Z',aC Z Z'->aC H H'->aR X.K CL b H' Z' δ' σ (t::ts) (v::vs)->Q v H')->A5 X e σ H Q
def dD(X:Cx)(CL:BC)(b:Bx)(e:Expr)(δ:AR)(d:D)(δ':AR):Prop:=
 ∀(H Z:Hp) (σ:L2.St) (ts:Bn) (vs:BN) (Q:VK),aR X.K CL b H Z δ σ ts vs->(∀v H' Z',aC Z Z'->aC H H'->aR X.K CL b H' Z' δ' σ ts vs->bq X.K CL H' d v->Q v H')->A5 X e σ H Q
def vU(X:Cx)(CL:BC)(b:Bx)(e:Expr)(δ:AR)(p:Bool)(δ':AR):Prop:=
 ∀(H Z:Hp) (σ:L2.St) (ts:Bn) (vs:BN) (Q:EN),aR X.K CL b H Z δ σ ts vs->(∀H' Z',aC Z Z'->aC H H'->aR X.K CL b H' Z' δ' σ ts vs->Q p H')->Vh X e σ H Q
def GQ(X:Cx)(CL:BC)(b:Bx)(es:CS)(δ:AR)(tl:Bn)(δ':AR):Prop:=
 ∀(H Z:Hp) (σ:L2.St) (ts:Bn) (vs:BN) (Q:FA),aR X.K CL b H Z δ σ ts vs →
   (∀us H' Z',us.length=tl.length->aC Z Z'->aC H H'->aR X.K CL b H' Z' δ' σ (tl.reverse++ts) (us.reverse++vs)->Q us H')->RL X es σ H Q
def UC(X:Cx)(CL:BC)(b:Bx)(es:CS)(δ:AR)(ds:At)(δ':AR):Prop:=
 ∀(H Z:Hp) (σ:L2.St) (ts:Bn) (vs:BN) (Q:FA),aR X.K CL b H Z δ σ ts vs →
   (∀us H' Z',aC Z Z'->aC H H'->aR X.K CL b H' Z' δ' σ ts vs->aB X.K CL H' ds us->Q us H')->RL X es σ H Q
structure dW where
 nx:AR->Prop
 rt:T->AR->Prop
 bk:AR->Prop:=fun _=>False
 ct:AR->Prop:=fun _=>False
structure Meets(K:Frag)(CL:BC)(b:Bx)(Z:Hp)(ts:Bn)(vs:BN)(D:dW)(E:Ends):Prop where
 nx:∀δ' σ' H' Z',aC Z Z'->aR K CL b H' Z' δ' σ' ts vs->D.nx δ'->E.nx σ' H'
 rt:∀t v H' Z' δ' σ',aC Z Z'->aR K CL b H' Z' δ' σ' (t::ts) (v::vs)->D.rt t δ'->E.rt v H'
 bk:∀δ' σ' H' Z',aC Z Z'->aR K CL b H' Z' δ' σ' ts vs->D.bk δ'->E.bk σ' H'
 ct:∀δ' σ' H' Z',aC Z Z'->aR K CL b H' Z' δ' σ' ts vs->D.ct δ'->E.ct σ' H'
def UD(X:Cx)(CL:BC)(b:Bx)(st:Stmt)(δ:AR)(D:dW):Prop:=
 ∀(H Z:Hp) (σ:L2.St) (ts:Bn) (vs:BN) (E:Ends),aR X.K CL b H Z δ σ ts vs->Meets X.K CL b Z ts vs D E->RM X st E σ H
def cQ(X:Cx)(CL:BC)(b:Bx)(st:CU)(δ:AR)(D:dW):Prop:=
 ∀(H Z:Hp) (σ:L2.St) (ts:Bn) (vs:BN) (E:Ends),aR X.K CL b H Z δ σ ts vs->Meets X.K CL b Z ts vs D E->Vi X st E σ H
theorem Meets.mono{D:dW}{E:Ends}(M:Meets K CL b Z ts vs D E)(e:aC Z Z'):Meets K CL b Z' ts vs D E:=
 ⟨fun _ _ _ _ s=>M.nx _ _ _ _ (e.trans s),fun _ _ _ _ _ _ s=>M.rt _ _ _ _ _ _ (e.trans s),fun _ _ _ _ s=>M.bk _ _ _ _ (e.trans s),fun _ _ _ _ s=>M.ct _ _ _ _ (e.trans s)⟩
def Pj(zh:∀a o,H a=some o->ku o=true->Z a=some o)(h:se K H a xs):se K Z a xs:=by
 rcases h with(h|⟨o,h⟩)|h
 . exact .inl (.inl (zh _ _ h rfl))
 . exact .inl (.inr ⟨o,zh _ _ h rfl⟩)
 . exact .inr h
theorem bq.kB(zh:∀a o,H a=some o->ku o=true->Z a=some o){d:D}(k:d.kB=true)(h:bq K CL H d v):bq K CL Z d v:=
 bq.rec (motive_1:=fun d v _=>d.kB=true->bq K CL Z d v) (motive_2:=fun d v _=>D.aT d=true->aB K CL Z d v) (motive_3:=fun d v _=>True) (motive_4:=fun d v _=>True) (motive_5:=fun d v _=>True)
   (fun _=>.non) (fun b _=>.bl b) (fun b _=>.int b) (fun b _=>.str b) (fun _ k=>by rw[D.kB]at k;cases k) (fun b _=>.val b) (fun h _ r k=>.tup (Pj zh h) (r (by rw[D.kB]at k;exact k))) (fun _ _ _ k=>by rw[D.kB]at k;cases k) (fun _ _ _ k=>by rw[D.kB]at k;cases k) (fun _ _ _ k=>by rw[D.kB]at k;cases k) (fun _ _ _ k=>by rw[D.kB]at k;cases k) (fun _ _ _ _ _ k=>by rw[D.kB]at k;cases k) (fun _=>.nil) (fun _ _ h r k=>by rw[D.aT,asI]at k;exact .cons (h k.1) (r k.2)) trivial (fun _ _ _ _=>trivial) trivial (fun _ _ _ _=>trivial) trivial (fun _ _ _ _=>trivial) h k
theorem aB.kB(zh:∀a o,H a=some o->ku o=true->Z a=some o){d:At}{v:BN}(k:D.aT d=true)(h:aB K CL H d v):aB K CL Z d v:=
 aB.rec (motive_1:=fun d v _=>d.kB=true->bq K CL Z d v) (motive_2:=fun d v _=>D.aT d=true->aB K CL Z d v) (motive_3:=fun d v _=>True) (motive_4:=fun d v _=>True) (motive_5:=fun d v _=>True)
   (fun _=>.non) (fun b _=>.bl b) (fun b _=>.int b) (fun b _=>.str b) (fun _ k=>by rw[D.kB]at k;cases k) (fun b _=>.val b) (fun h _ r k=>.tup (Pj zh h) (r (by rw[D.kB]at k;exact k))) (fun _ _ _ k=>by rw[D.kB]at k;cases k) (fun _ _ _ k=>by rw[D.kB]at k;cases k) (fun _ _ _ k=>by rw[D.kB]at k;cases k) (fun _ _ _ k=>by rw[D.kB]at k;cases k) (fun _ _ _ _ _ k=>by rw[D.kB]at k;cases k) (fun _=>.nil) (fun _ _ h r k=>by rw[D.aT,asI]at k;exact .cons (h k.1) (r k.2)) trivial (fun _ _ _ _=>trivial) trivial (fun _ _ _ _=>trivial) trivial (fun _ _ _ _=>trivial) h k
theorem cI.clean{Z1:Hp}(zi:∀{d:D} {v:V},d.kB=true->bq K CL Z1 d v->bq K CL Z d v){kvs:Cl}{gs:Cf}(k:D.aT (kvs.map (·.2))=true)(h:cI K CL Z1 kvs gs):cI K CL Z kvs gs:=
 cI.ind (P:=fun kvs gs=>D.aT (kvs.map (·.2))=true->cI K CL Z kvs gs) (fun _=>.nil) (fun h _ i k=>by rw[asA,D.aT,asI]at k;exact .cons (zi k.1 h) (i k.2)) h k
theorem bz.clean{Z1:Hp}(zh:∀a xs,Z1 a=some (.tup xs)->Z a=some (.tup xs))(zi:∀{d:D} {v:V},d.kB=true->bq K CL Z1 d v->bq K CL Z d v)(k:t.clean=true)(h:bz K CL H Z1 t v fp):bz K CL H Z t v fp:=
 bz.rec (motive_1:=fun t v fp _=>t.clean=true->bz K CL H Z t v fp) (motive_2:=fun t v fp _=>T.cM t=true->aJ K CL H Z t v fp) (motive_3:=fun t v fp _=>T.kC t=true->dH K CL H Z t v fp) (motive_4:=fun t v fp _=>T.qO t=true->cO K CL H Z t v fp)
   (fun h k=>.sh (zi (by rw[T.clean]at k;exact k) h)) (fun h _ r k=>.tup (zh _ _ h) (r (by rw[T.clean]at k;exact k))) (fun h _ r k=>.lst h (r (by rw[T.clean]at k;exact k))) (fun h _ r k=>.ins h (r (by rw[T.clean]at k;exact k))) (fun h f k=>.uz h (cI.clean zi (by rw[T.clean]at k;exact k) f)) (fun h _ r k=>.dct h (r (by rw[T.clean]at k;exact k))) (fun _ r k=>.pin (r (by rw[T.clean]at k;exact k))) (fun _ _ _ k=>by rw[T.clean]at k;cases k) (fun _=>.nil) (fun _ _ h r k=>by rw[T.cM,asI]at k;exact .cons (h k.1) (r k.2)) (fun _=>.nil) (fun _ _ h r k=>by rw[T.kC,asI]at k;exact .cons (h k.1) (r k.2)) (fun _=>.nil) (fun _ _ h r k=>by rw[T.qO,asI]at k;exact .cons (h k.1) (r k.2)) h k
theorem aR.back{W W':Hp}(S:aR K CL b H Z δ σ ts vs)(hh:aC H H')(zw:aC Z W)(ww:aC W W')(wh:aC W' H')(new:∀a o,W' a=some o->W a=none->H a=none)
   (tp:∀a o,H' a=some o->ku o=true->W' a=some o) (r:bz K CL H' W' t v fp) (nd:fp.Nodup) (own:∀a∈fp,W' a=none/\H a=none) (c:W=Z\/t.clean=true) :
   ∃Z',aC Z Z'/\aR K CL b H' Z' δ σ (t::ts) (v::vs):=by
 classical
 let Z':Hp:=fun a=>if (H a).isSome=true then Z a else W' a
 have zs:∀{a:Addr} {o:HO},H a=some o->Z' a=Z a:=fun {a o} e=>by
   show(if (H a).isSome=true then Z a else W' a)=Z a;rw[ass (by rw[e];rfl)]
 have zn:∀{a:Addr},H a=none->Z' a=W' a:=fun {a} e=>by
   show(if (H a).isSome=true then Z a else W' a)=W' a;rw[ash (by rw[e];simp)]
 have sz:aC Z Z':=fun a o q=>by rw[zs (S.zh a o q)];exact q
 have zw':∀a o,Z' a=some o->W' a=some o:=fun a o q=>by
   cases e:H a with
   | none=>rw[zn e]at q;exact q
   | some u=>rw[zs e]at q;exact ww a o (zw a o q)
 have ztp:∀a o,H' a=some o->ku o=true->Z' a=some o:=fun a o q i=>by
   cases e:H a with
   | none=>rw[zn e];exact tp a o q i
   | some u=>
     rw[zs e];have:=hh a u e;rw[q]at this;cases this;exact S.tp a o e i
 have r':bz K CL H' Z' t v fp:=by
   rcases c with c|c
   . have:Z'=W':=by
       funext a;cases e:H a with
       | none=>exact zn e
       | some u=>
         rw[zs e];cases q:W' a with
         | none=>
           cases q2:Z a with
           | none=>rfl
           | some o=>rw[ww a o (zw a o q2)]at q;cases q
         | some o=>
           cases q2:W a with
           | none=>rw[new a o q q2]at e;cases e
           | some o2=>
             have:=ww a o2 q2;rw[q]at this;cases this;rw[← c];exact q2
     rw[this];exact r
   . refine bz.clean (fun a xs h=>?_) (fun {d v} k h=>?_) c r
     . exact ztp a _ (wh a _ h) rfl
     . exact bq.kB (H:=H') ztp k (h.mono wh)
 obtain⟨f0,g0,e0,r0,nd0,k0⟩:=S.rep;have old:∀a∈f0++g0,∃o,H a=some o:=fun a ha=>(asf.mp ha).elim (e0.there a) (r0.there a);have keep:∀a∈f0++g0,H' a=H a:=fun a ha=>by
   obtain⟨o,e⟩:=old a ha;rw[e];exact hh a o e
 refine⟨Z',sz,⟨⟨f0,fp++g0,e0.mono sz (fun a ha=>keep a (ase _ ha)),.cons r' (r0.mono sz fun a ha=>keep a (ar5 _ ha)),?_,fun a ha=>?_⟩,S.bh.trans hh,S.zz.trans sz,fun a o q=>wh a o (zw' a o q),fun a o q z=>?_,ztp,S.tab⟩⟩
 . have hp:(f0++(fp++g0)).Perm (fp++(f0++g0)):=by
     rw[← ar7,← ar7];exact asL.append_right g0
   refine hp.nodup_iff.mpr (asX.mpr ⟨nd,nd0,fun a ha c hc e=>?_⟩);subst e;obtain⟨o,q⟩:=old a hc;rw[(own a ha).2]at q;cases q
 . have:a∈f0++g0\/a∈fp:=by
     simp only[asf]at ha ⊢;rcases ha with h|h|h
     . exact .inl (.inl h)
     . exact .inr h
     . exact .inl (.inr h)
   rcases this with h|h
   . obtain⟨o,q⟩:=old a h;exact⟨by rw[zs q];exact(k0 a h).1,(k0 a h).2⟩
   . exact⟨by rw[zn (own a h).2];exact(own a h).1,S.bh.free (own a h).2⟩
 . cases e:H a with
   | none=>exact S.bh.free e
   | some u=>rw[zs e]at q;exact S.new a o q z
section
variable{δ1 δ2:AR}{e1 e2:Expr}{pos:Pos}{d d1 d2:D}
def adS(h:bO X CL b e δ t δ1):dD X CL b e δ t.bG δ1:=fun H Z σ ts vs Q S k=>h H Z σ ts vs Q S fun v H' Z' z s S'=>k v H' Z' z s S'.pop S'.view
def au(h:bO X CL b e δ (.sh d) δ1):dD X CL b e δ d δ1:=by have:=adS h;rwa [T.bG]at this
def dI(h:dD X CL b e δ d δ1)(i:d.kB=true):bO X CL b e δ (.sh d) δ1:=fun H Z σ ts vs Q S k=>h H Z σ ts vs Q S fun v H' Z' z s S' r=>k v H' Z' z s (S'.push (bq.kB S'.tp i r))
def Mg(h:bO X CL b e δ t δ1):bO X CL b e δ (.sh t.bG) δ1:=fun H Z σ ts vs Q S k=>h H Z σ ts vs Q S fun v H' Z' z s S'=>by
 obtain⟨Z2,z2,S2⟩:=S'.B8;exact k v H' Z2 (z.trans z2) s S2
def lJ{i:Int}{j:Nat}:bO X CL b (.Constant (.int i) j pos) δ (.sh (.int i)) δ:=fun H Z σ ts vs Q S k=>bP Ly (k _ _ Z (.refl _) (.refl _) (S.push (.int i)))
def FD{i:Bool}{j:Nat}:bO X CL b (.Constant (.bool i) j pos) δ (.sh (.bl i)) δ:=fun H Z σ ts vs Q S k=>bP aiP (k _ _ Z (.refl _) (.refl _) (S.push (.bl i)))
def fY{x:Str}{j:Nat}:bO X CL b (.Constant (.str x) j pos) δ (.sh (.str x)) δ:=fun H Z σ ts vs Q S k=>bP aeR (k _ _ Z (.refl _) (.refl _) (S.push (.str x)))
section
variable{x:Str}(i:Nat)(hi:X.N[i]? = some x:=by rfl)(hv:Vis X.env.scope x:=by first|exact Or.inl rfl|exact Or.inr (Or.inl rfl)|exact Or.inr (Or.inr rfl))(hd:AD x:=by decide)(ko:AE x:=by decide)
include hi hv hd ko
def afE(h:δ[i]? = some (some (.sh d)):=by rfl):bO X CL b (.Name x pos) δ (.sh d) δ:=fun H Z σ ts vs Q S k=>by
 obtain⟨v,e,r⟩:=S.Vk h;exact bP (gw hi hv hd ko) ⟨v,e,k v H Z (.refl _) (.refl _) (S.push r)⟩
def aat(h:δ[i]? = some (some t):=by rfl):bO X CL b (.Name x pos) δ (.sh t.bG) (δ.set i (some (.sh t.bG))):=fun H Z σ ts vs Q S k=>by
 obtain⟨v,Z',e,z,S'⟩:=S.aas h;exact bP (gw hi hv hd ko) ⟨v,e,k v H Z' z (.refl _) S'⟩
def aau(h:δ[i]? = some (some t):=by rfl):bO X CL b (.Name x pos) δ t (δ.set i none):=fun H Z σ ts vs Q S k=>by
 obtain⟨v,e,S'⟩:=S.move h;exact bP (gw hi hv hd ko) ⟨v,e,k v H Z (.refl _) (.refl _) S'⟩
def afF(h:δ[i]? = some (some t):=by rfl):dD X CL b (.Name x pos) δ t.bG δ:=fun H Z σ ts vs Q S k=>by
 obtain⟨v,e,r⟩:=S.look h;exact bP (gw hi hv hd ko) ⟨v,e,k v H Z (.refl _) (.refl _) S r⟩
end
def scV:D->Option V
 | .non=>some .non
 | .bl b=>some (.bl b)
 | .int i=>some (.int i)
 | .str x => some (.str x)
 | _=>none
theorem bq.sc{d:D}{w:V}(r:bq K CL Z d v)(h:scV d=some w):v=w:=by
 cases r<;>first|(exact asE h)|(cases h)
def aav{d:D}{w:V}(h:scV d=some w):bq K CL Z d w:=by
 cases d<;>first|(cases h;constructor)|(cases h)
def vV{op:Operator}{r:R2}{w1 w2 w:V}(ho:wW X (binaryOp op) r)(h1:dD X CL b e1 δ d1 δ1)(h2:dD X CL b e2 δ1 d2 δ2)(s1:scV d1=some w1)(s2:scV d2=some w2)(s3:scV d=some w)
   (hr:∀(H:Hp) (Q:VK),Q w H->r w1 w2 H Q):bO X CL b (.BinOp e1 op e2 pos) δ (.sh d) δ2:=fun H Z σ ts vs Q S k=>by
 refine bP (Am ho cP cP) (h1 H Z σ ts vs _ S fun v1 H1 Z1 z1 k1 S1 r1=>h2 H1 Z1 σ ts vs _ S1 fun v2 H2 Z2 z2 k2 S2 r2=>?_);rw[r1.sc s1,r2.sc s2];exact hr H2 Q (k w H2 Z2 (z1.trans z2) (k1.trans k2) (S2.push (aav s3)))
def bX{i j:Int}(h1:dD X CL b e1 δ (.int i) δ1)(h2:dD X CL b e2 δ1 (.int j) δ2):bO X CL b (.BinOp e1 .Add e2 pos) δ (.sh (.int (i+j))) δ2:=vV afc h1 h2 rfl rfl rfl fun _ _ q=>⟨i,j,rfl,rfl,q⟩
def GR{i j:Int}(h1:dD X CL b e1 δ (.int i) δ1)(h2:dD X CL b e2 δ1 (.int j) δ2):bO X CL b (.BinOp e1 .Sub e2 pos) δ (.sh (.int (i-j))) δ2:=vV afd h1 h2 rfl rfl rfl fun _ _ q=>⟨i,j,rfl,rfl,q⟩
def oY{i j:Int}(h1:dD X CL b e1 δ (.int i) δ1)(h2:dD X CL b e2 δ1 (.int j) δ2)(c:aae i j):bO X CL b (.BinOp e1 .Mult e2 pos) δ (.sh (.int (i*j))) δ2:=vV afe h1 h2 rfl rfl rfl fun _ _ q=>⟨i,j,rfl,rfl,c,q⟩
def bH{i j:Int}(h1:dD X CL b e1 δ (.int i) δ1)(h2:dD X CL b e2 δ1 (.int j) δ2)(c:0<j):bO X CL b (.BinOp e1 .Mod e2 pos) δ (.sh (.int (i % j))) δ2:=vV afg h1 h2 rfl rfl rfl fun _ _ q=>⟨i,j,rfl,rfl,c,q⟩
def fk{i j:Int}(h1:dD X CL b e1 δ (.int i) δ1)(h2:dD X CL b e2 δ1 (.int j) δ2)(c:ai3 i j):bO X CL b (.BinOp e1 .FloorDiv e2 pos) δ (.sh (.int (i / j))) δ2:=vV aaf h1 h2 rfl rfl rfl fun _ _ q=>⟨i,j,rfl,rfl,c,q⟩
def Vm{i j:Int}(h1:dD X CL b e1 δ (.int i) δ1)(h2:dD X CL b e2 δ1 (.int j) δ2)(c:ai4 i j):bO X CL b (.BinOp e1 .Pow e2 pos) δ (.sh (.int (i ^ j.toNat))) δ2:=vV afh h1 h2 rfl rfl rfl fun _ _ q=>⟨i,j,rfl,rfl,c,q⟩
def vW{x y:Str}(h1:dD X CL b e1 δ (.str x) δ1)(h2:dD X CL b e2 δ1 (.str y) δ2)(c:x.length+y.length<=sizeLine):bO X CL b (.BinOp e1 .Add e2 pos) δ (.sh (.str (x++y))) δ2:=vV LK h1 h2 rfl rfl rfl fun _ _ q=>⟨x,y,rfl,rfl,c,q⟩
def FE{op:CmpOp}{r:R2}{p:Bool}{w1 w2:V}(ho:wW X (compareOp op) r)(h1:dD X CL b e1 δ d1 δ1)(h2:dD X CL b e2 δ1 d2 δ2)(s1:scV d1=some w1)(s2:scV d2=some w2)
   (hr:∀(H:Hp) (Q:VK),Q (.bl p) H->r w1 w2 H Q) (hm:behindInMarks op e2=false):vU X CL b (.Compare e1 [op] [e2] pos) δ p δ2/\bO X CL b (.Compare e1 [op] [e2] pos) δ (.sh (.bl p)) δ2:=by
 constructor
 . intro H Z σ ts vs Q S k;refine El (qJ ho cP cP hm) (h1 H Z σ ts vs _ S fun v1 H1 Z1 z1 k1 S1 r1=>h2 H1 Z1 σ ts vs _ S1 fun v2 H2 Z2 z2 k2 S2 r2=>?_);rw[r1.sc s1,r2.sc s2];exact hr H2 _ ⟨p,rfl,k H2 Z2 (z1.trans z2) (k1.trans k2) S2⟩
 . intro H Z σ ts vs Q S k;refine bP (uw ho cP cP hm) (h1 H Z σ ts vs _ S fun v1 H1 Z1 z1 k1 S1 r1=>h2 H1 Z1 σ ts vs _ S1 fun v2 H2 Z2 z2 k2 S2 r2=>?_);rw[r1.sc s1,r2.sc s2];exact hr H2 _ (k _ H2 Z2 (z1.trans z2) (k1.trans k2) (S2.push (.bl p)))
def gA{i j:Int}(h1:dD X CL b e1 δ (.int i) δ1)(h2:dD X CL b e2 δ1 (.int j) δ2):vU X CL b (.Compare e1 [.Eq] [e2] pos) δ (decide (i=j)) δ2/\bO X CL b (.Compare e1 [.Eq] [e2] pos) δ (.sh (.bl (decide (i=j)))) δ2:=
 FE adJ h1 h2 rfl rfl (fun _ _ q=>⟨rfl,by rw[show decide (V.int i=V.int j)=decide (i=j) by simp];exact q⟩) (mY _)
def afH{i j:Int}(h1:dD X CL b e1 δ (.int i) δ1)(h2:dD X CL b e2 δ1 (.int j) δ2):vU X CL b (.Compare e1 [.NotEq] [e2] pos) δ (!decide (i=j)) δ2/\bO X CL b (.Compare e1 [.NotEq] [e2] pos) δ (.sh (.bl (!decide (i=j)))) δ2:=
 FE ai6 h1 h2 rfl rfl (fun _ _ q=>⟨rfl,by rw[show decide (V.int i=V.int j)=decide (i=j) by simp];exact q⟩) (mY _)
def lK{i j:Str}(h1:dD X CL b e1 δ (.str i) δ1)(h2:dD X CL b e2 δ1 (.str j) δ2):vU X CL b (.Compare e1 [.Eq] [e2] pos) δ (decide (i=j)) δ2/\bO X CL b (.Compare e1 [.Eq] [e2] pos) δ (.sh (.bl (decide (i=j)))) δ2:=
 FE adJ h1 h2 rfl rfl (fun _ _ q=>⟨rfl,by rw[show decide (V.str i=V.str j)=decide (i=j) by simp];exact q⟩) (mY _)
def Vo{i j:Int}(h1:dD X CL b e1 δ (.int i) δ1)(h2:dD X CL b e2 δ1 (.int j) δ2):vU X CL b (.Compare e1 [.Lt] [e2] pos) δ (decide (i<j)) δ2/\bO X CL b (.Compare e1 [.Lt] [e2] pos) δ (.sh (.bl (decide (i<j)))) δ2:=FE ai7 h1 h2 rfl rfl (fun _ _ q=>⟨i,j,rfl,rfl,q⟩) (mY _)
def ajw{i j:Int}(h1:dD X CL b e1 δ (.int i) δ1)(h2:dD X CL b e2 δ1 (.int j) δ2):vU X CL b (.Compare e1 [.LtE] [e2] pos) δ (decide (i<=j)) δ2/\bO X CL b (.Compare e1 [.LtE] [e2] pos) δ (.sh (.bl (decide (i<=j)))) δ2:=FE ai8 h1 h2 rfl rfl (fun _ _ q=>⟨i,j,rfl,rfl,q⟩) (mY _)
def adT{i j:Int}(h1:dD X CL b e1 δ (.int i) δ1)(h2:dD X CL b e2 δ1 (.int j) δ2):vU X CL b (.Compare e1 [.Gt] [e2] pos) δ (decide (j<i)) δ2/\bO X CL b (.Compare e1 [.Gt] [e2] pos) δ (.sh (.bl (decide (j<i)))) δ2:=FE ai9 h1 h2 rfl rfl (fun _ _ q=>⟨i,j,rfl,rfl,q⟩) (mY _)
end
theorem aJ.split:∀{as bs:Bn} {us ws:BN} {gp:BM},as.length=us.length->aJ K CL H Z (as++bs) (us++ws) gp->∃g1 g2,gp=g1++g2/\aJ K CL H Z as us g1/\aJ K CL H Z bs ws g2
 | [],_,[],_,gp,_,r=>⟨[],gp,rfl,.nil,r⟩
 | [],_,_::_,_,_,h,_=>by simp at h
 | _::_,_,[],_,_,h,_=>by simp at h
 | a::as,bs,u::us,ws,gp,h,r=>by
   cases r with
   | @cons _ _ _ _ f1 f2 r1 r2=>
     obtain⟨g1,g2,e,h1,h2⟩:=aJ.split (as:=as) (us:=us) (by simpa using h) r2;exact⟨f1++g1,g2,by rw[e,ar7],.cons r1 h1,h2⟩
variable{us:BN}
theorem aJ.app{as bs:Bn}{ws:BN}{g1 g2:BM}(h:aJ K CL H Z as us g1)(q:aJ K CL H Z bs ws g2):aJ K CL H Z (as++bs) (us++ws) (g1++g2):=
 aJ.ind (P:=fun as us g1=>aJ K CL H Z (as++bs) (us++ws) (g1++g2)) q (fun r _ i=>by rw[ar7];exact .cons r i) h
theorem aJ.rev:∀{as:Bn} {us:BN} {g:BM},aJ K CL H Z as.reverse us.reverse g->∃g',aJ K CL H Z as us g'/\g'.Perm g
 | [],[],g,r=>by
   have r':aJ K CL H Z [] [] g:=r;cases r';exact⟨[],.nil,au7 _⟩
 | [],u::us,g,r=>by have:=r.length;simp at this
 | a::as,[],g,r=>by have:=r.length;simp at this
 | a::as,u::us,g,r=>by
   rw[as2,as2]at r;have hl:=r.length;obtain⟨g1,g2,e,r1,r2⟩:=aJ.split (by simp at hl ⊢;omega) r;subst e;obtain⟨g',r',p⟩:=aJ.rev r1;cases r2 with
   | @cons _ _ _ _ f1 f2 q1 q2=>
     cases q2;refine⟨f1++g',.cons q1 r',?_⟩;rw[asx];exact(asY f1 p).trans asL
theorem aJ.ofF:∀{ds:At} {us:BN},aB K CL Z ds us->aJ K CL H Z (ds.map T.sh) us []
 | _,_,.nil=>.nil
 | _,_,.cons r t=>.cons (fp:=[]) (gp:=[]) (.sh r) (aJ.ofF t)
theorem aJ.toF:∀{ds:At} {us:BN} {g:BM},aJ K CL H Z (ds.map T.sh) us g->aB K CL Z ds us/\g=[]
 | [],_,_,r=>by
   have r':aJ K CL H Z [] _ _:=r;cases r';exact⟨.nil,rfl⟩
 | d::ds,_,_,r=>by
   have r':aJ K CL H Z (T.sh d::ds.map T.sh) _ _:=r;cases r' with
   | cons r1 r2=>
     cases r1 with
     | sh h=>
       obtain⟨q,e⟩:=aJ.toF r2;exact⟨.cons h q,by rw[e];rfl⟩
theorem kP:∀(ds:At),T.eU (ds.map T.sh)=ds
 | []=>rfl
 | d::ds=>by rw[asA,T.eU,kP ds,T.bG]
theorem JZ:∀(ts:Bn),(T.eU ts).length=ts.length
 | []=>rfl
 | d::ds=>by rw[T.eU,asN,asN,JZ ds]
variable{tl:Bn}
theorem aR.GU(S:aR K CL b H Z δ σ (tl.reverse++ts) (us.reverse++vs))(hl:us.length=tl.length)(hp:H p=none) :
   aC Z (upd Z p (.tup us))/\aC H (upd H p (.tup us))/\aR K CL b (upd H p (.tup us)) (upd Z p (.tup us)) δ σ (.tup tl::ts) (.ref p::vs):=by
 obtain⟨fp,gp,e,r,nd,k⟩:=S.rep;obtain⟨g1,g2,eg,r1,r2⟩:=aJ.split (by simp[hl]) r;subst eg;obtain⟨g',r',pm⟩:=r1.rev;have zp:Z p=none:=S.zh.free hp;have sz:aC Z (upd Z p (.tup us)):=aC.upd zp;have sh:aC H (upd H p (.tup us)):=aC.upd hp;have keep:∀a∈fp++(g1++g2),a≠p:=fun a ha=>by
   have:∃o,H a=some o:=by
     rcases asf.mp ha with h|h
     . exact e.there a h
     . exact r.there a h
   obtain⟨o,q⟩:=this;exact bL q hp
 have Pk:(fp++(g'++g2)).Perm (fp++(g1++g2)):=(pm.append_right g2).append_left fp;have kk:∀a∈fp++(g'++g2),a≠p:=fun a ha=>keep a (Pk.mem_iff.mp ha);refine⟨sz,sh,⟨⟨fp,g'++g2,e.mono sz (fun a ha=>ak (keep a (ase _ ha))),.cons (.tup aD (r'.mono sz fun a ha=>ak (kk a (by simp[ha])))) (r2.mono sz fun a ha=>ak (keep a (by simp[ha]))),Pk.nodup_iff.mpr nd,fun a ha=>?_⟩,S.bh.trans sh,S.zz.trans sz,fun a o q=>?_,fun a o q z=>?_,fun a o q i=>?_,S.tab⟩⟩
 . exact⟨by rw[ak (kk a ha)];exact(k a (Pk.mem_iff.mp ha)).1,(k a (Pk.mem_iff.mp ha)).2⟩
 . by_cases ha:a=p
   . subst ha;rw[aD]at q ⊢;exact q
   . rw[ak ha]at q ⊢;exact S.zh a o q
 . by_cases ha:a=p
   . subst ha;exact S.bh.free hp
   . rw[ak ha]at q;exact S.new a o q z
 . by_cases ha:a=p
   . subst ha;rw[aD]at q ⊢;exact q
   . rw[ak ha]at q ⊢;exact S.tp a o q i
theorem aR.sJ{g0:BM}(S:aR K CL b H Z δ σ (tl.reverse++ts) (us.reverse++vs))(hl:us.length=tl.length)(hp:H p=none) :
   aC H (upd H p (.lst us))/\aR K CL b (upd H p (.lst us)) Z δ σ (.lst tl::ts) (.ref p::vs):=by
 obtain⟨fp,gp,e,r,nd,k⟩:=S.rep;obtain⟨g1,g2,eg,r1,r2⟩:=aJ.split (by simp[hl]) r;subst eg;obtain⟨g',r',pm⟩:=r1.rev;have zp:Z p=none:=S.zh.free hp;have sh:aC H (upd H p (.lst us)):=aC.upd hp;have keep:∀a∈fp++(g1++g2),a≠p:=fun a ha=>by
   have:∃o,H a=some o:=by
     rcases asf.mp ha with h|h
     . exact e.there a h
     . exact r.there a h
   obtain⟨o,q⟩:=this;exact bL q hp
 have Pk:(fp++(g'++g2)).Perm (fp++(g1++g2)):=(pm.append_right g2).append_left fp;have kk:∀a∈fp++(g'++g2),a≠p:=fun a ha=>keep a (Pk.mem_iff.mp ha);have pm3:(fp++((p::g')++g2)).Perm (p::(fp++(g'++g2))):=by
   rw[asO];exact atq
 refine⟨sh,⟨⟨fp,(p::g')++g2,e.mono (.refl _) (fun a ha=>ak (keep a (ase _ ha))),.cons (.lst aD (r'.mono (.refl _) fun a ha=>ak (kk a (by simp[ha])))) (r2.mono (.refl _) fun a ha=>ak (keep a (by simp[ha]))),?_,fun a ha=>?_⟩,S.bh.trans sh,S.zz,S.zh.trans sh,S.new,fun a o q i=>?_,S.tab⟩⟩
 . refine pm3.nodup_iff.mpr (as6.mpr ⟨fun h=>kk p h rfl,Pk.nodup_iff.mpr nd⟩)
 . rcases asb.mp (pm3.mem_iff.mp ha) with h|h
   . subst h;exact⟨zp,S.bh.free hp⟩
   . exact k a (Pk.mem_iff.mp h)
 . by_cases ha:a=p
   . subst ha;rw[aD]at q;cases q;cases i
   . rw[ak ha]at q;exact S.tp a o q i
variable{δ1 δ2:AR}{e1 e2:Expr}{p q:Bool}{pos:Pos}{d:D}{ds:At}
def bK:GQ X CL b [] δ [] δ:=fun H Z σ ts vs Q S k=>GP dZ (k [] H Z rfl (.refl _) (.refl _) S)
def aL(h1:bO X CL b e δ t δ1)(h2:GQ X CL b es δ1 tl δ2)(hs:AC X e es:=by exact aZ rfl):GQ X CL b (e::es) δ (t::tl) δ2:=fun H Z σ ts vs Q S k=>
 GP (bY cP Jz hs) (h1 H Z σ ts vs _ S fun v H1 Z1 z1 k1 S1=>h2 H1 Z1 σ _ _ _ S1 fun us H2 Z2 hl z2 k2 S2=>k (v::us) H2 Z2 (by simp[hl]) (z1.trans z2) (k1.trans k2) (by
   rw[as2,as2,ar7,ar7];exact S2))
def aH:UC X CL b [] δ [] δ:=fun H Z σ ts vs Q S k=>GP dZ (k [] H Z (.refl _) (.refl _) S .nil)
def ah(h1:dD X CL b e δ d δ1)(h2:UC X CL b es δ1 ds δ2)(hs:AC X e es:=by exact aZ rfl):UC X CL b (e::es) δ (d::ds) δ2:=fun H Z σ ts vs Q S k=>
 GP (bY cP Jz hs) (h1 H Z σ ts vs _ S fun v H1 Z1 z1 k1 S1 r1=>h2 H1 Z1 σ _ _ _ S1 fun us H2 Z2 z2 k2 S2 r2=>k (v::us) H2 Z2 (z1.trans z2) (k1.trans k2) S2 (.cons (r1.mono k2) r2))
variable{j:Nat}
def kD(h:GQ X CL b es δ tl δ1)(hl:tl.length<=sizeLine):bO X CL b (.Tuple es j pos) δ (.tup tl) δ1:=fun H Z σ ts vs Q S k=>
 bP (afl Jz) (h H Z σ ts vs _ S fun us H1 Z1 hu z1 k1 S1=>⟨by rw[hu];exact hl,fun p hp=>by
   obtain⟨a,c,S2⟩:=S1.GU hu hp;exact k _ _ _ (z1.trans a) (k1.trans c) S2⟩)
def aM(h:GQ X CL b es δ (ds.map T.sh) δ1)(hl:ds.length<=sizeLine):bO X CL b (.Tuple es j pos) δ (.sh (.tup ds)) δ1:=by
 have:=Mg (kD (pos:=pos) (j:=j) h (by simpa using hl))
 rwa [T.bG,kP]at this
def i9(h:GQ X CL b es δ tl δ1)(hl:tl.length<=sizeLine):bO X CL b (.List es pos) δ (.lst tl) δ1:=fun H Z σ ts vs Q S k=>
 bP (afm Jz) (h H Z σ ts vs _ S fun us H1 Z1 hu z1 k1 S1=>⟨by rw[hu];exact hl,fun p hp=>by
   obtain⟨c,S2⟩:=S1.sJ (g0:=[]) hu hp;exact k _ _ _ z1 (k1.trans c) S2⟩)
def B9(h:bO X CL b e δ (.sh (.bl p)) δ1)(he:∀whole,isTrue e X.env whole=(do let v ← whole;standAt e.pos;holding [v] (truthy v)):=by intro _;rfl):vU X CL b e δ p δ1:=fun H Z σ ts vs Q S k=>
 El (aeS cP he) (h H Z σ ts vs _ S fun v H1 Z1 z1 k1 S1=>⟨p,by have:=S1.view;rw[T.bG]at this;exact this.sc rfl,k H1 Z1 z1 k1 S1.pop⟩)
def Vp(h:vU X CL b e δ p δ1):vU X CL b (.UnaryOp .Not e pos) δ (!p) δ1:=fun H Z σ ts vs Q S k=>El (aeV ptS) (h H Z σ ts vs _ S fun H1 Z1 z1 k1 S1=>k H1 Z1 z1 k1 S1)
def afI(X:Cx)(e:Expr):TT:=fun σ H Q=>∀(whole:Sem Value) (pins:BA) (s:Shared),Inv X pins σ H s->wpAny (model X.prog X.w) X.A (isTrue e X.env whole) (TP X pins σ Q) X.xe s
def pwS:PW X e (afI X e):=fun whole pins s _ _ _ I h=>h whole pins s I
def TWv(X:Cx)(CL:BC)(b:Bx)(e:Expr)(δ:AR)(p:Bool)(δ':AR):Prop:=
 ∀(H Z:Hp) (σ:L2.St) (ts:Bn) (vs:BN) (Q:EN),aR X.K CL b H Z δ σ ts vs->(∀H' Z',aC Z Z'->aC H H'->aR X.K CL b H' Z' δ' σ ts vs->Q p H')->afI X e σ H Q
def aaw{t:TT}(h:PW X e t)(q:t σ H Q):afI X e σ H Q:=fun whole pins s I=>h whole pins s σ H Q I q
def J1(h:TWv X CL b e δ p δ1):vU X CL b e δ p δ1:=fun H Z σ ts vs Q S k pins s I=>h H Z σ ts vs Q S k _ pins s I
def GV(h:vU X CL b e δ p δ1):TWv X CL b (.BoolOp .And [e] pos) δ p δ1:=fun H Z σ ts vs Q S k=>aaw (Z8 ptS) (h H Z σ ts vs _ S k)
def Ca(h:vU X CL b e δ p δ1):TWv X CL b (.BoolOp .Or [e] pos) δ p δ1:=fun H Z σ ts vs Q S k=>aaw (aeT ptS) (h H Z σ ts vs _ S k)
theorem Mh(h:vU X CL b e δ p δ1)(h2:p=true->TWv X CL b (.BoolOp .And (e2::es) pos) δ1 q δ1):TWv X CL b (.BoolOp .And (e::e2::es) pos) δ (p&&q) δ1:=fun H Z σ ts vs Q S k=>
 aaw (aeU ptS pwS) (h H Z σ ts vs _ S fun H1 Z1 z1 k1 S1=>by
   cases p with
   | true=>exact RC (h2 rfl H1 Z1 σ ts vs _ S1 fun H2 Z2 z2 k2 S2=>k H2 Z2 (z1.trans z2) (k1.trans k2) S2)
   | false=>exact RB (k H1 Z1 z1 k1 S1))
theorem FH(h:vU X CL b e δ p δ1)(h2:p=false->TWv X CL b (.BoolOp .Or (e2::es) pos) δ1 q δ1):TWv X CL b (.BoolOp .Or (e::e2::es) pos) δ (p || q) δ1:=fun H Z σ ts vs Q S k=>
 aaw (aiQ ptS pwS) (h H Z σ ts vs _ S fun H1 Z1 z1 k1 S1=>by
   cases p with
   | true=>exact RC (k H1 Z1 z1 k1 S1)
   | false=>exact RB (h2 rfl H1 Z1 σ ts vs _ S1 fun H2 Z2 z2 k2 S2=>k H2 Z2 (z1.trans z2) (k1.trans k2) S2))
def Vq{op:BoolOp}(h:bO X CL b e δ t δ1):bO X CL b (.BoolOp op [e] pos) δ t δ1:=fun H Z σ ts vs Q S k=>bP (aeW cP) (h H Z σ ts vs _ S k)
def Vr(h:bO X CL b e δ (.sh (.bl p)) δ1)(h2:p=true->bO X CL b (.BoolOp .And (e2::es) pos) δ1 (.sh (.bl q)) δ1):bO X CL b (.BoolOp .And (e::e2::es) pos) δ (.sh (.bl (p&&q))) δ1:=fun H Z σ ts vs Q S k=>
 bP (aeX cP cP) (h H Z σ ts vs _ S fun v H1 Z1 z1 k1 S1=>by
   have hv:v=.bl p:=by have:=S1.view;rw[T.bG]at this;exact this.sc rfl
   refine⟨p,hv,?_⟩;cases p with
   | true=>exact RC (h2 rfl H1 Z1 σ ts vs _ S1.pop fun v H2 Z2 z2 k2 S2=>k v H2 Z2 (z1.trans z2) (k1.trans k2) S2)
   | false=>exact RB (k _ H1 Z1 z1 k1 (S1.pop.push (.bl false))))
variable{k:Int}
theorem Bh(r:aB K CL Z ds vs)(h:ux ds k=some d):∃v,ux vs k=some v/\bq K CL Z d v:=by
 unfold ux at h ⊢;rw[← r.length];cases e:O7 ds.length k with
 | none=>rw[e]at h;cases h
 | some j=>
   rw[e]at h;exact r.get h
def bV(h1:dD X CL b e1 δ (.tup ds) δ1)(h2:dD X CL b e2 δ1 (.int k) δ2)(hk:ux ds k=some d)(hs:qL e2:=by exact fun _ _=>rfl):dD X CL b (.Subscript e1 e2 pos) δ d δ2:=fun H Z σ ts vs Q S kk=>
 bP (B6 GJ cP cP hs) (h1 H Z σ ts vs _ S fun v1 H1 Z1 z1 k1 S1 r1=>h2 H1 Z1 σ ts vs _ S1 fun v2 H2 Z2 z2 k2 S2 r2=>by
   have Vs:=r1.mono k2;cases Vs with
   | tup hq rr=>
     obtain⟨v,hv,rv⟩:=Bh rr hk;exact⟨_,_,k,v,rfl,r2.sc rfl,hq,hv,kk v H2 Z2 (z1.trans z2) (k1.trans k2) S2 rv⟩)
def cY(h1:dD X CL b e1 δ (.lst ds) δ1)(h2:dD X CL b e2 δ1 (.int k) δ2)(hk:ux ds k=some d)(hs:qL e2:=by exact fun _ _=>rfl):dD X CL b (.Subscript e1 e2 pos) δ d δ2:=fun H Z σ ts vs Q S kk=>
 bP (B6 O8 cP cP hs) (h1 H Z σ ts vs _ S fun v1 H1 Z1 z1 k1 S1 r1=>h2 H1 Z1 σ ts vs _ S1 fun v2 H2 Z2 z2 k2 S2 r2=>by
   have Vs:=r1.mono k2;cases Vs with
   | lst hq rr=>
     obtain⟨v,hv,rv⟩:=Bh rr hk;exact⟨_,_,k,v,rfl,r2.sc rfl,hq,hv,kk v H2 Z2 (z1.trans z2) (k1.trans k2) S2 rv⟩)
variable{x:Str}
def Vt{c:Nat}(h1:dD X CL b e1 δ (.str x) δ1)(h2:dD X CL b e2 δ1 (.int k) δ2)(hl:x.length<=sizeLine)(hk:ux x.cps.toList k=some c)(hs:qL e2:=by exact fun _ _=>rfl):bO X CL b (.Subscript e1 e2 pos) δ (.sh (.str ⟨#[c]⟩)) δ2:=fun H Z σ ts vs Q S kk=>
 bP (B6 afr cP cP hs) (h1 H Z σ ts vs _ S fun v1 H1 Z1 z1 k1 S1 r1=>h2 H1 Z1 σ ts vs _ S1 fun v2 H2 Z2 z2 k2 S2 r2=>
   ⟨x,k,c,r1.sc rfl,r2.sc rfl,hl,hk,kk _ H2 Z2 (z1.trans z2) (k1.trans k2) (S2.push (.str _))⟩)
def yU(h1:bO X CL b e1 δ (.sh (.tup ds)) δ1)(h2:dD X CL b e2 δ1 (.int k) δ2)(hk:ux ds k=some d)(hs:qL e2:=by exact fun _ _=>rfl):bO X CL b (.Subscript e1 e2 pos) δ (.sh d) δ2:=fun H Z σ ts vs Q S kk=>
 bP (B6 GJ cP cP hs) (h1 H Z σ ts vs _ S fun v1 H1 Z1 z1 k1 S1=>h2 H1 Z1 σ _ _ _ S1 fun v2 H2 Z2 z2 k2 S2 r2=>by
   obtain⟨fp,gp,_,r,_,_⟩:=S2.rep;cases r with
   | cons r _=>
     cases r with
     | sh r=>
       cases r with
       | tup hq rr=>
         obtain⟨v,hv,rv⟩:=Bh rr hk;exact⟨_,_,k,v,rfl,r2.sc rfl,aC.A4 S2.zh hq,hv,kk v H2 Z2 (z1.trans z2) (k1.trans k2) (S2.pop.push rv)⟩)
def sL(h1:bO X CL b e1 δ (.sh (.lst ds)) δ1)(h2:dD X CL b e2 δ1 (.int k) δ2)(hk:ux ds k=some d)(hs:qL e2:=by exact fun _ _=>rfl):bO X CL b (.Subscript e1 e2 pos) δ (.sh d) δ2:=fun H Z σ ts vs Q S kk=>
 bP (B6 O8 cP cP hs) (h1 H Z σ ts vs _ S fun v1 H1 Z1 z1 k1 S1=>h2 H1 Z1 σ _ _ _ S1 fun v2 H2 Z2 z2 k2 S2 r2=>by
   obtain⟨fp,gp,_,r,_,_⟩:=S2.rep;cases r with
   | cons r _=>
     cases r with
     | sh r=>
       cases r with
       | lst hq rr=>
         obtain⟨v,hv,rv⟩:=Bh rr hk;exact⟨_,_,k,v,rfl,r2.sc rfl,S2.zh.seq hq,hv,kk v H2 Z2 (z1.trans z2) (k1.trans k2) (S2.pop.push rv)⟩)
theorem aR.sM:∀{ds:At} {us:BN} {ts:Bn} {vs:BN},aB K CL Z ds us->aR K CL b H Z δ σ ts vs->aR K CL b H Z δ σ ((ds.map T.sh).reverse++ts) (us.reverse++vs)
 | _,_,_,_,.nil,S=>S
 | _,_,ts,vs,.cons (d:=d) (v:=v) (ds:=ds) (vs:=us) r t,S=>by
   rw[asA,as2,as2,ar7,ar7];exact aR.sM t (S.push r)
theorem aR.drops(S:aR K CL b H Z δ σ (tl++ts) (us++vs))(hl:us.length=tl.length):aR K CL b H Z δ σ ts vs:=by
 induction tl generalizing us with
 | nil=>
   cases us with
   | nil=>exact S
   | cons _ _=>simp at hl
 | cons t tl ih=>
   cases us with
   | nil=>simp at hl
   | cons u us=>exact ih S.pop (by simpa using hl)
theorem aR.Pn{ds:At}(S:aR K CL b H Z δ σ ((ds.map T.sh).reverse++ts) (us.reverse++vs))(hl:us.length=ds.length):aB K CL Z ds us:=by
 obtain⟨fp,gp,e,r,nd,k⟩:=S.rep;obtain⟨g1,g2,eg,r1,r2⟩:=aJ.split (by simp[hl]) r;obtain⟨g',r',pm⟩:=r1.rev;exact r'.toF.1
section
variable{pp:Pos}{ds:At}
def Bj(hm:X.mg "len" = none)(h:dD X CL b e δ (.lst ds) δ1)(hg:Gl X "len":=by rfl)(hs:AC X e []:=by exact aZ rfl)(hpl:(backTo pos (starEach ([]:CS) X.env)).any (·.1)=false:=by rfl):bO X CL b (.Call (.Name "len" pp) [e] [] pos) δ (.sh (.int ds.length)) δ1:=fun H Z σ ts vs Q S k=>
 bP (qb GL hg hm PySem.boot_len (bY cP dZ hs) (he:=hs)) (h H Z σ ts vs _ S fun v H1 Z1 z1 k1 S1 r=>by
   cases r with
   | lst hq rr=>exact⟨_,_,rfl,.inl hq,by rw[← rr.length];exact k _ H1 Z1 z1 k1 (S1.push (.int _))⟩)
def sN(hm:X.mg "list" = none)(h:bO X CL b e δ (.sh (.lst ds)) δ1)(hg:Gl X "list":=by rfl)(hv:bootBuiltins "list" = some (.type "list"):=by rfl)(hs:AC X e []:=by exact aZ rfl):bO X CL b (.Call (.Name "list" pp) [e] [] pos) δ (.lst (ds.map T.sh)) δ1:=fun H Z σ ts vs Q S k=>
 bP (jB xm hg hm hv (bY cP dZ hs) (he:=hs)) (h H Z σ ts vs _ S fun v H1 Z1 z1 k1 S1=>by
   obtain⟨fp,gp,_,r,_,_⟩:=S1.rep;cases r with
   | cons r _=>
     cases r with
     | sh r=>
       cases r with
       | lst hq rr=>
         refine⟨_,_,rfl,.inl (S1.zh.seq hq),fun l hl=>?_⟩;obtain⟨c,S2⟩:=(aR.sM rr S1.pop).sJ (g0:=[]) (by simp[rr.length]) hl;exact k _ _ _ z1 (k1.trans c) S2)
def jd(hm:X.mg "list" = none)(h:dD X CL b e δ (.lst ds) δ1)(hi:D.aT ds=true)(hg:Gl X "list":=by rfl)(hv:bootBuiltins "list" = some (.type "list"):=by rfl)(hs:AC X e []:=by exact aZ rfl):bO X CL b (.Call (.Name "list" pp) [e] [] pos) δ (.lst (ds.map T.sh)) δ1:=fun H Z σ ts vs Q S k=>
 bP (jB xm hg hm hv (bY cP dZ hs) (he:=hs)) (h H Z σ ts vs _ S fun v H1 Z1 z1 k1 S1 r=>by
   cases r with
   | lst hq rr=>
     refine⟨_,_,rfl,.inl hq,fun l hl=>?_⟩;obtain⟨c,S2⟩:=(aR.sM (aB.kB S1.tp hi rr) S1).sJ (g0:=[]) (by simp[rr.length]) hl;exact k _ _ _ z1 (k1.trans c) S2)
def GX(K:Frag)(CL:BC){A:Type}(n:Nat)(arg:A->At)(Pre:A->Prop)(res:A->T):Sp:=fun vs H Q _=>
 ∃(W:Hp) (a:A),aC W H/\(∀c o,H c=some o->ku o=true->W c=some o)/\aB K CL W (arg a) vs/\(arg a).length=n/\Pre a/\oX CL W ∧
   ∀v H' W' fp,aC H H'->aC W W'->aC W' H'->(∀c o,W' c=some o->W c=none->H c=none)->(∀c o,H' c=some o->ku o=true->W' c=some o) →
     bz K CL H' W' (res a) v fp->fp.Nodup->(∀c∈fp,W' c=none/\H c=none)->Q v H'
variable{A:Type}{k n:Nat}{f:Addr}{fd:FuncData}{ps:Ap}{arg:A->At}{Pre:A->Prop}{res:A->T}
def aax(a:A)(F:dP X.prog X.w X.K X.mg X.base pZ k f fd ps (GX X.K CL n arg Pre res))(hr:dU k X.A)(hm:X.mg x=some (.ref f))(hk:keepIn X.K (.ref f)=true)(hb:Binds X.K fd ps [])
   (h:UC X CL b (e::es) δ (arg a) δ1) (hn:(arg a).length=n) (hp:Pre a) (hc:(res a).clean=true) (hg:Gl X x)
   (su:AD x:=by decide) (he:AC X e es:=by exact aZ rfl) (hpl:AL X pos es:=by rfl) :
   bO X CL b (.Call (.Name x pp) (e::es) [] pos) δ (res a) δ1:=fun H Z σ ts vs Q S kk=>
 bP (GD F hr hg hm hk hb .nil sG Jz su he hpl) (h H Z σ ts vs _ S fun us H1 Z1 z1 k1 S1 r=>by
   rw[asx];refine⟨H1,a,.refl _,fun _ _ q _=>q,r,hn,hp,S1.RP,fun v H' W' fp hh ww wh nw tp rt nd own=>?_⟩;obtain⟨Z',z',S'⟩:=S1.back hh S1.zh ww wh nw tp rt nd own (.inr hc);exact kk v H' Z' (z1.trans z') (k1.trans hh) S')
variable{D D':dW}{st:Stmt}{eW ajx:CU}
theorem Meets.to{E:Ends}(M:Meets K CL b Z ts vs D E)(h1:∀δ,D'.nx δ->D.nx δ)(h2:∀t δ,D'.rt t δ->D.rt t δ)(h3:∀δ,D'.bk δ->D.bk δ)(h4:∀δ,D'.ct δ->D.ct δ):Meets K CL b Z ts vs D' E:=
 ⟨fun _ _ _ _ s S k=>M.nx _ _ _ _ s S (h1 _ k),fun _ _ _ _ _ _ s S k=>M.rt _ _ _ _ _ _ s S (h2 _ _ k),fun _ _ _ _ s S k=>M.bk _ _ _ _ s S (h3 _ k),fun _ _ _ _ s S k=>M.ct _ _ _ _ s S (h4 _ k)⟩
def aA(h:D.nx δ):cQ X CL b [] δ D:=fun H Z σ ts vs E S M=>afC aac (M.nx δ σ H Z (.refl _) S h)
def bI(h:UD X CL b st δ {D with nx:=fun δ1=>cQ X CL b eW δ1 D}):cQ X CL b (st::eW) δ D:=fun H Z σ ts vs E S M=>
 afC (JN psS Mb) (h H Z σ ts vs _ S ⟨fun δ' σ' H' Z' s S' k=>k H' Z' σ' ts vs E S' (M.mono s),M.rt,M.bk,M.ct⟩)
def afK(h:bO X CL b e δ t δ1)(k:D.rt t δ1):UD X CL b (.Return (some e) pos) δ D:=fun H Z σ ts vs E S M=>om (aeY cP) (h H Z σ ts vs _ S fun v H1 Z1 z1 k1 S1=>M.rt t v H1 Z1 δ1 σ z1 S1 k)
theorem ajy(h:vU X CL b e δ p δ1)(h1:p=true->cQ X CL b eW δ1 D)(h2:p=false->cQ X CL b ajx δ1 D):UD X CL b (.If e eW ajx pos) δ D:=fun H Z σ ts vs E S M=>
 om (adH ptS Mb Mb) (h H Z σ ts vs _ S fun H1 Z1 z1 k1 S1=>by
   cases p with
   | true=>exact RC (h1 rfl H1 Z1 σ ts vs E S1 (M.mono z1))
   | false=>exact RB (h2 rfl H1 Z1 σ ts vs E S1 (M.mono z1)))
def Mi(i:Nat){pos':Pos}(h:bO X CL b e δ t δ1)(k:D.nx (δ1.set i (some t)))(hl:i<δ1.length:=by decide)(hN:X.N.Nodup:=by assumption)(hi:X.N[i]? = some x:=by rfl)(hx:Loc X.env.scope x:=by first|exact .inl rfl|exact .inr rfl)
   (hs:swapsWith e (some (.Name x pos')) pos.line X.env=pure false:=by rfl) (hf:AM X x:=by first|exact .inl rfl|exact .inr rfl|assumption):UD X CL b (.Assign [.Name x pos'] e pos) δ D:=fun H Z σ ts vs E S M=>
 om (Lz hN hi hx cP hs hf) (h H Z σ ts vs _ S fun v H1 Z1 z1 k1 S1=>M.nx _ _ H1 Z1 z1 (S1.set hl) k)
end
def entry(N:Ap)(ds:At):AR:=ds.map (fun d=>some (T.sh d))++List.replicate (N.length-ds.length) none
theorem kE{K:Frag}{CL:BC}{H Z:Hp}:∀{ds:At} {vs:BN} (n:Nat),aB K CL Z ds vs->eV K CL H Z (ds.map (fun d=>some (T.sh d))++List.replicate n none) (vs.map some++List.replicate n none) []
 | _,_,0,.nil=>.nil
 | _,_,n+1,.nil=>.skip (kE (ds:=[]) (vs:=[]) n .nil)
 | _,_,n,.cons r t=>.cons (fp:=[]) (gp:=[]) (.sh r) (kE n t)
variable{P:Program}{w:World}{st:Stmt}{f:Addr}{fd:FuncData}{N ps:Ap}{A:Type}
def uA{mg:Bz}{base:Heap}{qual:Str}{k:Nat}{arg:A->At}{Pre:A->Prop}{res:A->T}(F:kr K x qual st f fd)(S:d7 N ps (av st))
   (hb:∀(jc:Value) (Ar:Around) (outer:Db) (s:Shared) (H:Hp) (E:XK) (b:Bx) (a:A),dU k (Ar.deeper (envOfC qual (av st) s.heap.objs.size f jc))->Pre a →
     cQ (yS pZ P w K mg base N qual (av st) f jc Ar outer s H E).Z9 CL b (dF st) (entry N (arg a)) {nx:=fun _=>res a=.sh .non,rt:=fun t _=>t=res a}) :
   dP P w K mg base pZ (k+1) f fd ps (GX K CL ps.length arg Pre res):=by
 refine F.ok S (fun vs H Q E h=>?_) (fun jc Ar outer s H vs Q E hr h=>?_)
 . obtain⟨W,a,_,_,r,hl,_⟩:=h;rw[← r.length];exact hl
 . obtain⟨W,a,wh,tp,r,hl,hp,tb,kk⟩:=h;refine⟨_,Mb,hb jc Ar outer s H E ⟨H,W⟩ a hr hp H W _ [] [] _ ⟨⟨[],[],?_,.nil,atA,fun a ha=>by cases ha⟩,.refl _,.refl _,wh,fun a o q z=>?_,tp,tb⟩ ⟨fun δ' σ' H' Z' s' S' e=>?_,fun t v H' Z' δ' σ' s' S' e=>?_,fun _ _ _ _ _ _ e=>e.elim,fun _ _ _ _ _ _ e=>e.elim⟩⟩
   . unfold entry L2.start;rw[← r.length];exact kE _ r
   . have q':W a=some o:=q;have z':W a=none:=z;rw[q']at z';cases z'
   . exact kk .non H' Z' [] S'.bh S'.zz S'.zh S'.new S'.tp (by rw[show res a=.sh .non from e];exact .sh .non) atA fun a ha=>by cases ha
   . have e':t=res a:=e;subst e';obtain⟨fp,gp,_,r',nd,own⟩:=S'.rep;cases r' with
     | @cons _ _ _ _ f1 f2 r1 r2=>
       have h1:=(asX.mp nd).2.1;exact kk v H' Z' f1 S'.bh S'.zz S'.zh S'.new S'.tp r1 (asX.mp h1).1 fun a ha=>own a (ar5 _ (ase _ ha))
variable{prog:Program}{A:Around}{R:Result->Shared->Prop}{s:Shared}{elt iter:Expr}{ifs:CS}{scope:Scope}
theorem GY{target:Expr}{it acc:Value}(I:Nat->Shared->Prop)
   (turn:∀n s,I n s->wpAny (model prog w) A (pyNext it) (fun r s₁=>match r with
     | none=>R (.ok .next) s₁
     | some v=>wpAny (model prog w) A (letOwnedTupleGo target it v) (fun _ s₁'=>wpAny (model prog w) A (assign target env v) (fun _ s₂=>
         wpAny (model prog w) A (forIn ifs true fun c r=>if r=true then do let ok ← isTrue c env (eval c env);pure (ForInStep.yield ok) else pure (ForInStep.yield r)) (fun ok s₃=>
           if ok=true then wpAny (model prog w) A (eval elt env) (fun x s₄=>
             wpAny (model prog w) A (call (.builtin "list.append") [acc,x]) (fun _ s₅=>∃m,m<n/\I m s₅) (fun _ _=>False) s₄) (fun _ _=>False) s₃
           else ∃m,m<n/\I m s₃) (fun _ _=>False) s₂) (fun _ _=>False) s₁') (fun _ _=>False) s₁) (fun _ _=>False) s)
   (n:Nat) (h:I n s) :
   codeAny (model prog w) A (.compLoop (.ListComp elt [⟨target,iter,ifs,0⟩] scope pos) 0 it acc env) R s:=by
 refine codeAny_loop rfl I (fun n s hI=>?_) n h;show wpAny _ A ((compTurn (.ListComp elt [⟨target,iter,ifs,0⟩] scope pos) 0 it acc env).onRaise (fun x=>do noteFrame x env;theTreesLotGoes x)) _ _ s;refine wpAny_noted ?_;rw[compTurn_list];refine ar0 (wpAny_standAt (ar0 (atc (turn n s hI) (fun r s₁ h₁=>?_) fun _ _ h'=>h'.elim)));cases r with
 | none=>exact asd h₁
 | some v=>
   refine ar0 (atc h₁ (fun _ s₁' h₁'=>?_) fun _ _ h'=>h'.elim);refine ar0 (atc h₁' (fun _ s₂ h₂=>ar0 (atc h₂ (fun ok s₃ h₃=>?_) fun _ _ h'=>h'.elim)) fun _ _ h'=>h'.elim);cases ok with
   | false=>exact asd ⟨rfl,h₃⟩
   | true=>
     exact ar0 (ar0 (atc h₃ (fun x s₄ h₄=>ar0 (atc h₄ (fun _ s₅ h₅=>asd (asd ⟨rfl,h₅⟩)) fun _ _ h'=>h'.elim)) fun _ _ h'=>h'.elim))
abbrev _root_.Ch:=List (Str×NameKind)
abbrev _root_.Ee:=List (Str×Addr)
def jK(env:Env):Ch->Ee->Ee
 | [],cs=>cs
 | (n,k)::r,cs=>jK env r (if k == .free then(n,(env.cells.lookup n).getD 0)::cs else cs)
def Em(h:∀x∈scope.names,x.2=.free->∃c,env.cells.lookup x.1=some c):closureFor scope env=pure (jK env scope.names []):=by
 have go:∀(l:Ch) (cs:Ee),(∀x∈l,x.2=.free->∃c,env.cells.lookup x.1=some c) →
     (forIn l cs fun x r=>match x with|(name,kind)=>if (kind==NameKind.free)=true then do let a ← cellOf env name;pure (ForInStep.yield ((name,a)::r)) else pure (ForInStep.yield r):Sem Ee)=pure (jK env l cs):=by
   intro l
   induction l with
   | nil=>intro cs _;rfl
   | cons x r ih=>
     intro cs hx;obtain⟨n,k⟩:=x;rw[List.forIn_cons];by_cases hk:k=.free
     . subst hk;obtain⟨c,hc⟩:=hx (n,.free) ar4 rfl;have e:cellOf env n=pure c:=by unfold cellOf;rw[hc]
       simp only[atV,auJ,e,pure_bind];rw[ih _ fun y hy=>hx y (ar9 _ hy)];simp only[jK,atV,auJ];rw[hc];rfl
     . have hb:(k==NameKind.free)=false:=by simpa using hk
       simp only[hb,at4,at5,pure_bind];rw[ih _ fun y hy=>hx y (ar9 _ hy)];simp only[jK,hb,at4,at5]
 unfold closureFor;have:=go scope.names [] h;simp only[bind_pure]at this ⊢;exact this
theorem vX{env:Env}:∀{l:Ch} {cs:Ee} {y:Str} {c:Addr},(∀x∈l,x.2=.free->∃c,env.cells.lookup x.1=some c)->(∀y c,cs.lookup y=some c->env.cells.lookup y=some c) →
   (jK env l cs).lookup y=some c->env.cells.lookup y=some c
 | [],cs,y,c,_,h,e=>h y c e
 | (n,k)::r,cs,y,c,hx,h,e=>by
   refine vX (l:=r) (fun z hz=>hx z (ar9 _ hz)) (fun z d hz=>?_) e;by_cases hk:k=.free
   . subst hk;obtain⟨c',hc⟩:=hx (n,.free) ar4 rfl;simp only[atV,auJ,hc,Option.getD_some,asR]at hz;by_cases hzn:(z==n)=true
     . rw[hzn]at hz;have:z=n:=by simpa using hzn
       subst this;cases hz;exact hc
     . have:(z==n)=false:=by simpa using hzn
       rw[this]at hz;exact h z d hz
   . have hb:(k==NameKind.free)=false:=by simpa using hk
     rw[hb]at hz;exact h z d hz
theorem Aw{env:Env}{y:Str}:∀{l:Ch} {cs:Ee},(∃c,cs.lookup y=some c)->∃c,(jK env l cs).lookup y=some c
 | [],cs,h=>h
 | (n,k)::r,cs,h=>by
   refine Aw (l:=r) ?_;by_cases hk:(k==NameKind.free)=true
   . rw[ass hk,asR];by_cases hy:(y==n)=true
     . rw[hy];exact⟨_,rfl⟩
     . have:(y==n)=false:=by simpa using hy
       rw[this];exact h
   . rw[ash hk];exact h
theorem vY{env:Env}{y:Str}:∀{l:Ch} {cs:Ee},l.lookup y=some .free->∃c,(jK env l cs).lookup y=some c
 | [],_,h=>by simp at h
 | (n,k)::r,cs,h=>by
   rw[asR]at h;by_cases hy:(y==n)=true
   . rw[hy]at h;cases h;refine Aw (l:=r) ?_;rw[ass (by rfl),asR,hy];exact⟨_,rfl⟩
   . have:(y==n)=false:=by simpa using hy
     rw[this]at h;exact vY (l:=r) h
def cR(X:Cx)(scope:Scope)(Nc:Ap)(C:Addr)(s:Shared)(H:Hp)(fp:BM):Cx where
 prog:=X.prog
 w:=X.w
 K:=X.K
 mg:=X.mg
 base:=X.base
 A:=X.A
 N:=Nc
 s₀:=s
 H₀:=H
 env:=compEnvC scope (jK X.env scope.names []) C X.env
 outer:=X.stack
 stack:=X.stack
 ex:=fp
 fn:=fun _=>false
 calm:=X.calm
 pn:=[]
 xe:=fun _ _=>False
abbrev _root_.Bi:=List Nat
structure qd(X:Cx)(scope:Scope)(x:Str)(Nc:Ap)(ix:Bi):Prop where
 kind:scope.kind=.function
 GZ:∀y∈scope.names,y.2 ≠ .cell
 nd:Nc.Nodup
 names:∀y∈scope.names,y.2=.local->scope.names.lookup y.1=some .local
 own:scope.names.lookup x=some .local
 frees:∀y∈scope.names,y.2=.free->scope.names.lookup y.1=some .free/\(X.env.kindOf y.1=some .cell\/X.env.kindOf y.1=some .free)
 hd:Nc=x::ix.filterMap (X.N[·]?)
 ixs:∀i∈ix,∃y,X.N[i]? = some y/\scope.names.lookup y=some .free
theorem iG{env:Env}:∀{names:Ch} {x:Str} {k:NameKind},names.lookup x=some k ->
   (names.map fun(n,k)=>if (k==NameKind.free&&env.scope.kind == .function&&env.kindOf n==some .cell) then(n,NameKind.cell) else(n,k)).lookup x=some (if (k==NameKind.free&&env.scope.kind == .function&&env.kindOf x==some .cell) then .cell else k)
 | [],_,_,h=>by simp at h
 | (n,k')::r,x,k,h=>by
   have ih:=@iG env r x k;show List.lookup x ((if (k'==NameKind.free&&env.scope.kind == .function&&env.kindOf n==some .cell)=true then(n,NameKind.cell) else(n,k'))::_)=_;cases hx:x==n with
   | true=>
     simp only[asR,hx]at h;cases h;have e:x=n:=by simpa using hx
     subst e;split<;>simp[asR]
   | false=>
     simp only[asR,hx]at h;split
     . simp only[asR,hx];exact ih h
     . simp only[asR,hx];exact ih h
theorem lS{env:Env}:∀{names:Ch} {x:Str},names.lookup x=none ->
   (names.map fun(n,k)=>if (k==NameKind.free&&env.scope.kind == .function&&env.kindOf n==some .cell) then(n,NameKind.cell) else(n,k)).lookup x=none
 | [],_,_=>rfl
 | (n,k')::r,x,h=>by
   have ih:=@lS env r x;show List.lookup x ((if (k'==NameKind.free&&env.scope.kind == .function&&env.kindOf n==some .cell)=true then(n,NameKind.cell) else(n,k'))::_)=_;cases hx:x==n with
   | true=>simp only[asR,hx]at h;cases h
   | false=>
     simp only[asR,hx]at h;split
     . simp only[asR,hx];exact ih h
     . simp only[asR,hx];exact ih h
variable{Nc:Ap}{pins:BA}
def RQ{JK:BA}{σ':L2.St}{s':Shared}{h'':Heap}(I:Inv X pins σ H s)(oq:∀b∈fp,AZ X pins H b)
   (J:Inv (cR X scope Nc s.heap.objs.size s H fp) JK σ' H' s') (hs:Heap.SameBut s.heap.objs.size s'.heap h''):Inv X pins σ H' {s' with heap:=h''}:=by
 have un:Un (ur X.stack) fp H H' s.heap s'.heap:=J.base;have un2:Un (ur X.stack) fp H H' s.heap h'':=by
   have ne:∀b o,s.heap.get? b=some o->b≠s.heap.objs.size:=fun b o e=>as8 (asH e);refine⟨fun b o e n hb hx=>(hs.2 b (ne b o e)).trans (un.keep b o e n hb hx),fun b o e n hb hx=>?_,un.free,fun b o e hx=>?_,un.BU,un.eU,un.BV⟩
   . obtain⟨sl,q⟩:=un.slot b o e n hb hx;exact⟨sl,(hs.2 b (ne b o e)).trans q⟩
   . obtain⟨o',q⟩:=un.there b o e hx;exact⟨o',(hs.2 b (ne b o e)).trans q⟩
 have nC:H' s.heap.objs.size=none:=J.free;have cW:uq X.prog X.w H' h'':=fun b u e=>by
   refine(J.cW b u e).AX (fun c v hc q=>(hs.2 c ?_).trans q) (fun _ q=>q) fun _ _ q=>q;rintro rfl;rcases hc with z|z
   . subst z;rw[nC]at e;cases e
   . rw[nC]at z;cases z
 obtain⟨hh,g,d,t,os'⟩:=s';obtain rfl:os'=s.os:=J.os;show L2.Inv X pins σ H' {s with heap:=h'',gens:=g,drawn:=d,toks:=t};exact I.call (h':=h'') (g':=g) (d':=d) (t':=t) (ch:=fp) un2 cW J.bare fun b hb=>⟨(oq b hb).2.2.2.1,(oq b hb).2.1,(oq b hb).2.2.2.2.1,(oq b hb).2.2.2.2.2⟩
def afL(X:Cx):CS->TT
 | []=>fun _ H Q=>Q true H
 | [c]=>Vh X c
 | _=>fun _ _ _=>False
def Vu(I:Inv X pins σ H s)(h:afL X ifs σ H Q)(hx:X.xe=fun _ _=>False) :
   wpAny (model X.prog X.w) X.A (forIn ifs true fun c r=>if r=true then do let ok ← isTrue c X.env (eval c X.env);pure (ForInStep.yield ok) else pure (ForInStep.yield r)) (TP X pins σ Q) (fun _ _=>False) s:=by
 match ifs,h with
 | [],h=>exact wpAny_tests_nil ⟨H,I,h⟩
 | [c],h=>
   have:=h pins s I;rw[hx]at this;exact wpAny_tests_one this
def TIv(X:Cx)(CL:BC)(b:Bx)(ifs:CS)(δ:AR)(p:Bool):Prop:=
 match ifs with
 | []=>p=true
 | [c]=>vU X CL b c δ p δ
 | _=>False
theorem TIv.sem(h:TIv X CL b ifs δ p)(S:aR X.K CL b H Z δ σ [] [])
   (k:∀H' Z',aC Z Z'->aC H H'->aR X.K CL b H' Z' δ σ [] []->Q p H'):afL X ifs σ H Q:=by
 match ifs,h with
 | [],h=>
   have e:p=true:=h;subst e;exact k H Z (.refl _) (.refl _) S
 | [c],h=>exact(show vU X CL b c δ p δ from h) H Z σ [] [] Q S k
def kF:(T.lst ts).clean=T.cM ts:=by rw[T.clean]
theorem Cb{g:D->T}:∀{ds:At},(∀d∈ds,(g d).clean=true)->T.cM (ds.map g)=true
 | [],_=>by rw[at6,T.cM]
 | d::ds,h=>by
   rw[asA,T.cM,h d ar4,Cb fun e he=>h e (ar9 _ he)];rfl
theorem aJ.at:∀{tl:Bn} {us:BN} {fp:BM} {j:Nat} {t:T},aJ K CL H Z tl us fp->tl[j]? = some t->∃v f1 f2 f3,us[j]? = some v/\fp=f1++(f2++f3)/\bz K CL H Z t v f2 ∧
   ∀{H':Hp} {t':T} {v':V} {g:BM},(∀a∈f1++f3,H' a=H a)->bz K CL H' Z t' v' g->aJ K CL H' Z (tl.set j t') (us.set j v') (f1++(g++f3))
 | _,_,_,_,_,.nil,e=>by simp at e
 | _,_,_,0,_,.cons (fp:=fp) (gp:=gp) r q,e=>by
   simp at e;subst e;exact⟨_,[],fp,gp,rfl,rfl,r,fun {H' t' v' g} k r'=>aJ.cons (fp:=g) (gp:=gp) r' (aJ.mono (fp:=gp) (.refl _) (fun a ha=>k a (by simpa using ha)) q)⟩
 | _,_,_,j+1,t,.cons (fp:=fp) (gp:=gp) r q,e=>by
   obtain⟨v,f1,f2,f3,h1,h2,h3,h4⟩:=aJ.at (j:=j) (t:=t) q (by simpa using e);refine⟨v,fp++f1,f2,f3,by simpa using h1,by rw[h2,List.append_assoc],h3,fun k r'=>?_⟩;rw[ar7];exact .cons (r.mono (.refl _) fun a ha=>k a (by simp[ha])) (h4 (fun a ha=>k a (by rw[ar7];exact ar5 _ ha)) r')
variable{α:Type}
def c9{l:List α}{x:α}(h:l[i]? = some x):l.set i x=l:=by
 apply auG;intro j;rw[List.getElem?_set];split
 . rename_i e;subst e;split
   . exact h.symm
   . rename_i h2;rw[atd We]
 . rfl
variable{gp:BM}
theorem aR.write{f1 f2 f3 g Pp:BM}(S:aR K CL b H Z δ σ ts vs)(nd:((f1++(f2++f3))++gp).Nodup)(own:∀c∈(f1++(f2++f3))++gp,Z c=none/\b.B c=none)(ha:a∈f2)
   (hH:∃o,H a=some o) (e':eV K CL (upd H a (.lst xs)) Z δ2 σ (f1++(g++f3))) (r':aJ K CL (upd H a (.lst xs)) Z tl us Pp) (pm:((f1++(g++f3))++Pp).Nodup) (sub:∀c∈(f1++(g++f3))++Pp,c∈(f1++(f2++f3))++gp) :
   aR K CL b (upd H a (.lst xs)) Z δ2 σ tl us:=by
 have oa:=own a (by simp[ha]);refine⟨⟨_,_,e',r',pm,fun c hc=>own c (sub c hc)⟩,fun c o q=>?_,S.zz,fun c o q=>?_,S.new,fun c o q i=>?_,S.tab⟩
 . rw[ak (bL q oa.2)];exact S.bh c o q
 . rw[ak (bL q oa.1)];exact S.zh c o q
 . by_cases hc:c=a
   . subst hc;rw[aD]at q;cases q;cases i
   . rw[ak hc]at q;exact S.tp c o q i
theorem aR.append(S:aR K CL b H Z δ σ (t::ts) (v::vs))(hi:δ[i]? = some (some (.lst tl))) :
   ∃a us,σ[i]? = some (some (.ref a))/\H a=some (.lst us)/\us.length=tl.length/\aR K CL b (upd H a (.lst (us++[v]))) Z (δ.set i (some (.lst (tl++[t])))) σ ts vs:=by
 obtain⟨fp,gp,e,r,nd,k⟩:=S.rep;obtain⟨v0,f1,f2,f3,hv,oq,rt,put,_⟩:=e.get hi;subst oq;cases rt with
 | @lst a us _ g ha rs=>
   cases r with
   | @cons _ _ _ _ ft gr q1 q2=>
     have ne:∀c∈(f1++(g++f3))++(ft++gr),c≠a:=fun c hc e=>by
       subst e;have hp:((f1++((c::g)++f3))++(ft++gr)).Perm (c::((f1++(g++f3))++(ft++gr))):=by
         rw[asO,← asO];exact(atq.append_right _)
       exact(as6.mp (hp.nodup_iff.mp nd)).1 hc
     refine⟨a,us,hv,ha,rs.length.symm,?_⟩;have r1:bz K CL (upd H a (.lst (us++[v]))) Z (.lst (tl++[t])) (.ref a) (a::(g++(ft++[]))):=
       .lst aD (aJ.app (rs.mono (.refl _) fun c hc=>ak (ne c (by simp[hc]))) (.cons (q1.mono (.refl _) fun c hc=>ak (ne c (by simp[hc]))) .nil))
     have e2:=put (H':=upd H a (.lst (us++[v]))) (.refl _) (fun c hc=>ak (ne c (by
       rcases asf.mp hc with h|h
       . simp[h]
       . simp[h]))) r1
     rw[c9 hv]at e2;have hp:((f1++((a::(g++(ft++[])))++f3))++gr).Perm ((f1++((a::g)++f3))++(ft++gr)):=by
       simp only[asx,asO,ar7];refine asY f1 (List.Perm.cons a (asY g ?_));rw[← ar7,← ar7];exact asL.append_right gr
     exact S.write nd k (ar4) ⟨_,ha⟩ e2 (q2.mono (.refl _) fun c hc=>ak (ne c (by simp[hc]))) (hp.nodup_iff.mpr nd) fun c hc=>hp.mem_iff.mp hc
theorem aR.setAt(S:aR K CL b H Z δ σ (t::ts) (v::vs))(hi:δ[i]? = some (some (.lst tl)))(hj:j<tl.length) :
   ∃a us,σ[i]? = some (some (.ref a))/\H a=some (.lst us)/\us.length=tl.length/\aR K CL b (upd H a (.lst (us.set j v))) Z (δ.set i (some (.lst (tl.set j t)))) σ ts vs:=by
 obtain⟨fp,gp,e,r,nd,k⟩:=S.rep;obtain⟨v0,f1,f2,f3,hv,oq,rt,put,_⟩:=e.get hi;subst oq;cases rt with
 | @lst a us _ g ha rs=>
   cases r with
   | @cons _ _ _ _ ft gr q1 q2=>
     have ne:∀c∈(f1++(g++f3))++(ft++gr),c≠a:=fun c hc e=>by
       subst e;have hp:((f1++((c::g)++f3))++(ft++gr)).Perm (c::((f1++(g++f3))++(ft++gr))):=by
         rw[asO,← asO];exact(atq.append_right _)
       exact(as6.mp (hp.nodup_iff.mp nd)).1 hc
     refine⟨a,us,hv,ha,rs.length.symm,?_⟩;obtain⟨vj,g1,g2,g3,_,hg,_,set⟩:=rs.at (ar6 hj);subst hg;have r1:bz K CL (upd H a (.lst (us.set j v))) Z (.lst (tl.set j t)) (.ref a) (a::(g1++(ft++g3))):=
       .lst aD (set (fun c hc=>ak (ne c (by
         rcases asf.mp hc with h|h
         . simp[h]
         . simp[h]))) (q1.mono (.refl _) fun c hc=>ak (ne c (by simp[hc]))))
     have e2:=put (H':=upd H a (.lst (us.set j v))) (.refl _) (fun c hc=>ak (ne c (by
       rcases asf.mp hc with h|h
       . simp[h]
       . simp[h]))) r1
     rw[c9 hv]at e2;have hp:((f1++((a::(g1++(ft++g3)))++f3))++gr).Perm ((f1++((a::(g1++g3))++f3))++(ft++gr)):=by
       simp only[asO,ar7];refine asY f1 (List.Perm.cons a (asY g1 ?_));have:=(asL (l₁:=ft) (l₂:=g3++f3)).append_right gr;simp only[ar7]at this;exact this
     have sb:((f1++((a::(g1++g3))++f3))++(ft++gr)).Sublist ((f1++((a::(g1++(g2++g3)))++f3))++(ft++gr)):=by
       refine asW (asW (asZ _) (asW (List.Sublist.cons₂ a ?_) (asZ _))) (asZ _);exact asW (asZ _) (atr _ _)
     exact S.write nd k (ar4) ⟨_,ha⟩ e2 (q2.mono (.refl _) fun c hc=>ak (ne c (by simp[hc]))) (hp.nodup_iff.mpr (nd.sublist sb)) fun c hc=>sb.subset (hp.mem_iff.mp hc)
section
variable{tl0:Bn}{D:dW}{pp pa pb:Pos}
def afM(i:Nat)(h0:δ[i]? = some (some (.lst tl0)))(h:bO X CL b e δ t δ1)(h1:δ1[i]? = some (some (.lst tl)))(hl:tl.length<sizeLine)(k:D.nx (δ1.set i (some (.lst (tl++[t])))))
   (hi:X.N[i]? = some x:=by rfl) (hv:Vis X.env.scope x:=by first|exact Or.inl rfl|exact Or.inr (Or.inl rfl)|exact Or.inr (Or.inr rfl)) (hd:AD x:=by decide) (ko:AE x:=by decide)
   (gy:attributeBase (.Name x pp) "append" X.env (eval (.Name x pp) X.env)=eval (.Name x pp) X.env:=by rfl)
   (qN:AB X pb e:=by rfl)
   (hline:(pa.endLine==pb.line)=true:=by rfl) (hs:AC X e []:=by exact aZ rfl) (G0:swapsWith (.Call (.Attribute (.Name x pp) "append" pa) [e] [] pb) none pos.line X.env=pure false:=by rfl) :
   UD X CL b (.Expr (.Call (.Attribute (.Name x pp) "append" pa) [e] [] pb) pos) δ D:=fun H Z σ ts vs E S M=>
 om (wY (Fw atJ PySem.F.slot_list_append PySem.F.type_list_append yT (gw hi hv hd ko) (bY cP dZ hs) gy qN hline hs rfl) G0) (by
   obtain⟨v0,e0,r0⟩:=S.look h0;refine⟨v0,e0,?_,?_⟩
   . rw[T.bG]at r0;cases r0 with
     | lst hq _=>exact .inl ⟨rfl,_,hq⟩
   . refine h H Z σ ts vs _ S fun v H1 Z1 z1 k1 S1=>?_;obtain⟨a,us,ea,ha,hu,S2⟩:=S1.append h1;rw[e0]at ea;cases ea;exact⟨a,us,v,rfl,rfl,ha,by rw[hu];exact hl,M.nx _ σ _ Z1 z1 S2 k⟩)
end
def ajB:Option DO->DO
 | some (some t)=>some (.sh t.bG)
 | _=>none
def shO:Option DO->DO
 | some (some (T.sh d))=>some (.sh d)
 | _=>none
def J2(δ:AR)(ix:Bi):AR:=ix.map fun i=>ajB δ[i]?
def J3(δ:AR)(ix:Bi):AR:=ix.map fun i=>shO δ[i]?
theorem J4(S:aR K CL b H Z δ σ ts vs):∀(ix:Bi) (H':Hp),eV K CL H' H (J2 δ ix) (ix.map fun i=>(σ[i]?).getD none) []
 | [],_=>.nil
 | i::r,H'=>by
   have ih:=J4 S r H';show eV K CL H' H (ajB δ[i]?::J2 δ r) (((σ[i]?).getD none)::r.map fun i=>(σ[i]?).getD none) [];cases e:δ[i]? with
   | none=>exact .skip ih
   | some o=>
     cases o with
     | none=>exact .skip ih
     | some t=>
       obtain⟨v,hv,rv⟩:=S.look e;rw[hv];exact .cons (fp:=[]) (gp:=[]) (.sh rv) ih
theorem J5(S:aR K CL b H Z δ σ ts vs):∀(ix:Bi) (H':Hp),eV K CL H' Z (J3 δ ix) (ix.map fun i=>(σ[i]?).getD none) []
 | [],_=>.nil
 | i::r,H'=>by
   have ih:=J5 S r H';show eV K CL H' Z (shO δ[i]?::J3 δ r) (((σ[i]?).getD none)::r.map fun i=>(σ[i]?).getD none) [];cases e:δ[i]? with
   | none=>exact .skip ih
   | some o=>
     cases o with
     | none=>exact .skip ih
     | some t=>
       cases t with
       | sh d=>
         obtain⟨v,hv,rv⟩:=S.Vk e;rw[hv];exact .cons (fp:=[]) (gp:=[]) (.sh rv) ih
       | tup _=>exact .skip ih
       | lst _=>exact .skip ih
       | ins _ _=>exact .skip ih
       | uz _=>exact .skip ih
       | dct _=>exact .skip ih
       | pin _ _=>exact .skip ih
       | lz _ _ _=>exact .skip ih
section
variable{ds:At}
structure Comes(X:Cx)(CL:BC)(b:Bx)(δ1:AR)(σ:L2.St)(ts:Bn)(vs:BN)(Z H:Hp)(ds:At)(J:It)(H1:Hp):Prop where
 ex:∃Z1 us,aC Z Z1/\aC H H1/\aR X.K CL b H1 Z1 δ1 σ ts vs/\aB X.K CL Z1 ds us/\(∀i H2,aC Z1 H2->i<ds.length->J.go i H2) ∧
   (∀i H2 x H',aC Z1 H2->i<ds.length->J.yld i H2 x H'->H'=H2/\us[i]? = some x)/\(∀H2,aC Z1 H2->J.stop ds.length H2)
def Vv(X:Cx)(CL:BC)(b:Bx)(tg e:Expr)(δ:AR)(ds:At)(δ1:AR):Prop:=
 ∃wi,PI X tg e wi/\∀(H Z:Hp) (σ:L2.St) (ts:Bn) (vs:BN) (R:It->Hp->Prop),aR X.K CL b H Z δ σ ts vs->(∀J H1,Comes X CL b δ1 σ ts vs Z H ds J H1->R J H1)->wi σ H R
theorem g7{tg:Expr}(h:bO X CL b iter δ (.sh (.lst ds)) δ1):Vv X CL b tg iter δ ds δ1:=by
 refine⟨_,aad cP,fun H Z σ ts vs R S k=>h H Z σ ts vs _ S fun v H1 Z1 z1 k1 S1=>?_⟩;obtain⟨fp,gp,_,r,_,_⟩:=S1.rep;cases r with
 | cons r _=>
   cases r with
   | sh r=>
     cases r with
     | @lst a us _ hq rr=>
       refine⟨a,rfl,⟨us,S1.zh.seq hq⟩,k _ _ ⟨Z1,us,z1,k1,S1.pop,rr,fun i H2 s hi=>?_,fun i H2 y H' s hi hy=>⟨hy.1,hy.2 us (s.seq hq)⟩,fun H2 s=>⟨us,s.seq hq,by rw[rr.length];exact asp _⟩⟩⟩;have hi':i<us.length:=by rw[← rr.length];exact hi
       exact⟨us,us[i],s.seq hq,by simp[hi']⟩
theorem G3{tg:Expr}(h:bO X CL b iter δ (.sh (.tup ds)) δ1):Vv X CL b tg iter δ ds δ1:=by
 refine⟨_,ae8 cP,fun H Z σ ts vs R S k=>h H Z σ ts vs _ S fun v H1 Z1 z1 k1 S1=>?_⟩;obtain⟨fp,gp,_,r,_,_⟩:=S1.rep;cases r with
 | cons r _=>
   cases r with
   | sh r=>
     cases r with
     | @tup a us _ hq rr=>
       refine⟨a,rfl,⟨us,aC.A4 S1.zh hq⟩,k _ _ ⟨Z1,us,z1,k1,S1.pop,rr,fun i H2 s hi=>?_,fun i H2 y H' s hi hy=>⟨hy.1,hy.2 us (aC.A4 s hq)⟩,fun H2 s=>⟨us,aC.A4 s hq,by rw[rr.length];exact asp _⟩⟩⟩;have hi':i<us.length:=by rw[← rr.length];exact hi
       exact⟨us,us[i],aC.A4 s hq,by simp[hi']⟩
def cS(lo:Int)(n:Nat):At:=(List.range n).map fun(i:Nat)=>D.int (lo+i)
def Vw(lo:Int)(n:Nat):aB K CL Z (cS lo n) ((List.range n).map fun(i:Nat)=>V.int (lo+i)):=by
 unfold cS;generalize List.range n=l
 induction l with
 | nil=>exact .nil
 | cons i r ih=>exact .cons (.int _) ih
def e9{tg:Expr}{pr pc:Pos}{n:Int}(hm:X.mg "range" = none)(h:dD X CL b iter δ (.int n) δ1)(hn:-(2 ^ 62)<=n/\n<2 ^ 62)(hg:Gl X "range")(pY:starEach [iter] X.env=[(false,eval iter X.env)]:=by rfl)(am7:AC X iter []:=by exact aZ rfl) :
   Vv X CL b tg (.Call (.Name "range" pr) [iter] [] pc) δ (cS 0 n.toNat) δ1:=by
 refine⟨_,Rl hg hm (bY cP dZ am7) pY,fun H Z σ ts vs R S k=>h H Z σ ts vs _ S fun v H1 Z1 z1 k1 S1 r=>⟨n,by rw[r.sc rfl],hn.1,hn.2,k _ _ ⟨Z1,_,z1,k1,S1,Vw 0 n.toNat,fun i H2 s hi=>?_,fun i H2 y H' s hi hy=>?_,fun H2 s=>?_⟩⟩⟩
 . show i<n.toNat;have:(cS 0 n.toNat).length=n.toNat:=by simp[cS]
   omega
 . have hi':i<n.toNat:=by simpa [cS] using hi
   refine⟨hy.1,?_⟩;rw[asi,atj hi',hy.2];rfl
 . show n.toNat<=(cS 0 n.toNat).length;simp[cS]
abbrev _root_.Ev:=Nat->AR->Prop
def afO{D:dW}{eW:CU}(i:Nat){pos':Pos}(P:Ev)(h:Vv X CL b (.Name x pos') iter δ ds δ1)(h0:P 0 δ1)(hl:∀j δ,P j δ->i<δ.length)
   (hs:∀j d δ,ds[j]? = some d->P j δ->cQ X CL b eW (δ.set i (some (.sh d))) {nx:=P (j+1),rt:=D.rt,bk:=D.nx,ct:=P (j+1)}) (hd:∀δ,P ds.length δ->D.nx δ)
   (hp:PassesOwn (model X.prog X.w) X.A X.env X.xe) (hc:X.calm=true) (hN:X.N.Nodup) (hi:X.N[i]? = some x) (hx:Loc X.env.scope x) (hf:AM X x) (hq:AN X iter:=by intro _;rfl) :
   UD X CL b (.For (.Name x pos') iter eW [] pos) δ D:=fun H Z σ ts vs E S M=>by
 obtain⟨wi,pi,hw⟩:=h;refine om (GA hp hc pi (oz hN hi hx hf) Mb hq) (hw H Z σ ts vs _ S fun J H1 zz=>?_);obtain⟨Z1,us,z1,k1,S1,rr,go,yl,st⟩:=zz;refine⟨fun j m σ H2=>m=ds.length-j/\j<=ds.length/\∃Z2 δ2,aC Z1 Z2/\aR X.K CL b H2 Z2 δ2 σ ts vs/\P j δ2,⟨_,rfl,asU _,Z1,δ1,.refl _,S1,h0⟩,?_⟩;rintro j m σ H2 ⟨rfl,hj,Z2,δ2,s,S2,p2⟩;by_cases m7:j<ds.length
 . refine .inr ⟨go j H2 (s.trans S2.zh) m7,fun σ' H'=>∃Z2 δ2,aC Z1 Z2/\aR X.K CL b H' Z2 δ2 σ' ts vs/\P (j+1) δ2,fun σ' H' h=>⟨ds.length-(j+1),We,rfl,m7,h⟩,fun y H' hy=>?_⟩;obtain⟨e,hu⟩:=yl j H2 y H' (s.trans S2.zh) m7 hy;subst e;obtain⟨d,Gu,rd⟩:=rr.aar hu;have S3:=(S2.push (rd.mono s)).set (hl j δ2 p2);exact hs j d δ2 Gu p2 _ Z2 _ ts vs _ S3 ⟨fun δ' σ' H' Z' s' S' k=>⟨Z',δ',s.trans s',S',k⟩,fun t v H' Z' δ' σ' s' S' k=>M.rt t v H' Z' δ' σ' (z1.trans (s.trans s')) S' k,fun δ' σ' H' Z' s' S' k=>M.nx δ' σ' H' Z' (z1.trans (s.trans s')) S' k,fun δ' σ' H' Z' s' S' k=>⟨Z',δ',s.trans s',S',k⟩⟩
 . have e:j=ds.length:=by omega
   subst e;exact .inl ⟨st H2 (s.trans S2.zh),M.nx δ2 σ H2 Z2 (z1.trans s) S2 (hd δ2 p2)⟩
def Block(X:Cx)(CL:BC)(scope:Scope)(Nc:Ap)(ifs:CS)(elt:Expr)(δc:AR)(ds:At)(p:D->Bool)(g:D->T):Prop:=
 ∀C s0 H0 f0 b' d,d∈ds->TIv (cR X scope Nc C s0 H0 f0) CL b' ifs (some (.sh d)::δc) (p d)/\(p d=true->bO (cR X scope Nc C s0 H0 f0) CL b' elt (some (.sh d)::δc) (g d) (some (.sh d)::δc))
variable{δc:AR}{p:D->Bool}{g:D->T}
end
variable{n:Nat}
def yV(h:Nat.ble n 1000=true):n<=sizeLine:=aty (jC (ar8 h))
structure Vn(X:Cx)(i:Nat)(x:Str):Prop where
 hi:X.N[i]? = some x
 hv:Vis X.env.scope x
 hd:(x==("__debug__":Str))=false
 ko:(x==("__classdict__":Str))=false
structure Ln(X:Cx)(i:Nat)(x:Str):Prop extends Vn X i x where
 loc:Loc X.env.scope x
 hf:X.fn x=true\/X.env.scope.names.lookup x=some .local
structure Gx(X:Cx):Prop where
 nd:X.N.Nodup
 calm:X.calm=true
 xe:PassesOwn (model X.prog X.w) X.A X.env X.xe
structure Fc(X:Cx)(CL:BC)(x:Str)(k n:Nat){A:Type}(arg:A->At)(Pre:A->Prop)(res:A->T):Prop where
 ex:∃f fd ps,dP X.prog X.w X.K X.mg X.base pZ k f fd ps (GX X.K CL n arg Pre res)/\X.mg x=some (.ref f)/\keepIn X.K (.ref f)=true/\Binds X.K fd ps []
 room:dU k X.A
section
variable{d:L3.D}{pp:Pos}{D:dW}{eW:CU}{ds:At}
def v_(n:Vn X i x)(h:δ[i]? = some (some (.sh d)):=by rfl):bO X CL b (.Name x pos) δ (.sh d) δ:=afE i n.hi n.hv n.hd n.ko h
def vF(n:Vn X i x)(h:δ[i]? = some (some t):=by rfl):bO X CL b (.Name x pos) δ (.sh t.bG) (δ.set i (some (.sh t.bG))):=aat i n.hi n.hv n.hd n.ko h
def vM(n:Vn X i x)(h:δ[i]? = some (some t):=by rfl):bO X CL b (.Name x pos) δ t (δ.set i none):=aau i n.hi n.hv n.hd n.ko h
def vB(n:Vn X i x)(h:δ[i]? = some (some t):=by rfl):dD X CL b (.Name x pos) δ t.bG δ:=afF i n.hi n.hv n.hd n.ko h
def m8(h:dD X CL b e δ (.int k) δ1):bO X CL b (.UnaryOp .USub e pos) δ (.sh (.int (-k))) δ1:=fun H Z σ ts vs Q S kk=>
 bP (ai1 afi cP) (h H Z σ ts vs _ S fun v H1 Z1 z1 k1 S1 r=>⟨k,r.sc rfl,kk _ H1 Z1 z1 k1 (S1.push (.int _))⟩)
def vL(n:Vn X i x)(h:δ[i]? = some (some (.lst (ds.map T.sh))):=by rfl):dD X CL b (.Name x pos) δ (.lst ds) δ:=by
 have:=vB (CL:=CL) (b:=b) (pos:=pos) n h
 rwa [T.bG,kP]at this
def c_{k:Nat}{A:Type}{arg:A->At}{Pre:A->Prop}{res:A->T}(a:A)(F:Fc X CL x k n arg Pre res)(hg:Gl X x)(h:UC X CL b (e::es) δ (arg a) δ1)(hp:Pre a)(hc:(res a).clean=true)(hn:(arg a).length=n:=by rfl)
   (su:AD x:=by decide) (he:AC X e es:=by exact aZ rfl) (hpl:AL X pos es:=by rfl) :
   bO X CL b (.Call (.Name x pp) (e::es) [] pos) δ (res a) δ1:=by
 obtain⟨f,fd,ps,F1,m,k,b⟩:=F.ex;exact aax a F1 F.room m k b h hn hp hc hg su he hpl
def aK{pos':Pos}(g:Gx X)(n:Ln X i x)(h:bO X CL b e δ t δ1)(k:cQ X CL b eW (δ1.set i (some t)) D)(hl:i<δ1.length:=by exact ar8 rfl)(hs:swapsWith e (some (.Name x pos')) pos.line X.env=pure false:=by rfl) :
   cQ X CL b (.Assign [.Name x pos'] e pos::eW) δ D:=bI (Mi i h k hl g.nd n.hi n.loc hs n.hf)
def bA(h:bO X CL b e δ t δ1)(k:D.rt t δ1):cQ X CL b (.Return (some e) pos::eW) δ D:=bI (afK h k)
def g8{a c:CU}(h:vU X CL b e δ p δ1)(h1:p=true->cQ X CL b a δ1 {D with nx:=fun δ2=>cQ X CL b eW δ2 D})(h2:p=false->cQ X CL b c δ1 {D with nx:=fun δ2=>cQ X CL b eW δ2 D}):cQ X CL b (.If e a c pos::eW) δ D:=bI (ajy h h1 h2)
theorem cQ.to{D':dW}(h:cQ X CL b eW δ D')(h1:∀δ,D'.nx δ->D.nx δ)(h2:∀t δ,D'.rt t δ->D.rt t δ)(h3:∀δ,D'.bk δ->D.bk δ)(h4:∀δ,D'.ct δ->D.ct δ):cQ X CL b eW δ D:=fun H Z σ ts vs E S M=>h H Z σ ts vs E S (M.to h1 h2 h3 h4)
def Cd{a c:CU}(J:AR->Prop)(h:vU X CL b e δ p δ1)(h1:p=true->cQ X CL b a δ1 {D with nx:=J})(h2:p=false->cQ X CL b c δ1 {D with nx:=J})(k:∀δ2,J δ2->cQ X CL b eW δ2 D):cQ X CL b (.If e a c pos::eW) δ D:=
 g8 h (fun hp=>cQ.to (h1 hp) k (fun _ _ q=>q) (fun _ q=>q) (fun _ q=>q)) (fun hp=>cQ.to (h2 hp) k (fun _ _ q=>q) (fun _ q=>q) (fun _ q=>q))
def lT{body:CU}{pos':Pos}(g:Gx X)(n:Ln X i x)(P:Ev)(h:Vv X CL b (.Name x pos') e δ ds δ1)(h0:P 0 δ1)(hl:∀j δ,P j δ->i<δ.length)
   (hs:∀j d δ,ds[j]? = some d->P j δ->cQ X CL b body (δ.set i (some (.sh d))) {nx:=P (j+1),rt:=D.rt,bk:=fun δ2=>cQ X CL b eW δ2 D,ct:=P (j+1)}) (hd:∀δ,P ds.length δ->cQ X CL b eW δ D) (hq:AN X e:=by intro _;rfl) :
   cQ X CL b (.For (.Name x pos') e body [] pos::eW) δ D:=
 bI (afO (D:={D with nx:=fun δ1=>cQ X CL b eW δ1 D}) i P h h0 hl hs hd g.xe g.calm g.nd n.hi n.loc n.hf hq)
def lA{o:Option Expr}{l:Nat}(h:∃c,swapsWith e o l env=pure c):swapsWith e o l env=pure true\/swapsWith e o l env=pure false:=by
 obtain⟨c,h⟩:=h;cases c
 . exact .inr h
 . exact .inl h
def Vx{C:Addr}(h1:Nc[i]? = some x)(h2:scope.names.lookup x=some .local)(hd:AD x:=by decide)(ko:AE x:=by decide):Vn (cR X scope Nc C s H fp) i x:=
 ⟨h1,.inl (lookup_relabel_local h2),hd,ko⟩
def afP{C:Addr}(h1:Nc[i]? = some x)(h2:scope.names.lookup x=some .free)(hd:AD x:=by decide)(ko:AE x:=by decide):Vn (cR X scope Nc C s H fp) i x:=by
 refine⟨h1,?_,hd,ko⟩;have q:=iG (env:=X.env) h2;show(relabel scope X.env).names.lookup x=some .local\/(relabel scope X.env).names.lookup x=some .cell\/(relabel scope X.env).names.lookup x=some .free;rw[show(relabel scope X.env).names.lookup x=_ from q];split
 . exact .inr (.inl rfl)
 . exact .inr (.inr rfl)
def aay{C:Addr}(h2:scope.names.lookup x=some .globalImplicit):Gl (cR X scope Nc C s H fp) x:=by
 have q:=iG (env:=X.env) h2;show(relabel scope X.env).names.lookup x=some .globalImplicit;rw[show(relabel scope X.env).names.lookup x=_ from q];rfl
def jq{C:Addr}{k:Nat}{A:Type}{arg:A->At}{Pre:A->Prop}{res:A->T}(F:Fc X CL x k n arg Pre res):Fc (cR X scope Nc C s H fp) CL x k n arg Pre res:=⟨F.ex,F.room⟩
end
def cz:bootBuiltins "list" = some (.type "list"):=by decide +kernel
def Ax:bootBuiltins "tuple" = some (.type "tuple"):=by decide +kernel
def RT(sc:Scope)(l:Ch):Bool:=l.all fun p=>sc.names.lookup p.1==some p.2
def dG{sc:Scope}{l:Ch}(h:RT sc l=true)(i:Nat){k:NameKind}(hi:l[i]? = some (x,k)):sc.names.lookup x=some k:=by
 unfold RT at h;rw[auf]at h;exact auN.mp (h _ (asu hi))
inductive aaz(X:Cx):Bi->Ap->Prop where
 | nil:aaz X [] []
 | cons {i:Nat} {y:Str} {ix:Bi} {ys:Ap} (n:Vn X i y) (k:X.env.kindOf y=some .cell\/X.env.kindOf y=some .free) (r:aaz X ix ys):aaz X (i::ix) (y::ys)
def Vy(scope:Scope)(x:Str)(J6:Ap):Bool:=
 scope.kind == .function&&scope.names.lookup x==some .local&&J6.all (fun y=>scope.names.lookup y==some .free)&&decide ((x::J6).Nodup) &&
   scope.names.all fun y=>y.2 != .cell&&(y.2 != .local || scope.names.lookup y.1==some .local)&&(y.2 != .free || (J6.contains y.1&&scope.names.lookup y.1==some .free))
variable{ix:Bi}
def cg{J6:Ap}(c:aaz X ix J6)(ok:Vy scope x J6=true):qd X scope x (x::J6) ix:=by
 unfold Vy at ok;simp only[asI,auf,decide_eq_true_eq,auN]at ok;obtain⟨⟨⟨⟨h1,h2⟩,h3⟩,h4⟩,h5⟩:=ok;have kc:∀y∈J6,X.env.kindOf y=some .cell\/X.env.kindOf y=some .free:=by
   clear h3 h4 h5
   induction c with
   | nil=>intro y hy;cases hy
   | cons n k r ih=>
     intro y hy;rcases asb.mp hy with e|hy
     . subst e;exact k
     . exact ih y hy
 refine⟨h1,fun y hy e=>?_,h4,fun y hy e=>?_,h2,fun y hy e=>?_,?_,fun i hi=>?_⟩
 . have:=(h5 y hy).1.1;rw[e]at this;simp at this
 . have:=(h5 y hy).1.2;rw[e]at this;simpa using this
 . have:=(h5 y hy).2;rw[e]at this;simp at this;exact⟨this.2,kc _ this.1⟩
 . congr 1;clear h3 h4 h5 kc
   induction c with
   | nil=>rfl
   | cons n k r ih=>rw[ati,n.hi,← ih]
 . clear h4 h5 kc
   induction c with
   | nil=>cases hi
   | @cons i' y ix ys n k r ih=>
     rcases asb.mp hi with e|hi
     . subst e;exact⟨y,n.hi,h3 y ar4⟩
     . exact ih (fun z hz=>h3 z (ar9 _ hz)) hi
def D.vZ:D->Int
 | .int i=>i
 | _=>0
def D.toS:D->Str
 | .str x => x
 | _=>Str.empty
def Mj{bs:AT}(h0:0<=k)(h1:k<bs.length):ux (bs.map D.int) k=some (.int (bs.getD k.toNat 0)):=by
 obtain⟨j,rfl⟩:∃j:Nat,k=j:=⟨k.toNat,We⟩;refine gJ ?_;have hl:j<bs.length:=by omega
 rw[asi,ar6 hl];simp[List.getD,hl]
theorem qe:∀(bs:AT),D.aT (bs.map D.int)=true
 | []=>rfl
 | i::r=>by rw[asA,D.aT,qe r];rfl
def qf{lo:Int}{d:D}(h:(cS lo n)[j]? = some d):d=.int (lo+j)/\j<n:=by
 have hl:j<n:=by
   have:=(asl.mp h).1;simpa [cS] using this
 refine⟨?_,hl⟩;unfold cS at h;rw[asi,atj hl]at h;exact(asE h).symm
def iH(l:List α):l.filter (fun _=>true)=l:=by simp
theorem J7{K:Frag}{CL:BC}{Z:Hp}:∀(ns:AT),aB K CL Z (ns.map D.int) (ns.map V.int)
 | []=>.nil
 | n::r=>.cons (.int n) (J7 r)
def afQ{arg:AT->At}{pre:AT->Prop}{res:AT->T}{ns:AT}(ha:arg ns=[.lst (ns.map D.int)])(hp:pre ns)(hr:res ns=.sh (.bl true))(hS:ou K H a (ns.map V.int))(h0:∀x,Ph x=true->CL x=0:=by intros;rfl) :
   GX K CL 1 arg pre res [.ref a] H (fun v _=>v=.bl true) fun _ _ _=>False:=
 ⟨H,ns,.refl _,fun _ _ q _=>q,by rw[ha];exact .cons (.lst hS (J7 ns)) .nil,by rw[ha];rfl,hp,fun x hx e=>absurd (h0 x hx) e,fun v H' W' fp _ _ _ _ _ r _ _=>by
   rw[hr]at r;cases r with
   | sh r=>exact r.sc rfl⟩
mutual
def D.toPy:D->PyData
 | .non=>.none
 | .bl b=>.bool b
 | .int i=>.int i
 | .str x => .str x
 | .tup ds=>.tuple (D.eO ds)
 | .lst ds=>.list (D.eO ds)
 | .ins _ _=>.none
 | .uz _=>.none
 | .dct _=>.none
 | .any=>.none
 | .val _=>.none
 | .lz _ _ _=>.none
def D.eO:At->List PyData
 | []=>[]
 | d::ds=>d.toPy::D.eO ds
end
inductive kQ:Nat->D->Prop where
 | non (n:Nat):kQ n .non
 | bl (n:Nat) (b:Bool):kQ n (.bl b)
 | int (n:Nat) (i:Int):kQ n (.int i)
 | str (n:Nat) (x:Str) (h:PyData.strOk x=true):kQ n (.str x)
 | tup {n:Nat} {ds:At} (h:∀d∈ds,kQ n d):kQ (n+1) (.tup ds)
 | lst {n:Nat} {ds:At} (h:∀d∈ds,kQ n d):kQ (n+1) (.lst ds)
def Bk(a b:D):Bool:=PyData.eqv a.toPy b.toPy
theorem kQ.afR{n:Nat}:∀{ds:At},(∀d∈ds,d.toPy.canLay0=true/\d.toPy.depth<=n)->PyData.canLayAll0 (D.eO ds)=true/\PyData.depthAll (D.eO ds)<=n
 | [],_=>⟨by rw[D.eO,PyData.canLayAll0],by rw[D.eO,PyData.depthAll];exact asU _⟩
 | d::ds,h=>by
   have h1:=h d ar4;have h2:=kQ.afR (ds:=ds) fun e he=>h e (ar9 _ he);rw[D.eO,PyData.canLayAll0,PyData.depthAll,h1.1,h2.1];exact⟨rfl,Nat.max_le.mpr ⟨h1.2,h2.2⟩⟩
theorem kQ.lay{d:D}(h:kQ n d):d.toPy.canLay0=true/\d.toPy.depth<=n:=by
 induction h with
 | non n=>exact⟨by rw[D.toPy,PyData.canLay0],by rw[D.toPy,PyData.depth];exact asU _⟩
 | bl n b=>exact⟨by rw[D.toPy,PyData.canLay0],by rw[D.toPy,PyData.depth];exact asU _⟩
 | int n i=>exact⟨by rw[D.toPy,PyData.canLay0],by rw[D.toPy,PyData.depth];exact asU _⟩
 | str n x hx=>exact⟨by rw[D.toPy,PyData.canLay0];exact hx,by rw[D.toPy,PyData.depth];exact asU _⟩
 | @tup n ds _ ih=>
   have:=kQ.afR ih;rw[D.toPy,PyData.canLay0,PyData.depth];exact⟨this.1,We⟩
 | @lst n ds _ ih=>
   have:=kQ.afR ih;rw[D.toPy,PyData.canLay0,PyData.depth];exact⟨this.1,We⟩
def iI{d:D}(h:kQ n d):Bk d d=true:=SeqAt.eqv_refl _ h.lay.1
def yW(I:L2.Inv X pins σ H s){d:D}{u:Value}(hd:kQ n d)(q:bq X.K CL H d v)(r:RelV v u):∃as,Reads s.heap u d.toPy as:=by
 refine bq.rec (motive_1:=fun d v _=>∀(n:Nat) (u:Value),kQ n d->RelV v u->∃as,Reads s.heap u d.toPy as)
   (motive_2:=fun ds vs _=>∀(n:Nat) (us:BY),(∀d∈ds,kQ n d)->Vals vs us->∃as,ReadsAll s.heap us (D.eO ds) as) (motive_3:=fun _ _ _=>True) (motive_4:=fun _ _ _=>True) (motive_5:=fun _ _ _=>True)
   (fun _ _ _ r=>?non) (fun b _ _ _ r=>?bl) (fun i _ _ _ r=>?int) (fun x _ _ _ r=>?str) (fun _ _ _ hd _=>by cases hd) (fun _ _ _ hd _=>by cases hd) (fun hq _ ih n u hd r=>?tup) (fun hq _ ih n u hd r=>?lst) (fun _ _ _ _ _ hd _=>by cases hd) (fun _ _ _ _ _ hd _=>by cases hd) (fun _ _ _ _ _ hd _=>by cases hd) (fun _ _ _ _ _ _ _ hd _=>by cases hd)
   (fun _ _ _ r=>?nil) (fun _ _ ih ihs n us h r=>?cons) trivial (fun _ _ _ _=>trivial) trivial (fun _ _ _ _=>trivial) trivial (fun _ _ _ _=>trivial) q n u hd r
 case non=>cases r;rw[D.toPy];exact⟨[],.none⟩
 case bl=>cases r;rw[D.toPy];exact⟨[],.bool b⟩
 case int=>obtain⟨t,rfl⟩:=r;rw[D.toPy];exact⟨[],.int i t⟩
 case str=>obtain⟨t,rfl⟩:=r;rw[D.toPy];exact⟨[],.str x t⟩
 case tup=>
   cases hd with
   | tup hd=>
     cases r;obtain⟨its,rv,⟨o,e,c,k,dt⟩,_⟩:=I.tuple hq;obtain⟨as,ra⟩:=ih _ _ hd rv;rw[D.toPy];exact⟨as,.tuple e c dt (by simpa using ra)⟩
 case lst=>
   cases hd with
   | lst hd=>
     cases r;obtain⟨its,rv,⟨o,k,e,c,_,dt⟩,_⟩:=I.list hq;obtain⟨as,ra⟩:=ih _ _ hd rv;rw[D.toPy];exact⟨_,.list e c dt (by simpa using ra)⟩
 case nil=>cases r;rw[D.eO];exact⟨[],.nil⟩
 case cons=>
   cases r with
   | cons r rs=>
     obtain⟨as,ra⟩:=ih n _ (h _ ar4) r;obtain⟨bs,rb⟩:=ihs n _ (fun e he=>h e (ar9 _ he)) rs;rw[D.eO];exact⟨as++bs,.cons ra rb⟩
variable{δ3:AR}{p2 pp:Pos}{eW:CU}{DD:dW}{d1 d2:D}{ds:At}
def afS(hu:X.A.units+64<cLine):wW X (compareOp .Eq) (fun x y H Q=>∃a c,bq X.K CL H a x/\bq X.K CL H c y/\kQ 60 a/\kQ 60 c/\Q (.bl (Bk a c)) H):=by
 intro pins s σ H x y v u Q I rx ry h;obtain⟨a,c,ra,rc,da,dc,q⟩:=h;obtain⟨as,r1⟩:=yW I da ra rx;obtain⟨bs,r2⟩:=yW I dc rc ry;exact SeqAt.rcAt_reads r1 r2 da.lay.1 dc.lay.1 (by have:=da.lay.2;omega) X.prog X.w X.xe _ ⟨.bl _,H,I,rfl,q⟩
def Vz(hu:X.A.units+64<cLine):wW X (compareOp .NotEq) (fun x y H Q=>∃a c,bq X.K CL H a x/\bq X.K CL H c y/\kQ 60 a/\kQ 60 c/\Q (.bl (!Bk a c)) H):=by
 intro pins s σ H x y v u Q I rx ry h;obtain⟨a,c,ra,rc,da,dc,q⟩:=h;obtain⟨as,r1⟩:=yW I da ra rx;obtain⟨bs,r2⟩:=yW I dc rc ry;exact SeqAt.rcNeAt_reads r1 r2 da.lay.1 dc.lay.1 (by have:=da.lay.2;omega) X.prog X.w X.xe _ ⟨.bl _,H,I,rfl,q⟩
def ajC{op:CmpOp}{f:Bool->Bool}(ho:wW X (compareOp op) (fun x y H Q=>∃a c,bq X.K CL H a x/\bq X.K CL H c y/\kQ 60 a/\kQ 60 c/\Q (.bl (f (Bk a c))) H))(h1:dD X CL b e1 δ d1 δ1)(h2:dD X CL b e2 δ1 d2 δ2)(k1:kQ 60 d1)(k2:kQ 60 d2)
   (hm:behindInMarks op e2=false):vU X CL b (.Compare e1 [op] [e2] pos) δ (f (Bk d1 d2)) δ2/\bO X CL b (.Compare e1 [op] [e2] pos) δ (.sh (.bl (f (Bk d1 d2)))) δ2:=by
 constructor
 . intro H Z σ ts vs Q S k;refine El (qJ ho cP cP hm) (h1 H Z σ ts vs _ S fun v1 H1 Z1 z1 k1' S1 r1=>h2 H1 Z1 σ ts vs _ S1 fun v2 H2 Z2 z2 VA S2 r2=>?_);exact⟨d1,d2,r1.mono VA,r2,k1,k2,_,rfl,k H2 Z2 (z1.trans z2) (k1'.trans VA) S2⟩
 . intro H Z σ ts vs Q S k;refine bP (uw ho cP cP hm) (h1 H Z σ ts vs _ S fun v1 H1 Z1 z1 k1' S1 r1=>h2 H1 Z1 σ ts vs _ S1 fun v2 H2 Z2 z2 VA S2 r2=>?_);exact⟨d1,d2,r1.mono VA,r2,k1,k2,k _ H2 Z2 (z1.trans z2) (k1'.trans VA) (S2.push (.bl _))⟩
def Ml(hu:X.A.units+64<cLine)(h1:dD X CL b e1 δ d1 δ1)(h2:dD X CL b e2 δ1 d2 δ2)(k1:kQ 60 d1)(k2:kQ 60 d2):vU X CL b (.Compare e1 [.Eq] [e2] pos) δ (Bk d1 d2) δ2/\bO X CL b (.Compare e1 [.Eq] [e2] pos) δ (.sh (.bl (Bk d1 d2))) δ2:=
 ajC (f:=fun b=>b) (afS hu) h1 h2 k1 k2 (mY _)
def v5(hu:X.A.units+64<cLine)(h1:dD X CL b e1 δ d1 δ1)(h2:dD X CL b e2 δ1 d2 δ2)(k1:kQ 60 d1)(k2:kQ 60 d2):vU X CL b (.Compare e1 [.NotEq] [e2] pos) δ (!Bk d1 d2) δ2/\bO X CL b (.Compare e1 [.NotEq] [e2] pos) δ (.sh (.bl (!Bk d1 d2))) δ2:=
 ajC (f:=fun b=>!b) (Vz hu) h1 h2 k1 k2 (mY _)
def cutD(xs:List α)(lo hi:CC):List α:=(xs.drop (HT.iF xs.length 0 lo)).take (HT.iF xs.length xs.length hi-HT.iF xs.length 0 lo)
theorem aB.drop{K:Frag}{Z:Hp}:∀{ds:At} {vs:BN} (n:Nat),aB K CL Z ds vs->aB K CL Z (ds.drop n) (vs.drop n)
 | _,_,0,r=>r
 | _,_,_+1,.nil=>.nil
 | _,_,n+1,.cons _ t=>aB.drop n t
theorem aB.take{K:Frag}{Z:Hp}:∀{ds:At} {vs:BN} (n:Nat),aB K CL Z ds vs->aB K CL Z (ds.take n) (vs.take n)
 | _,_,0,_=>.nil
 | _,_,_+1,.nil=>.nil
 | _,_,n+1,.cons r t=>.cons r (aB.take n t)
theorem aB.cut{ds:At}(r:aB K CL Z ds vs)(lo hi:CC):aB K CL Z (cutD ds lo hi) (GF vs lo hi):=by
 unfold cutD GF;rw[r.length];exact(r.drop _).take _
theorem qg:∀{ds:At},D.aT ds=true->∀d∈ds,d.kB=true
 | [],_,_,h=>by cases h
 | d::ds,k,e,h=>by
   rw[D.aT,asI]at k;rcases asb.mp h with h|h
   . subst h;exact k.1
   . exact qg k.2 e h
theorem jL:∀{ds:At},(∀d∈ds,d.kB=true)->D.aT ds=true
 | [],_=>rfl
 | d::ds,h=>by rw[D.aT,h d ar4,jL fun e he=>h e (ar9 _ he)];rfl
def aaA{xs:List α}{lo hi:CC}{x:α}(h:x∈cutD xs lo hi):x∈xs:=auP (atp h)
def TOv(X:Cx)(CL:BC)(b:Bx)(e:Option Expr)(δ:AR)(k:CC)(δ':AR):Prop:=
 ∃t,PO X e t/\∀(H Z:Hp) (σ:L2.St) (ts:Bn) (vs:BN) (Q:CC->Hp->Prop),aR X.K CL b H Z δ σ ts vs->(∀H' Z',aC Z Z'->aC H H'->aR X.K CL b H' Z' δ' σ ts vs->Q k H')->t σ H Q
def qP:TOv X CL b none δ none δ:=⟨_,aak,fun H Z σ ts vs Q S k=>k H Z (.refl _) (.refl _) S⟩
def qQ(h:dD X CL b e δ (.int k) δ1):TOv X CL b (some e) δ (some k) δ1:=⟨_,aal cP,fun H Z σ ts vs Q S kk=>h H Z σ ts vs _ S fun v H1 Z1 z1 k1 S1 r=>⟨k,r.sc rfl,kk H1 Z1 z1 k1 S1⟩⟩
theorem xr{lo hi:Option Expr}{l h:CC}(h1:dD X CL b e δ (.lst ds) δ1)(hi1:D.aT ds=true)(h2:TOv X CL b lo δ1 l δ2)(h3:TOv X CL b hi δ2 h δ3):bO X CL b (.Subscript e (.Slice lo hi none p2) pos) δ (.lst ((cutD ds l h).map T.sh)) δ3:=fun H Z σ ts vs Q S k=>by
 obtain⟨t2,po2,w2⟩:=h2;obtain⟨t3,po3,w3⟩:=h3;refine bP (B5 aam cP po2 po3) (h1 H Z σ ts vs _ S fun v H1 Z1 z1 k1 S1 r=>w2 H1 Z1 σ ts vs _ S1 fun H2 Z2 z2 k2 S2=>w3 H2 Z2 σ ts vs _ S2 fun H3 Z3 z3 k3 S3=>?_);have r':=r.mono (k2.trans k3);cases r' with
 | lst hq rr=>
   refine⟨_,_,rfl,hq,fun p hp=>?_⟩;have rc:=aB.kB S3.tp (jL fun d hd=>qg hi1 d (aaA hd)) (rr.cut l h);obtain⟨c,S4⟩:=(aR.sM rc S3).sJ (g0:=[]) (by simp[rc.length]) hp;exact k _ _ _ (z1.trans (z2.trans z3)) (k1.trans (k2.trans (k3.trans c))) S4
def gB(hm:X.mg "tuple" = none)(h:dD X CL b e δ (.lst ds) δ1)(hi:D.aT ds=true)(hg:Gl X "tuple")(hs:AC X e []:=by exact aZ rfl):bO X CL b (.Call (.Name "tuple" pp) [e] [] pos) δ (.sh (.tup ds)) δ1:=fun H Z σ ts vs Q S k=>
 bP (jB vz hg hm Ax (bY cP dZ hs) (he:=hs)) (h H Z σ ts vs _ S fun v H1 Z1 z1 k1 S1 r=>by
   cases r with
   | lst hq rr=>
     refine⟨_,_,rfl,.inl ⟨hq,fun l hl=>?_⟩⟩;obtain⟨a,c,S2⟩:=(aR.sM (aB.kB S1.tp hi rr) S1).GU (by simp[rr.length]) hl;obtain⟨Z3,z3,S3⟩:=S2.B8;rw[T.bG,kP]at S3;exact k _ _ Z3 (z1.trans (a.trans z3)) (k1.trans c) S3)
variable{pa pb:Pos}
def vA{tl0:Bn}(n:Vn X i x)(h0:δ[i]? = some (some (.lst tl0)))(h:bO X CL b e δ t δ1)(h1:δ1[i]? = some (some (.lst tl)))(hl:tl.length<=1000000)(k:cQ X CL b eW (δ1.set i (some (.lst (tl++[t])))) DD)
   (gy:attributeBase (.Name x pp) "append" X.env (eval (.Name x pp) X.env)=eval (.Name x pp) X.env:=by rfl)
   (qN:AB X pb e:=by rfl)
   (hline:(pa.endLine==pb.line)=true:=by rfl) (hs:AC X e []:=by exact aZ rfl) (G0:swapsWith (.Call (.Attribute (.Name x pp) "append" pa) [e] [] pb) none pos.line X.env=pure false:=by rfl) :
   cQ X CL b (.Expr (.Call (.Attribute (.Name x pp) "append" pa) [e] [] pb) pos::eW) δ DD:=
 bI (afM i h0 h h1 (atZ hl (by rw[asD];decide)) k n.hi n.hv n.hd n.ko gy qN hline hs G0)
def Pq{ps:Pos}(n:Vn X i x)(h:bO X CL b e δ t δ1)(h2:dD X CL b e2 δ1 (.int k) δ1)(h1:δ1[i]? = some (some (.lst tl)))(hk:O7 tl.length k=some j)(kk:cQ X CL b eW (δ1.set i (some (.lst (tl.set j t)))) DD)
   (ha:∀v,assign (.Subscript (.Name x pp) e2 ps) X.env v=(do
     let ov ← holding [v] (eval (.Name x pp) X.env)
     let iv ← holding [v,ov] (eval e2 X.env)
     standAt ps
     holding [v,ov,iv] (setItem ov iv v)
     release [v,ov,iv] []):=by intro _;rfl)
   (hs:swapsWithSole [.Subscript (.Name x pp) e2 ps] e pos.line X.env=pure false:=by rfl) (hw:swappedStores [.Subscript (.Name x pp) e2 ps] e X.env=pure none:=by rfl) (ha1:(assignEach [.Subscript (.Name x pp) e2 ps] X.env).map (·.2)=[assign (.Subscript (.Name x pp) e2 ps) X.env]:=by rfl) :
   cQ X CL b (.Assign [.Subscript (.Name x pp) e2 ps] e pos::eW) δ DD:=by
 refine bI fun H Z σ ts vs E S M=>om (ae4 cP (ae3 (gw n.hi n.hv n.hd n.ko) cP set_list ha) hs hw ha1) (h H Z σ ts vs _ S fun v H1 Z1 z1 k1 S1=>?_);have hj:j<tl.length:=(Bg hk).2.1;obtain⟨v0,e0,_⟩:=S1.look h1;refine⟨v0,e0,?_⟩;refine h2 H1 Z1 σ _ _ _ S1 fun v2 H2 Z2 z2 k2 S2 r2=>?_;obtain⟨a,us,ea,Vj,hu,S3⟩:=S2.setAt h1 hj;rw[e0]at ea;cases ea;exact⟨a,us,k,j,rfl,r2.sc rfl,Vj,by rw[hu];exact hk,M.nx _ σ _ Z2 (z1.trans z2) S3 kk⟩
def d8(hn:ds.length=n)(hm:X.mg "len" = none)(h:dD X CL b e δ (.lst ds) δ1)(hg:Gl X "len")(hs:AC X e []:=by exact aZ rfl):bO X CL b (.Call (.Name "len" pp) [e] [] pos) δ (.sh (.int n)) δ1:=by
 subst hn;exact Bj hm h hg hs
def cD(h:bO X CL b e δ (.lst (ds.map T.sh)) δ1):dD X CL b e δ (.lst ds) δ1:=by
 have:=adS h
 rwa [T.bG,kP]at this
def v7{f:α->D}{l:List α}(z:α)(h0:0<=k)(h1:k<l.length):ux (l.map f) k=some (f (l.getD k.toNat z)):=by
 obtain⟨j,rfl⟩:∃j:Nat,k=j:=⟨k.toNat,We⟩;refine gJ ?_;have hl:j<l.length:=by omega
 rw[asi,ar6 hl];simp[List.getD,hl]
def A6(l:Bool)(ds:At):D:=match l with
 | true=>.lst ds
 | false=>.tup ds
theorem gC{α:Type}{f:α->D}(h:∀a,(f a).kB=true):∀(l:List α),D.aT (l.map f)=true
 | []=>rfl
 | a::l=>by rw[asA,D.aT,h a,gC h l];rfl
variable{d:D}
def aaB{u:Tok}(hm:X.mg x=some (.int k u))(hg:Gl X x)(hd:AD x:=by decide):bO X CL b (.Name x pos) δ (.sh (.int k)) δ:=fun H Z σ ts vs Q S kk=>
 bP (Gz (v:=.int k) hg hm ⟨u,rfl⟩ hd) (kk _ H Z (.refl _) (.refl _) (S.push (.int k)))
def J8(hm:∃u,X.mg x=some (.int k u))(hg:Gl X x)(hd:AD x:=by decide):bO X CL b (.Name x pos) δ (.sh (.int k)) δ:=by
 obtain⟨u,hm⟩:=hm;exact aaB hm hg hd
def vE(n:Vn X i x)(h:δ[i]? = some (some t))(e:t.bG=d):dD X CL b (.Name x pos) δ d δ:=e▸vB n h
theorem qR(x:Str):∀l:Ap,inV (.str x) (l.map V.str)=decide (x∈l)
 | []=>by simp[inV]
 | y::l=>by
   have ih:=qR x l;unfold inV at ih ⊢;rw[asA,auT,ih];have e:∀a c:Str,eqV (.str a) (.str c)=(a==c):=fun _ _=>rfl;rw[e];by_cases h:y=x
   . subst h;simp
   . have h':¬ x=y:=fun e=>h e.symm;simp[h,h']
theorem aB.strs{K:Frag}{Z:Hp}:∀{l:Ap} {vs:BN},aB K CL Z (l.map D.str) vs->vs=l.map V.str
 | [],_,r=>by
   have r':aB K CL Z [] _:=r;cases r';rfl
 | y::l,_,r=>by
   have r':aB K CL Z (D.str y::l.map D.str) _:=r;cases r' with
   | cons r1 r2=>rw[r1.sc rfl,aB.strs r2];rfl
theorem gK:∀l:Ap,(l.map V.str).all xg=true
 | []=>rfl
 | y::l=>by rw[asA,List.all_cons,gK l];rfl
variable{l:Ap}
def ajF(h1:dD X CL b e1 δ (.str x) δ1)(h2:dD X CL b e2 δ1 (.tup (l.map .str)) δ2)(hm:behindInMarks .In e2=false) :
   vU X CL b (.Compare e1 [.In] [e2] pos) δ (decide (x∈l)) δ2/\bO X CL b (.Compare e1 [.In] [e2] pos) δ (.sh (.bl (decide (x∈l)))) δ2:=by
 constructor
 . intro H Z σ ts vs Q S k;refine El (qJ uy cP cP hm) (h1 H Z σ ts vs _ S fun v1 H1 Z1 z1 k1 S1 r1=>h2 H1 Z1 σ ts vs _ S1 fun v2 H2 Z2 z2 k2 S2 r2=>?_);cases r2 with
   | tup hq rr=>
     have e:=rr.strs;subst e;refine⟨_,_,rfl,.inr hq,by rw[r1.sc rfl];rfl,gK l,_,rfl,?_⟩;rw[ash asr,r1.sc rfl,qR];exact k H2 Z2 (z1.trans z2) (k1.trans k2) S2
 . intro H Z σ ts vs Q S k;refine bP (uw uy cP cP hm) (h1 H Z σ ts vs _ S fun v1 H1 Z1 z1 k1 S1 r1=>h2 H1 Z1 σ ts vs _ S1 fun v2 H2 Z2 z2 k2 S2 r2=>?_);cases r2 with
   | tup hq rr=>
     have e:=rr.strs;subst e;refine⟨_,_,rfl,.inr hq,by rw[r1.sc rfl];rfl,gK l,?_⟩;rw[ash asr,r1.sc rfl,qR];exact k _ H2 Z2 (z1.trans z2) (k1.trans k2) (S2.push (.bl _))
def VB(h1:dD X CL b e1 δ (.str x) δ1)(h2:GQ X CL b es δ1 ((l.map D.str).map T.sh) δ2)(hl:(l.map D.str).length<=sizeLine:=by exact yV rfl) :
   vU X CL b (.Compare e1 [.In] [.Tuple es j p2] pos) δ (decide (x∈l)) δ2/\bO X CL b (.Compare e1 [.In] [.Tuple es j p2] pos) δ (.sh (.bl (decide (x∈l)))) δ2:=ajF h1 (au (aM h2 hl)) rfl
def Ce:Expr->Option Str
 | .Constant (.str x) _ _=>some x
 | _=>none
def yX:CS->Option Ap
 | []=>some []
 | e::es=>(Ce e).bind fun x=>(yX es).map (x::·)
def J9(h:Ce e=some x):∃j p,e=.Constant (.str x) j p:=by
 unfold Ce at h;split at h
 . cases h;exact⟨_,_,rfl⟩
 . cases h
theorem xu:∀{es:CS} {l:Ap},yX es=some l->GQ X CL b es δ ((l.map D.str).map T.sh) δ
 | [],l,h=>by
   have e:l=[]:=(asE h).symm;subst e;exact bK
 | e::es,l,h=>by
   rw[yX]at h;obtain⟨x,hx,h⟩:=Option.bind_eq_some_iff.mp h;obtain⟨l',hl,rfl⟩:=asF.mp h;obtain⟨j,p,rfl⟩:=J9 hx;exact aL fY (xu hl)
def VC{l:List α}(z:α)(h0:0<=k)(h1:k<l.length):ux l k=some (l.getD k.toNat z):=by
 obtain⟨j,rfl⟩:∃j:Nat,k=j:=⟨k.toNat,We⟩;refine gJ ?_;have hl:j<l.length:=by omega
 rw[ar6 hl];simp[List.getD,hl]
def Mm(h0:0<=k)(h1:k<n):O7 n k=some k.toNat:=by
 unfold O7;rw[ass h0,ass h1]
def str_len(x y:Str):(x++y).length=x.length+y.length:=by
 show(x.cps++y.cps).size=_;rw[Array.size_append];rfl
def Mp(x y:Str)(h1:PyData.strOk x=true)(h2:PyData.strOk y=true):PyData.strOk (x++y)=true:=by
 unfold PyData.strOk at *;show(x.cps++y.cps).all _=true;rw[Array.all_append,h1,h2];rfl
def sO(l:AT):T.cM ((l.map D.int).map T.sh)=true:=by
 rw[asC]
 induction l with
 | nil=>rfl
 | cons i r ih=>rw[asA,T.cM,ih];rfl
variable{tt:Bn}
theorem aR.afV(S:aR K CL b H Z δ σ ts vs)(hi:δ[i]? = some (some (.tup tt)))(hj:tt[j]? = some t) :
   ∃a0 us0 v,σ[i]? = some (some (.ref a0))/\Z a0=some (.tup us0)/\us0[j]? = some v/\aR K CL b H Z (δ.set i (some (.tup (tt.set j (.sh .any))))) σ (t::ts) (v::vs):=by
 obtain⟨fp,gp,e,r,nd,k⟩:=S.rep;obtain⟨v0,f1,f2,f3,hv,oq,rt,put,_⟩:=e.get hi;subst oq;cases rt with
 | @tup a0 us0 _ _ hq r0=>
   obtain⟨vj,g1,g2,g3,hvj,hg,rj,set⟩:=r0.at hj;subst hg;have r2:=set (H':=H) (t':=.sh .any) (v':=vj) (g:=[]) (fun _ _=>rfl) (.sh (.any vj));rw[c9 hvj]at r2;have e2:=put (H':=H) (.refl _) (fun _ _=>rfl) (bz.tup hq r2);rw[c9 hv]at e2;have hp:((f1++((g1++([]++g3))++f3))++(g2++gp)).Perm ((f1++((g1++(g2++g3))++f3))++gp):=by
     simp only[atN,ar7];refine asY f1 (asY g1 ?_);have:=(asL (l₁:=g3++f3) (l₂:=g2)).append_right gp;simp only[ar7]at this;exact this
   exact⟨a0,us0,vj,hv,hq,hvj,⟨⟨_,g2++gp,e2,.cons rj r,hp.nodup_iff.mpr nd,fun a ha=>k a (hp.mem_iff.mp ha)⟩,S.bh,S.zz,S.zh,S.new,S.tp,S.tab⟩⟩
variable{pc ps:Pos}{kj:Nat}
def kR(j:Nat)(n:Vn X i x)(h:δ[i]? = some (some (.tup tt)))(hj:tt[j]? = some t):bO X CL b (.Subscript (.Name x pp) (.Constant (.int j) kj pc) ps) δ t (δ.set i (some (.tup (tt.set j (.sh .any))))):=fun H Z σ ts vs Q S k=>by
 obtain⟨a0,us0,v,hv,hq,hvj,S'⟩:=S.afV h hj;exact bP (B6 GJ (gw n.hi n.hv n.hd n.ko) Ly (fun _ _=>rfl)) ⟨_,hv,a0,us0,j,v,rfl,rfl,se.of (S.zh _ _ hq),gJ hvj,k v H Z (.refl _) (.refl _) S'⟩
variable{ds:At}
def vFL(n:Vn X i x)(h:δ[i]? = some (some (.lst (ds.map T.sh)))):bO X CL b (.Name x pos) δ (.sh (.lst ds)) (δ.set i (some (.sh (.lst ds)))):=by
 have:=vF (CL:=CL) (b:=b) (pos:=pos) n h
 rwa [T.bG,kP]at this
theorem ic.get:∀{fs:Cs} {gs:CA} {f:Str} {d:D},ic K CL Z fs gs->fs.lookup f=some d->∃v,gs.lookup f=some v/\bq K CL Z d v
 | _,_,_,_,.nil,e=>by simp at e
 | _,_,f,d,.cons (x:=x) r t,e=>by
   rw[asR]at e ⊢;cases h:f==x with
   | true=>rw[h]at e;cases e;exact⟨_,rfl,r⟩
   | false=>rw[h]at e;exact ic.get t e
def jM(f:Str)(t:T):B1->B1
 | []=>[(f,t)]
 | (g,x)::r=>if g=f then(g,t)::r else(g,x)::jM f t r
variable{fs:B1}
theorem dH.length{gs:CA}(h:dH K CL H Z fs gs fp):fs.length=gs.length:=
 dH.ind (P:=fun d v _=>d.length=v.length) rfl (fun _ _ i=>congrArg (· + 1) i) h
theorem dH.put{f:Str}{g:BM}(q:bz K CL H Z t v g):∀{fs:B1} {gs:CA} {fp:BM},dH K CL H Z fs gs fp →
   ∃fp' f',dH K CL H Z (jM f t fs) (mZ f v gs) fp'/\f'.Sublist fp/\fp'.Perm (g++f')
 | _,_,_,.nil=>⟨g++[],[],.cons q .nil,asZ _,au7 _⟩
 | _,_,_,.cons (x:=x) (fp:=fp) (gp:=gp) r rs=>by
   rw[jM,mZ];by_cases h:x=f
   . rw[ass h,ass h];exact⟨g++gp,gp,.cons q rs,atr _ _,au7 _⟩
   . rw[ash h,ash h];obtain⟨p,p',h1,h2,h3⟩:=dH.put (f:=f) q rs;refine⟨fp++p,fp++p',.cons r h1,asW (asZ _) h2,(asY fp h3).trans ?_⟩;rw[← ar7,← ar7];exact asL.append_right p'
theorem aR.G4{o:HO}{fp' Pp:BM}(hm:ku o=false)(S:aR K CL b H Z δ σ ts vs)(own:∀c∈fp++gp,Z c=none/\b.B c=none)(ha:a∈fp++gp)
   (e':eV K CL (upd H a o) Z δ2 σ fp') (r':aJ K CL (upd H a o) Z tl us Pp) (pm:(fp'++Pp).Nodup) (sub:∀c∈fp'++Pp,c∈fp++gp) :
   aR K CL b (upd H a o) Z δ2 σ tl us:=by
 have oa:=own a ha;refine⟨⟨_,_,e',r',pm,fun c hc=>own c (sub c hc)⟩,fun c u q=>?_,S.zz,fun c u q=>?_,S.new,fun c u q i=>?_,S.tab⟩
 . rw[ak (bL q oa.2)];exact S.bh c u q
 . rw[ak (bL q oa.1)];exact S.zh c u q
 . by_cases hc:c=a
   . subst hc;rw[aD]at q;cases q;rw[hm]at i;cases i
   . rw[ak hc]at q;exact S.tp c u q i
variable{c:Str}
theorem aR.setField{x:Addr}{f:Str}(S:aR K CL b H Z δ σ (t::ts) (v::vs))(hi:δ[i]? = some (some (.pin x (.ins c fs)))) :
   ∃dx gs,σ[i]? = some (some (.ref x))/\H x=some (.ins (CL c) dx gs)/\gs.length=fs.length/\aR K CL b (upd H x (.ins (CL c) dx (mZ f v gs))) Z (δ.set i (some (.pin x (.ins c (jM f t fs))))) σ ts vs:=by
 obtain⟨fp,gp,e,r,nd,k⟩:=S.rep;obtain⟨v0,f1,f2,f3,hv,oq,rt,put,_⟩:=e.get hi;subst oq;cases rt with
 | pin rt=>
 cases rt with
 | @ins a dx _ gs _ g ha rs=>
   cases r with
   | @cons _ _ _ _ ft gr q1 q2=>
     have ne:∀c∈(f1++(g++f3))++(ft++gr),c≠x:=fun c hc e=>by
       subst e;have hp:((f1++((c::g)++f3))++(ft++gr)).Perm (c::((f1++(g++f3))++(ft++gr))):=by
         rw[asO,← asO];exact(atq.append_right _)
       exact(as6.mp (hp.nodup_iff.mp nd)).1 hc
     refine⟨dx,gs,hv,ha,rs.length.symm,?_⟩;have q1':=q1.mono (H':=upd H x (.ins (CL c) dx (mZ f v gs))) (.refl _) fun c hc=>ak (ne c (by simp[hc]));have rs':=rs.mono (H':=upd H x (.ins (CL c) dx (mZ f v gs))) (.refl _) fun c hc=>ak (ne c (by simp[hc]));obtain⟨p,p',h1,h2,h3⟩:=dH.put (f:=f) q1' rs';have r1:bz K CL (upd H x (.ins (CL c) dx (mZ f v gs))) Z (.pin x (.ins c (jM f t fs))) (.ref x) (x::p):=.pin (.ins aD h1);have e2:=put (H':=upd H x (.ins (CL c) dx (mZ f v gs))) (.refl _) (fun c hc=>ak (ne c (by
       rcases asf.mp hc with h|h
       . simp[h]
       . simp[h]))) r1
     rw[c9 hv]at e2;have hp:((f1++((x::p)++f3))++gr).Perm ((f1++((x::p')++f3))++(ft++gr)):=by
       have h4:((f1++((x::p)++f3))++gr).Perm ((f1++((x::(ft++p'))++f3))++gr):=((h3.cons x).append_right f3).append_left f1 |>.append_right gr
       refine h4.trans ?_;simp only[asO,ar7];refine asY f1 (List.Perm.cons x ?_);have:=(asL (l₁:=ft) (l₂:=p'++f3)).append_right gr;simp only[ar7]at this;exact this
     have sb:((f1++((x::p')++f3))++(ft++gr)).Sublist ((f1++((x::g)++f3))++(ft++gr)):=
       asW (asW (asZ _) (asW (List.Sublist.cons₂ x h2) (asZ _))) (asZ _)
     exact S.G4 rfl k Uf e2 (q2.mono (.refl _) fun c hc=>ak (ne c (by simp[hc]))) (hp.nodup_iff.mpr (nd.sublist sb)) fun c hc=>sb.subset (hp.mem_iff.mp hc)
variable{f:Str}{d:D}{fs:Cs}
def ja(hc:kO X.K (CL c))(n:aI X.K (CL c) f)(h:dD X CL b e δ (.ins c fs) δ1)(hl:fs.lookup f=some d)(hb:AS X e f:=by rfl) :
   dD X CL b (.Attribute e f pos) δ d δ1:=fun H Z σ ts vs Q S k=>
 bP (LV cP hb) (h H Z σ ts vs _ S fun v H' Z' z s S' r=>by
   cases r with
   | @ins a dx _ gs _ ha rf=>
     obtain⟨w,hw,L1⟩:=rf.get hl;exact⟨a,CL c,dx,gs,w,rfl,ha,hc,n,hw,k w H' Z' z s S' L1⟩)
def iJ(hc:kO X.K (CL c))(n:aI X.K (CL c) f)(h:bO X CL b e δ (.sh (.ins c fs)) δ1)(hl:fs.lookup f=some d)(hb:AS X e f:=by rfl) :
   bO X CL b (.Attribute e f pos) δ (.sh d) δ1:=fun H Z σ ts vs Q S k=>
 bP (LV cP hb) (h H Z σ ts vs _ S fun v H' Z' z s S'=>by
   obtain⟨fp,gp,_,r,_,_⟩:=S'.rep;cases r with
   | cons r _=>
     cases r with
     | sh r=>
       cases r with
       | @ins a dx _ gs _ ha rf=>
         obtain⟨w,hw,L1⟩:=rf.get hl;exact⟨a,CL c,dx,gs,w,rfl,S'.zh _ _ ha,hc,n,hw,k w H' Z' z s (S'.pop.push L1)⟩)
def qh{gs:B1}(hc:kO X.K (CL c))(n:aI X.K (CL c) f)(nm:Vn X i x)(h:bO X CL b e δ t δ1)(h1:δ1[i]? = some (some (.pin a (.ins c gs))))(hl:gs.length<1000)
   (k:cQ X CL b eW (δ1.set i (some (.pin a (.ins c (jM f t gs))))) DD) (hs:swapsWith e (some (.Attribute (.Name x pa) f pb)) pc.line X.env=pure false:=by rfl) :
   cQ X CL b (.Assign [.Attribute (.Name x pa) f pb] e pc::eW) δ DD:=bI fun H Z σ ts vs E S M=>
 om (UZ (gw nm.hi nm.hv nm.hd nm.ko) cP hs) (h H Z σ ts vs _ S fun v H' Z' z s S'=>by
   obtain⟨dx,ws,hv,hx,hlen,S2⟩:=S'.setField (f:=f) h1;exact⟨.ref a,hv,a,CL c,dx,ws,rfl,hx,hc,n,by rw[hlen];exact hl,M.nx _ σ _ Z' z S2 k⟩)
def spI(K:Frag)(CL:BC){A:Type}(c:Str)(n:Nat)(arg:A->At)(Pre:A->Prop)(res:A->B1):Sp:=fun vs H Q _=>
 ∃(W H0:Hp) (a:A) (x dx:Addr) (us:BN),vs=.ref x::us/\H0 x=none/\H0 dx=none/\dx≠x/\H=upd (upd H0 dx (.own x)) x (.ins (CL c) dx []) ∧
   aC W H0/\(∀c o,H0 c=some o->ku o=true->W c=some o)/\aB K CL W (arg a) us/\(arg a).length+1=n/\Pre a/\oX CL W ∧
   ∀H' W' fp,aC H0 H'->aC W W'->aC W' H'->(∀c o,W' c=some o->W c=none->H0 c=none)->(∀c o,H' c=some o->ku o=true->W' c=some o) →
     bz K CL H' W' (.ins c (res a)) (.ref x) fp->fp.Nodup->(∀c∈fp,W' c=none/\H0 c=none)->Q .non H'
variable{o:Expr}{apos:Pos}{A:Type}{k:Nat}{f:Addr}{ps:Ap}{m:Str}{arg:A->At}{Pre:A->Prop}
def aaC{res:A->B1}(a:A)(M:Mk X.K (CL c) f)(F:dP X.prog X.w X.K X.mg X.base pZ k f fd ps (spI X.K CL c n arg Pre res))(hr:dU (k+1) X.A)(hm:X.mg x=some (.ref (CL c)))(hb:Binds X.K fd ps [])
   (h:UC X CL b (e::es) δ (arg a) δ1) (hn:(arg a).length+1=n) (hp:Pre a) (hc:T.kC (res a)=true) (hg:Gl X x)
   (su:AD x:=by decide) (he:AC X e es:=by exact aZ rfl) (hpl:AL X pos es:=by rfl) :
   bO X CL b (.Call (.Name x pp) (e::es) [] pos) δ (.ins c (res a)) δ1:=fun H Z σ ts vs Q S kk=>
 bP (O1 M F hr hg hm hb .nil sG Jz su he hpl) (h H Z σ ts vs _ S fun us H1 Z1 z1 k1 S1 r x dx hx hdx ne=>by
   rw[asx];refine⟨H1,H1,a,x,dx,us,rfl,hx,hdx,ne,rfl,.refl _,fun _ _ q _=>q,r,hn,hp,S1.RP,fun H' W' fp hh ww wh nw tp rt nd own=>⟨rfl,?_⟩⟩;obtain⟨Z',z',S'⟩:=S1.back hh S1.zh ww wh nw tp rt nd own (.inr (by rw[T.clean];exact hc));exact kk _ H' Z' (z1.trans z') (k1.trans hh) S')
def VD{res:A->B1}(a:A)(M:Mk X.K (CL c) f)(F:dP X.prog X.w X.K X.mg X.base pZ k f fd ps (spI X.K CL c n arg Pre res))(hr:dU (k+1) X.A)(hm:X.mg x=some (.ref (CL c)))(hb:Binds X.K fd ps [])
   (h:GQ X CL b (e::es) δ ((arg a).map T.sh) δ1) (hn:(arg a).length+1=n) (hp:Pre a) (hg:Gl X x)
   (su:AD x:=by decide) (he:AC X e es:=by exact aZ rfl) (hpl:AL X pos es:=by rfl) :
   bO X CL b (.Call (.Name x pp) (e::es) [] pos) δ (.ins c (res a)) δ1:=fun H Z σ ts vs Q S kk=>
 bP (O1 M F hr hg hm hb .nil sG Jz su he hpl) (h H Z σ ts vs _ S fun us H1 Z1 hl z1 k1 S1 x dx hx hdx ne=>by
   rw[asx];have hl':us.length=(arg a).length:=by rw[hl,ar3]
   have S2:=S1.drops (by simp[hl']);refine⟨Z1,H1,a,x,dx,us,rfl,hx,hdx,ne,rfl,S1.zh,S1.tp,S1.Pn hl',hn,hp,S1.RN,fun H' W' fp hh ww wh nw tp rt nd own=>⟨rfl,?_⟩⟩;obtain⟨Z',z',S'⟩:=S2.back hh (.refl _) ww wh nw tp rt nd own (.inl rfl);exact kk _ H' Z' (z1.trans z') (k1.trans hh) S')
def aaE{res:A->T}{fs:Cs}{ds:At}{pl:Sem Bool}(a:A)(cc:kO X.K (CL c))(hm:Meth X.K (CL c) m f)(F:dP X.prog X.w X.K X.mg X.base pZ k f fd ps (GX X.K CL n arg Pre res))(hr:dU k X.A)(hb:Binds X.K fd ps [])
   (ho:dD X CL b o δ (.ins c fs) δ1) (hf:fs.lookup m=none) (h:UC X CL b (e::es) δ1 ds δ2) (hab:arg a=.ins c fs::ds) (hn:(arg a).length=n) (hp:Pre a) (hc:(res a).clean=true)
   (he:AC X e es:=by exact aZ rfl) (hpl:AL X pos es:=by rfl)
   (ht:eval (.Call (.Attribute o m apos) (e::es) [] pos) X.env=(do
     let ov ← eval o X.env
     standAt apos.atName
     let (f,first) ← holding [ov] (getMethod ov m pl)
     callWith pos f first (backTo pos (starEach (e::es) X.env)) (backToKw pos (keywordEach [] X.env))):=by rfl) :
   bO X CL b (.Call (.Attribute o m apos) (e::es) [] pos) δ (res a) δ2:=fun H Z σ ts vs Q S kk=>
 bP (OZ cP cc hm F hr hb .nil sG Jz he hpl ht) (ho H Z σ ts vs _ S fun v H1 Z1 z1 k1 S1 r1=>by
   cases r1 with
   | @ins aa dx _ gs _ ha rf=>
     have JA:gs.lookup m=none:=by
       have:∀{fs:Cs} {gs:CA},ic X.K CL H1 fs gs->fs.lookup m=none->gs.lookup m=none:=by
         intro fs gs r
         induction fs generalizing gs with
         | nil=>intro _;cases r;rfl
         | cons p fs ih=>
           cases r with
           | cons q r=>
             intro h;rw[asR]at h ⊢;split at h
             . cases h
             . rename_i hh;exact ih r h
       exact this rf hf
     refine⟨aa,dx,gs,rfl,ha,JA,h H1 Z1 σ ts vs _ S1 fun us H2 Z2 z2 k2 S2 r2=>?_⟩;rw[asx];refine⟨H2,a,.refl _,fun _ _ q _=>q,by rw[hab];exact .cons (.ins (k2 _ _ ha) (rf.mono k2)) r2,hn,hp,S2.RP,fun v H' W' fp hh ww wh nw tp rt nd own=>?_⟩;obtain⟨Z',z',S'⟩:=S2.back hh S2.zh ww wh nw tp rt nd own (.inr hc);exact kk v H' Z' (z1.trans (z2.trans z')) (k1.trans (k2.trans hh)) S')
def VF{res:A->T}{fs:Cs}{pl:Sem Bool}(a:A)(cc:kO X.K (CL c))(hm:Meth X.K (CL c) m f)(F:dP X.prog X.w X.K X.mg X.base pZ k f fd ps (GX X.K CL n arg Pre res))(hr:dU k X.A)(hb:Binds X.K fd ps [])
   (ho:dD X CL b o δ (.ins c fs) δ1) (hf:∀{H:Hp} {gs:CA},ic X.K CL H fs gs->gs.lookup m=none) (hab:arg a=[.ins c fs]) (hn:(arg a).length=n) (hp:Pre a) (hc:(res a).clean=true)
   (ht:eval (.Call (.Attribute o m apos) [] [] pos) X.env=(do
     let ov ← eval o X.env
     standAt apos.atName
     let (f,first) ← holding [ov] (getMethod ov m pl)
     callWith pos f first (backTo pos (starEach [] X.env)) (backToKw pos (keywordEach [] X.env))):=by rfl) :
   bO X CL b (.Call (.Attribute o m apos) [] [] pos) δ (res a) δ1:=fun H Z σ ts vs Q S kk=>
 bP (JS cP cc hm F hr hb .nil sG ht) (ho H Z σ ts vs _ S fun v H1 Z1 z1 k1 S1 r1=>by
   cases r1 with
   | @ins aa dx _ gs _ ha rf=>
     refine⟨aa,dx,gs,rfl,ha,hf rf,?_⟩;refine⟨H1,a,.refl _,fun _ _ q _=>q,by rw[hab];exact .cons (.ins ha rf) .nil,hn,hp,S1.RP,fun v H' W' fp hh ww wh nw tp rt nd own=>?_⟩;obtain⟨Z',z',S'⟩:=S1.back hh S1.zh ww wh nw tp rt nd own (.inr hc);exact kk v H' Z' (z1.trans z') (k1.trans hh) S')
def Pr{mg:Bz}{base:Heap}{qual:Str}{arg:A->At}{Pre:A->Prop}{res:A->B1}(F:kr K x qual st f fd)(S:d7 N ps (av st))
   (hb:∀(jc:Value) (Ar:Around) (outer:Db) (s:Shared) (H:Hp) (E:XK) (b:Bx) (a:A) (y:Addr),dU k (Ar.deeper (envOfC qual (av st) s.heap.objs.size f jc))->Pre a →
     cQ (yS pZ P w K mg base N qual (av st) f jc Ar outer s H E).Z9 CL b (dF st) (some (.pin y (.ins c []))::((arg a).map (fun d=>some (T.sh d))++List.replicate (N.length-((arg a).length+1)) none))
       {nx:=fun δ=>δ[0]? = some (some (.pin y (.ins c (res a)))),rt:=fun _ _=>False}) :
   dP P w K mg base pZ (k+1) f fd ps (spI K CL c ps.length arg Pre res):=by
 refine F.ok S (fun vs H Q E h=>?_) (fun jc Ar outer s H vs Q E hr h=>?_)
 . obtain⟨W,H0,a,y,dx,us,rfl,_,_,_,_,_,_,r,hl,_⟩:=h;rw[asN,← r.length];exact hl
 . obtain⟨W,H0,a,y,dx,us,rfl,hy,hdx,ne,rfl,wh,tp,r,hl,hp,tb,kk⟩:=h;have old:∀{d:Addr} {o:HO},H0 d=some o->upd (upd H0 dx (.own y)) y (.ins (CL c) dx []) d=some o:=fun {d o} q=>by
     rw[ak (bL q hy),ak (bL q hdx)];exact q
   refine⟨_,Mb,hb jc Ar outer s _ E ⟨H0,W⟩ a y hr hp _ W _ [] [] _ ⟨⟨[y]++[],[],?_,.nil,Uf,fun d hd=>?_⟩,fun d o q=>old q,.refl _,fun d o q=>old (wh d o q),fun d o q z=>?_,fun d o q i=>?_,tb⟩ ⟨fun δ' σ' H' Z' s' S' e=>?_,fun t v H' Z' δ' σ' s' S' e=>e.elim,fun _ _ _ _ _ _ e=>e.elim,fun _ _ _ _ _ _ e=>e.elim⟩⟩
   . unfold L2.start;rw[asA,asN,asO,← r.length];exact .cons (.pin (.ins aD .nil)) (kE _ r)
   . have:d=y:=by simpa using hd
     subst this;exact⟨Mf wh hy,hy⟩
   . have q':W d=some o:=q;have z':W d=none:=z;rw[q']at z';cases z'
   . by_cases h1:d=y
     . subst h1;rw[aD]at q;cases q;cases i
     . rw[ak h1]at q;by_cases h2:d=dx
       . subst h2;rw[aD]at q;cases q;cases i
       . rw[ak h2]at q;exact tp d o q i
   . obtain⟨fp,gp,eE,_,nd,own⟩:=S'.rep;obtain⟨v,f1,f2,f3,hv,oq,rt,_,_⟩:=eE.get e;subst oq;cases rt with
     | pin rt=>
       refine kk H' Z' f2 S'.bh S'.zz S'.zh S'.new S'.tp rt ?_ fun d hd=>own d (by simp[hd]);have h1:=(asX.mp nd).1;exact(asX.mp (asX.mp h1).2.1).1
variable{body:CU}{ds sP:At}
theorem Pu(g:Gx X)(P:Ev)(m:Nat)(h0:P m δ)
   (hs:∀m δ,P m δ->∃p δ1,vU X CL b e δ p δ1 ∧
     (p=true->cQ X CL b body δ1 {nx:=fun δ2=>∃m',m'<m/\P m' δ2,rt:=DD.rt,bk:=fun δ2=>cQ X CL b eW δ2 DD,ct:=fun δ2=>∃m',m'<m/\P m' δ2})/\(p=false->cQ X CL b eW δ1 DD)) :
   cQ X CL b (.While e body [] pos::eW) δ DD:=bI fun H Z σ ts vs E S M=>
 om (UQ g.xe ptS Mb) (by
   refine⟨fun m σ H=>∃Z2 δ2,aC Z Z2/\aR X.K CL b H Z2 δ2 σ ts vs/\P m δ2,⟨m,Z,δ,.refl _,S,h0⟩,?_⟩;rintro m σ H ⟨Z2,δ2,z2,S2,p2⟩;obtain⟨p,δ3,ht,h1,h2⟩:=hs m δ2 p2;refine ht H Z2 σ ts vs _ S2 fun H3 Z3 z3 k3 S3=>?_;cases p with
   | true=>
     rw[ass rfl];refine⟨fun σ' H'=>∃m',m'<m/\∃Z2 δ2,aC Z Z2/\aR X.K CL b H' Z2 δ2 σ' ts vs/\P m' δ2,fun σ' H' q=>q,?_⟩;refine h1 rfl H3 Z3 σ ts vs _ S3 ⟨fun δ' σ' H' Z' s' S' ⟨m',l,q⟩=>⟨m',l,Z',δ',z2.trans (z3.trans s'),S',q⟩,fun t v H' Z' δ' σ' s' S' q=>M.rt t v H' Z' δ' σ' (z2.trans (z3.trans s')) S' q,
       fun δ' σ' H' Z' s' S' q=>M.nx δ' σ' H' Z' (z2.trans (z3.trans s')) S' q,fun δ' σ' H' Z' s' S' ⟨m',l,q⟩=>⟨m',l,Z',δ',z2.trans (z3.trans s'),S',q⟩⟩
   | false=>
     rw[ash Wp];exact M.nx δ3 σ H3 Z3 (z2.trans z3) S3 (h2 rfl))
def ajH(K:Frag):R2:=fun x y H Q=>∃l b xs zs,x=.ref l/\y=.ref b/\ou K H l xs/\ou K H b zs/\xs.length+zs.length<=sizeLine/\∀p,H p=none->Q (.ref p) (upd H p (.lst (xs++zs)))
def Pw:wW X (binaryOp .Add) (ajH X.K):=by
 intro pins s σ H x y v u Q I rx ry h;obtain⟨l,b,xs,zs,rfl,rfl,hH,hB,hz,q⟩:=h;cases rx;cases ry;obtain⟨its,r,pl,_⟩:=I.list hH;obtain⟨vp,r2,pl2,_⟩:=I.list hB;have e1:=r.length;have e2:=r2.length;obtain⟨⟨c1,dd,da1,sl⟩,ho,hc,n,hd⟩:=pl.isList;obtain⟨⟨c2,dd2,da2,ZI⟩,UA,ZJ,n2,hd2⟩:=pl2.isList;cases hc;cases ZJ;cases hd;cases hd2;refine concat_meets ⟨_,ho,rfl⟩ ⟨_,UA,rfl⟩ noFill_list_add seq_list_add PySem.F.slot_list_add PySem.F.entry_list_add (PySem.F.args_list_add_2 (Value.ref l) (Value.ref b))
   (list_addW l b its.toArray vp.toArray n n2 dd dd2 sl ZI (by rw[asy,asy];omega)) ⟨ho,UA,?_⟩
 have ea:its.toArray++vp.toArray=(its++vp).toArray:=by simp
 rw[ea];exact⟨.ref _,_,I.ajn (t':=s.toks) (r.append r2) (by rw[asa];omega),rfl,q _ I.fresh⟩
theorem aB.app{ds sP:At}{vs2:BN}(h:aB K CL Z ds vs)(r2:aB K CL Z sP vs2):aB K CL Z (ds++sP) (vs++vs2):=
 aB.ind (P:=fun ds vs=>aB K CL Z (ds++sP) (vs++vs2)) r2 (fun r _ i=>.cons r i) h
theorem Bl(h1:dD X CL b e1 δ (.lst ds) δ1)(h2:dD X CL b e2 δ1 (.lst sP) δ2)(i1:D.aT ds=true)(i2:D.aT sP=true)(hz:ds.length+sP.length<=sizeLine) :
   bO X CL b (.BinOp e1 .Add e2 pos) δ (.lst ((ds++sP).map T.sh)) δ2:=fun H Z σ ts vs Q S k=>
 bP (Am Pw cP cP) (h1 H Z σ ts vs _ S fun v1 H1 Z1 z1 k1 S1 r1=>h2 H1 Z1 σ ts vs _ S1 fun v2 H2 Z2 z2 k2 S2 r2=>by
   have Vs:=r1.mono k2;cases Vs with
   | lst VG Ka=>
     cases r2 with
     | lst hq2 Lg=>
       refine⟨_,_,_,_,rfl,rfl,VG,hq2,by rw[← Ka.length,← Lg.length];exact hz,fun p hp=>?_⟩;have rc:=aB.app (aB.kB S2.tp i1 Ka) (aB.kB S2.tp i2 Lg);obtain⟨c,S4⟩:=(aR.sM rc S2).sJ (g0:=[]) (by simp[rc.length,Ka.length,Lg.length]) hp;exact k _ _ _ (z1.trans z2) (k1.trans (k2.trans c)) S4)
def boot_min:bootBuiltins "min" = some (.builtin "min"):=by decide +kernel
def boot_max:bootBuiltins "max" = some (.builtin "max"):=by decide +kernel
def boot_str:bootBuiltins "str" = some (.type "str"):=by decide +kernel
def aaI{i j:Int}(g:Gx X)(hm:X.mg "min" = none)(hg:Gl X "min")(h:UC X CL b [e1,e2] δ [.int i,.int j] δ1)(hs:starEach [e1,e2] X.env=(false,eval e1 X.env)::starEach [e2] X.env:=by exact aZ rfl)(hpl:(backTo pos (starEach [e2] X.env)).any (·.1)=false:=by rfl) :
   bO X CL b (.Call (.Name "min" pp) [e1,e2] [] pos) δ (.sh (.int (if j<i then j else i))) δ1:=fun H Z σ ts vs Q S k=>
 bP (qb (Ro g.calm) hg hm boot_min Jz (he:=hs) (hpl:=hpl)) (h H Z σ ts vs _ S fun us H1 Z1 z1 k1 S1 r=>by
   cases r with
   | cons r1 r=>
     cases r with
     | cons r2 r=>
       cases r;rw[r1.sc rfl,r2.sc rfl];exact⟨i,j,rfl,k _ H1 Z1 z1 k1 (S1.push (.int _))⟩)
def Px{i j:Int}(g:Gx X)(hm:X.mg "max" = none)(hg:Gl X "max")(h:UC X CL b [e1,e2] δ [.int i,.int j] δ1)(hs:starEach [e1,e2] X.env=(false,eval e1 X.env)::starEach [e2] X.env:=by exact aZ rfl)(hpl:(backTo pos (starEach [e2] X.env)).any (·.1)=false:=by rfl) :
   bO X CL b (.Call (.Name "max" pp) [e1,e2] [] pos) δ (.sh (.int (if j > i then j else i))) δ1:=fun H Z σ ts vs Q S k=>
 bP (qb (Rn g.calm) hg hm boot_max Jz (he:=hs) (hpl:=hpl)) (h H Z σ ts vs _ S fun us H1 Z1 z1 k1 S1 r=>by
   cases r with
   | cons r1 r=>
     cases r with
     | cons r2 r=>
       cases r;rw[r1.sc rfl,r2.sc rfl];exact⟨i,j,rfl,k _ H1 Z1 z1 k1 (S1.push (.int _))⟩)
def aaJ{i:Int}(hm:X.mg "str" = none)(hg:Gl X "str")(h:dD X CL b e δ (.int i) δ1)(hi:i.natAbs.log2<1920)(hs:AC X e []:=by exact aZ rfl) :
   bO X CL b (.Call (.Name "str" pp) [e] [] pos) δ (.sh (.str (toString i))) δ1:=fun H Z σ ts vs Q S k=>
 bP (jB GB hg hm boot_str (bY cP dZ hs) (he:=hs)) (h H Z σ ts vs _ S fun v H1 Z1 z1 k1 S1 r=>by
   rw[r.sc rfl];exact⟨i,rfl,hi,k _ H1 Z1 z1 k1 (S1.push (.str _))⟩)
structure Fm(X:Cx)(CL:BC)(x:Str)(k n:Nat){A:Type}(arg:A->At)(Pre:A->Prop)(res:A->B1):Prop where
 ex:∃f fd ps,Mk X.K (CL x) f/\dP X.prog X.w X.K X.mg X.base pZ k f fd ps (spI X.K CL x n arg Pre res)/\X.mg x=some (.ref (CL x))/\Binds X.K fd ps []
 room:dU (k+1) X.A
structure Fq(X:Cx)(CL:BC)(c m:Str)(k n:Nat){A:Type}(arg:A->At)(Pre:A->Prop)(res:A->T):Prop where
 ex:∃f fd ps,Meth X.K (CL c) m f/\dP X.prog X.w X.K X.mg X.base pZ k f fd ps (GX X.K CL n arg Pre res)/\Binds X.K fd ps []
 room:dU k X.A
 cls:kO X.K (CL c)
def VH(N:Ap)(y:Addr)(c:Str)(ds:At):AR:=some (.pin y (.ins c []))::(ds.map (fun d=>some (T.sh d))++List.replicate (N.length-(ds.length+1)) none)
def afX{CL':BC}{arg:AT->At}{pre:AT->Prop}{res:AT->T}(ha:∀a,arg a=[.lst (a.map .int)])(hr:∀a,res a=.sh (.bl true))(h0:∀x,Ph x=true->CL x=0) :
   ∀(vs:BN) (H:Hp) (Q:VK) (E:XK),GX K CL' 1 arg pre res vs H Q E->GX K CL 1 arg pre res vs H Q E:=by
 rintro vs H Q E ⟨W,a,h1,h2,h3,h4,h5,_,k⟩;have afY:∀{l:AT} {us:BN},aB K CL' W (l.map .int) us->aB K CL W (l.map .int) us:=by
   intro l
   induction l with
   | nil=>intro us r;cases r;exact .nil
   | cons i l ih=>
     intro us r;cases r with
     | cons r t=>cases r;exact .cons (.int i) (ih t)
 refine⟨W,a,h1,h2,?_,h4,h5,fun x hx e=>absurd (h0 x hx) e,fun v H' W' fp a1 a2 a3 a4 a5 r nd own=>k v H' W' fp a1 a2 a3 a4 a5 ?_ nd own⟩
 . rw[ha]at h3 ⊢;cases h3 with
   | cons r t=>
     cases t;cases r with
     | lst q rr=>exact .cons (.lst q (afY rr)) .nil
 . rw[hr]at r ⊢;cases r with
   | sh r=>cases r;exact .sh (.bl _)
section
variable{D:dW}
def mk_{arg:A->At}{Pre:A->Prop}{res:A->B1}(a:A)(F:Fm X CL x k n arg Pre res)(hg:Gl X x)(h:UC X CL b (e::es) δ (arg a) δ1)(hp:Pre a)(hc:T.kC (res a)=true)(hn:(arg a).length+1=n:=by rfl)
   (su:AD x:=by decide) (he:AC X e es:=by exact aZ rfl) (hpl:AL X pos es:=by rfl) :
   bO X CL b (.Call (.Name x pp) (e::es) [] pos) δ (.ins x (res a)) δ1:=by
 obtain⟨f,fd,ps,M,F1,m,b⟩:=F.ex;exact aaC a M F1 F.room m b h hn hp hc hg su he hpl
def mkF{arg:A->At}{Pre:A->Prop}{res:A->B1}(a:A)(F:Fm X CL x k n arg Pre res)(hg:Gl X x)(h:GQ X CL b (e::es) δ ((arg a).map T.sh) δ1)(hp:Pre a)(hn:(arg a).length+1=n:=by rfl)
   (su:AD x:=by decide) (he:AC X e es:=by exact aZ rfl) (hpl:AL X pos es:=by rfl) :
   bO X CL b (.Call (.Name x pp) (e::es) [] pos) δ (.ins x (res a)) δ1:=by
 obtain⟨f,fd,ps,M,F1,m,b⟩:=F.ex;exact VD a M F1 F.room m b h hn hp hg su he hpl
end
def ig{f:Str}{d:α}{fs:List (Str×α)}:((f,d)::fs).lookup f=some d:=by
 rw[asR,atV]
def aS{f g:Str}{d:α}{fs:List (Str×α)}(h:(f==g)=false):((g,d)::fs).lookup f=fs.lookup f:=by
 rw[asR,h]
def sQ{f:Str}:jM f t []=[(f,t)]:=rfl
def aW{f g:Str}{u:T}{fs:B1}(h:¬ g=f):jM f t ((g,u)::fs)=(g,u)::jM f t fs:=by
 rw[jM,ash h]
def uB{f:Str}{u:T}{fs:B1}:jM f t ((f,u)::fs)=(f,t)::fs:=by
 rw[jM,ass rfl]
variable{d:L3.D}
abbrev _root_.Dx:=Option At
def Kc(d:L3.D):Dx:=match d with
 | .lst ds=>some ds
 | .tup ds=>some ds
 | _=>none
theorem bq.Kc{ds:At}(r:bq K CL Z d v)(h:L3.Kc d=some ds):∃p us,v=.ref p/\(ou K Z p us\/se K Z p us)/\aB K CL Z ds us:=by
 cases r with
 | tup hq rr=>cases h;exact⟨_,_,rfl,.inr hq,rr⟩
 | lst hq rr=>cases h;exact⟨_,_,rfl,.inl hq,rr⟩
 | non=>cases h
 | bl=>cases h
 | int=>cases h
 | str=>cases h
 | any=>cases h
 | val=>cases h
 | uz=>cases h
 | dct=>cases h
 | ins=>cases h
 | lz=>cases h
def G5(h1:dD X CL b e1 δ (.str x) δ1)(h2:dD X CL b e2 δ1 d δ2)(hd:L3.Kc d=some (l.map .str))(hm:behindInMarks .In e2=false) :
   vU X CL b (.Compare e1 [.In] [e2] pos) δ (decide (x∈l)) δ2/\bO X CL b (.Compare e1 [.In] [e2] pos) δ (.sh (.bl (decide (x∈l)))) δ2:=by
 constructor
 . intro H Z σ ts vs Q S k;refine El (qJ uy cP cP hm) (h1 H Z σ ts vs _ S fun v1 H1 Z1 z1 k1 S1 r1=>h2 H1 Z1 σ ts vs _ S1 fun v2 H2 Z2 z2 k2 S2 r2=>?_);obtain⟨p,us,rfl,hq,rr⟩:=bq.Kc r2 hd;have e:=rr.strs;subst e;refine⟨_,_,rfl,hq,by rw[r1.sc rfl];rfl,gK l,_,rfl,?_⟩;rw[ash asr,r1.sc rfl,qR];exact k H2 Z2 (z1.trans z2) (k1.trans k2) S2
 . intro H Z σ ts vs Q S k;refine bP (uw uy cP cP hm) (h1 H Z σ ts vs _ S fun v1 H1 Z1 z1 k1 S1 r1=>h2 H1 Z1 σ ts vs _ S1 fun v2 H2 Z2 z2 k2 S2 r2=>?_);obtain⟨p,us,rfl,hq,rr⟩:=bq.Kc r2 hd;have e:=rr.strs;subst e;refine⟨_,_,rfl,hq,by rw[r1.sc rfl];rfl,gK l,?_⟩;rw[ash asr,r1.sc rfl,qR];exact k _ H2 Z2 (z1.trans z2) (k1.trans k2) (S2.push (.bl _))
def Py(h1:dD X CL b e1 δ (.str x) δ1)(h2:dD X CL b e2 δ1 d δ2)(hd:L3.Kc d=some (l.map .str))(hm:behindInMarks .NotIn e2=false) :
   vU X CL b (.Compare e1 [.NotIn] [e2] pos) δ (!decide (x∈l)) δ2/\bO X CL b (.Compare e1 [.NotIn] [e2] pos) δ (.sh (.bl (!decide (x∈l)))) δ2:=by
 constructor
 . intro H Z σ ts vs Q S k;refine El (qJ xj cP cP hm) (h1 H Z σ ts vs _ S fun v1 H1 Z1 z1 k1 S1 r1=>h2 H1 Z1 σ ts vs _ S1 fun v2 H2 Z2 z2 k2 S2 r2=>?_);obtain⟨p,us,rfl,hq,rr⟩:=bq.Kc r2 hd;have e:=rr.strs;subst e;refine⟨_,_,rfl,hq,by rw[r1.sc rfl];rfl,gK l,_,rfl,?_⟩;rw[ass rfl,r1.sc rfl,qR];exact k H2 Z2 (z1.trans z2) (k1.trans k2) S2
 . intro H Z σ ts vs Q S k;refine bP (uw xj cP cP hm) (h1 H Z σ ts vs _ S fun v1 H1 Z1 z1 k1 S1 r1=>h2 H1 Z1 σ ts vs _ S1 fun v2 H2 Z2 z2 k2 S2 r2=>?_);obtain⟨p,us,rfl,hq,rr⟩:=bq.Kc r2 hd;have e:=rr.strs;subst e;refine⟨_,_,rfl,hq,by rw[r1.sc rfl];rfl,gK l,?_⟩;rw[ass rfl,r1.sc rfl,qR];exact k _ H2 Z2 (z1.trans z2) (k1.trans k2) (S2.push (.bl _))
variable{ds:At}
def aX:GQ X CL b [] δ (([]:At).map T.sh) δ:=bK
def aq(h1:bO X CL b e δ (.sh d) δ1)(h2:GQ X CL b es δ1 (ds.map T.sh) δ2)(hs:AC X e es:=by exact aZ rfl):GQ X CL b (e::es) δ ((d::ds).map T.sh) δ2:=aL h1 h2 hs
def lX(h:GQ X CL b es δ (ds.map T.sh) δ1)(hl:ds.length<=sizeLine):bO X CL b (.List es pos) δ (.lst (ds.map T.sh)) δ1:=i9 h (by simpa using hl)
def dX(l:Ap):D.aT (l.map L3.D.str)=true:=gC (fun _=>rfl) _
def xx(h:bO X CL b e δ (.lst (ds.map T.sh)) δ1):bO X CL b e δ (.sh (.lst ds)) δ1:=by
 have:=Mg h
 rwa [T.bG,kP]at this
def Bm(h:bO X CL b e δ t δ1)(q:t.bG=d):bO X CL b e δ (.sh d) δ1:=q▸Mg h
def adX{d2:L3.D}(h:dD X CL b e δ d δ1)(q:d=d2):dD X CL b e δ d2 δ1:=q▸h
def aF{t2:T}(h:bO X CL b e δ t δ1)(q:t=t2):bO X CL b e δ t2 δ1:=q▸h
structure Cg(Z H Z' H':Hp):Prop where
 z:aC Z Z'
 h:aC H H'
 zh:aC Z' H'
 new:∀a o,Z' a=some o->Z a=none->H a=none
 tp:∀a o,H' a=some o->ku o=true->Z' a=some o
theorem Cg.refl(zh:aC Z H)(tp:∀a o,H a=some o->ku o=true->Z a=some o):Cg Z H Z H:=⟨.refl _,.refl _,zh,fun a o q z=>(by rw[q]at z;cases z),tp⟩
theorem Cg.tup{p:Addr}(zh:aC Z H)(tp:∀a o,H a=some o->ku o=true->Z a=some o)(hp:H p=none):Cg Z H (upd Z p (.tup xs)) (upd H p (.tup xs)):=by
 have zp:Z p=none:=zh.free hp;refine⟨aC.upd zp,aC.upd hp,fun a o q=>?_,fun a o q z=>?_,fun a o q i=>?_⟩
 . by_cases e:a=p
   . subst e;rw[aD]at q ⊢;exact q
   . rw[ak e]at q ⊢;exact zh a o q
 . by_cases e:a=p
   . subst e;exact hp
   . rw[ak e,z]at q;cases q
 . by_cases e:a=p
   . subst e;rw[aD]at q ⊢;exact q
   . rw[ak e]at q ⊢;exact tp a o q i
theorem aR.grow(S:aR K CL b H Z δ σ ts vs)(g:Cg Z H Z' H'):aR K CL b H' Z' δ σ ts vs:=by
 obtain⟨fp,gp,e,r,nd,k⟩:=S.rep;have old:∀a∈fp++gp,∃o,H a=some o:=fun a ha=>(asf.mp ha).elim (e.there a) (r.there a);have keep:∀a∈fp++gp,H' a=H a:=fun a ha=>by
   obtain⟨o,q⟩:=old a ha;rw[q];exact g.h a o q
 refine⟨⟨fp,gp,e.mono g.z (fun a ha=>keep a (ase _ ha)),r.mono g.z (fun a ha=>keep a (ar5 _ ha)),nd,fun a ha=>⟨?_,(k a ha).2⟩⟩,S.bh.trans g.h,S.zz.trans g.z,g.zh,fun a o q z=>?_,g.tp,S.tab⟩
 . cases q:Z' a with
   | none=>rfl
   | some o=>
     obtain⟨u,hu⟩:=old a ha;rw[g.new a o q (k a ha).1]at hu;cases hu
 . cases e2:Z a with
   | none=>exact S.bh.free (g.new a o q e2)
   | some u=>
     have:=g.z a u e2;rw[q]at this;cases this;exact S.new a o e2 z
def Pz(δ:AR):Bi->At->AR
 | i::is,d::ds=>Pz (δ.set i (some (.sh d))) is ds
 | _,_=>δ
def Ci(σ:L2.St):Bi->BN->L2.St
 | i::is,v::vs=>Ci (σ.set i (some v)) is vs
 | _,_=>σ
theorem aR.sets{ps:At}{ys:BN}:∀{is:Bi} {δ:AR} {σ:L2.St},aR K CL b H Z δ σ ts vs->aB K CL Z ps ys->(∀i∈is,i<δ.length)->aR K CL b H Z (Pz δ is ps) (Ci σ is ys) ts vs:=by
 intro is
 induction is generalizing ps ys with
 | nil=>
   intro δ σ S r _;cases ps<;>cases ys<;>exact S
 | cons i is ih=>
   intro δ σ S r hl;cases r with
   | nil=>exact S
   | cons r rr=>exact ih ((S.push r).set (hl i ar4)) rr (fun j hj=>by rw[at8];exact hl j (ar9 _ hj))
section
variable{tg:Expr}{ds:At}
structure G6(X:Cx)(CL:BC)(b:Bx)(δ1:AR)(σ:L2.St)(ts:Bn)(vs:BN)(Z H:Hp)(ds:At)(J:It)(H1:Hp):Prop where
 ex:∃Z1,aC Z Z1/\aC H H1/\aR X.K CL b H1 Z1 δ1 σ ts vs/\(∀i H2,aC Z1 H2->i<ds.length->J.go i H2) ∧
   (∀i Z2 H2 x H',aC Z1 Z2->aC Z2 H2->(∀a o,H2 a=some o->ku o=true->Z2 a=some o)->i<ds.length->J.yld i H2 x H'->∃Z3 d,ds[i]? = some d/\Cg Z2 H2 Z3 H'/\bq X.K CL Z3 d x)/\(∀H2,aC Z1 H2->J.stop ds.length H2)
def GIt(X:Cx)(CL:BC)(b:Bx)(tg e:Expr)(δ:AR)(ds:At)(δ1:AR):Prop:=
 ∃wi,PI X tg e wi/\∀(H Z:Hp) (σ:L2.St) (ts:Bn) (vs:BN) (R:It->Hp->Prop),aR X.K CL b H Z δ σ ts vs->(∀J H1,G6 X CL b δ1 σ ts vs Z H ds J H1->R J H1)->wi σ H R
def VJ(h:Vv X CL b tg iter δ ds δ1):GIt X CL b tg iter δ ds δ1:=by
 obtain⟨wi,pi,hw⟩:=h;refine⟨wi,pi,fun H Z σ ts vs R S k=>hw H Z σ ts vs R S fun J H1 zz=>?_⟩;obtain⟨Z1,us,z1,k1,S1,rr,go,yl,st⟩:=zz;refine k J H1 ⟨Z1,z1,k1,S1,go,fun i Z2 H2 x H' s1 s2 tp hi hy=>?_,st⟩;obtain⟨e,hu⟩:=yl i H2 x H' (s1.trans s2) hi hy;subst e;obtain⟨d,hd,rd⟩:=rr.aar hu;exact⟨Z2,d,hd,.refl s2 tp,rd.mono s1⟩
def Tgt(X:Cx)(CL:BC)(tg:Expr)(is:Bi)(parts:D->Dx):Prop:=
 ∃t:TG,PG X tg t/\∀(Z H:Hp) (d:D) (ps:At) (x:V) (σ:L2.St) (Q:L2.St->Hp->Prop),aC Z H->bq X.K CL Z d x->parts d=some ps->(∀ys,aB X.K CL Z ps ys->Q (Ci σ is ys) H)->t x σ H Q
def part1(d:D):Dx:=some [d]
def part2:D->Dx
 | .tup [a,c]=>some [a,c]
 | _=>none
def RV{d:D}{ps:At}(h:part2 d=some ps):∃d1 d2,d=.tup [d1,d2]/\ps=[d1,d2]:=by
 unfold part2 at h;split at h
 . cases h;exact⟨_,_,rfl,rfl⟩
 . cases h
theorem Mq{d:D}{ps:At}{x:V}{Q:L2.St->Hp->Prop}(zh:aC Z H)(r:bq K CL Z d x)(e:part2 d=some ps)(k:∀ys,aB K CL Z ps ys->Q (Ci σ [i,j] ys) H):ae2 K 2 (JQ (Al i) (JQ (Al j) ae1)) x σ H Q:=by
 obtain⟨d1,d2,rfl,rfl⟩:=RV e;cases r with
 | tup hq rr=>
   cases rr with
   | cons r1 rr=>
     cases rr with
     | cons r2 rr=>
       cases rr;exact⟨_,_,rfl,aC.A4 zh hq,rfl,_,_,rfl,_,_,rfl,rfl,k _ (.cons r1 (.cons r2 .nil))⟩
def VL{px:Pos}(hN:X.N.Nodup)(n:Ln X i x):Tgt X CL (.Name x px) [i] part1:=
 ⟨Al i,oz hN n.hi n.loc n.hf,fun Z H d ps x σ Q zh r e k=>by
   cases e;exact k [x] (.cons r .nil)⟩
def PB{y:Str}{px py pt:Pos}(hN:X.N.Nodup)(hc:X.calm=true)(n:Ln X i x)(m:Ln X j y)(hs:(assignEach [.Name x px,.Name y py] X.env).map (·.2)=assign (.Name x px) X.env::(assignEach [.Name y py] X.env).map (·.2):=by rfl)(JR:(assignEach [.Name y py] X.env).map (·.2)=assign (.Name y py) X.env::(assignEach [] X.env).map (·.2):=by rfl)
   (hn:(assignEach [.Name x px,.Name y py] X.env).length=2:=by rfl) (pY:(assignEach [.Name x px,.Name y py] X.env).findIdx? (·.1)=none:=by rfl):Tgt X CL (.Tuple [.Name x px,.Name y py] k pt) [i,j] part2:=
 ⟨ae2 X.K 2 (JQ (Al i) (JQ (Al j) ae1)),UO hc (wZ (oz hN n.hi n.loc n.hf) (wZ (oz hN m.hi m.loc m.hf) OU JR) hs) hn pY,fun Z H d ps x σ Q zh r e k=>Mq zh r e k⟩
def aaK{D:dW}(is:Bi)(parts:L3.D->Dx)(P:Ev)(h:GIt X CL b tg iter δ ds δ1)(ht:Tgt X CL tg is parts)(h0:P 0 δ1)(hl:∀j δ,P j δ->∀i∈is,i<δ.length)
   (hs:∀j d δ,ds[j]? = some d->P j δ->∃ps,parts d=some ps/\cQ X CL b eW (Pz δ is ps) {nx:=P (j+1),rt:=D.rt,bk:=D.nx,ct:=P (j+1)}) (hd:∀δ,P ds.length δ->D.nx δ)
   (hp:PassesOwn (model X.prog X.w) X.A X.env X.xe) (hc:X.calm=true) (hq:AN X iter:=by intro _;rfl) :
   UD X CL b (.For tg iter eW [] pos) δ D:=fun H Z σ ts vs E S M=>by
 obtain⟨wi,pi,hw⟩:=h;obtain⟨t,pg,ht⟩:=ht;refine om (GA hp hc pi pg Mb hq) (hw H Z σ ts vs _ S fun J H1 zz=>?_);obtain⟨Z1,z1,k1,S1,go,yl,st⟩:=zz;refine⟨fun j m σ H2=>m=ds.length-j/\j<=ds.length/\∃Z2 δ2,aC Z1 Z2/\aR X.K CL b H2 Z2 δ2 σ ts vs/\P j δ2,⟨_,rfl,asU _,Z1,δ1,.refl _,S1,h0⟩,?_⟩;rintro j m σ H2 ⟨rfl,hj,Z2,δ2,s,S2,p2⟩;by_cases m7:j<ds.length
 . refine .inr ⟨go j H2 (s.trans S2.zh) m7,fun σ' H'=>∃Z2 δ2,aC Z1 Z2/\aR X.K CL b H' Z2 δ2 σ' ts vs/\P (j+1) δ2,fun σ' H' h=>⟨ds.length-(j+1),We,rfl,m7,h⟩,fun y H' hy=>?_⟩;obtain⟨Z3,d,Gu,gr,rd⟩:=yl j Z2 H2 y H' s S2.zh S2.tp m7 hy;obtain⟨ps,hps,hb⟩:=hs j d δ2 Gu p2;have S3:=S2.grow gr;refine ht Z3 H' d ps y σ _ S3.zh rd hps fun ys rys=>?_;have S4:=S3.sets (is:=is) rys (hl j δ2 p2);have s3:=s.trans gr.z;exact hb _ Z3 _ ts vs _ S4 ⟨fun δ' σ' H' Z' s' S' k=>⟨Z',δ',s3.trans s',S',k⟩,fun t v H' Z' δ' σ' s' S' k=>M.rt t v H' Z' δ' σ' (z1.trans (s3.trans s')) S' k,fun δ' σ' H' Z' s' S' k=>M.nx δ' σ' H' Z' (z1.trans (s3.trans s')) S' k,fun δ' σ' H' Z' s' S' k=>⟨Z',δ',s3.trans s',S',k⟩⟩
 . have e:j=ds.length:=by omega
   subst e;exact .inl ⟨st H2 (s.trans S2.zh),M.nx δ2 σ H2 Z2 (z1.trans s) S2 (hd δ2 p2)⟩
def VM{D:dW}{is:Bi}{parts:L3.D->Dx}(g:Gx X)(ht:Tgt X CL tg is parts)(P:Ev)(h:GIt X CL b tg iter δ ds δ1)(h0:P 0 δ1)(hl:∀j δ,P j δ->∀i∈is,i<δ.length)
   (hs:∀j d δ,ds[j]? = some d->P j δ->∃ps,parts d=some ps/\cQ X CL b body (Pz δ is ps) {nx:=P (j+1),rt:=D.rt,bk:=fun δ2=>cQ X CL b eW δ2 D,ct:=P (j+1)}) (hd:∀δ,P ds.length δ->cQ X CL b eW δ D) (hq:AN X iter:=by intro _;rfl) :
   cQ X CL b (.For tg iter body [] pos::eW) δ D:=
 bI (aaK (D:={D with nx:=fun δ1=>cQ X CL b eW δ1 D}) is parts P h ht h0 hl hs hd g.xe g.calm hq)
end
structure sR(X:Cx)(scope:Scope)(xs:Ap)(Nc:Ap)(ix:Bi):Prop where
 kind:scope.kind=.function
 GZ:∀y∈scope.names,y.2 ≠ .cell
 nd:Nc.Nodup
 names:∀y∈scope.names,y.2=.local->scope.names.lookup y.1=some .local
 own:∀x∈xs,scope.names.lookup x=some .local
 frees:∀y∈scope.names,y.2=.free->scope.names.lookup y.1=some .free/\(X.env.kindOf y.1=some .cell\/X.env.kindOf y.1=some .free)
 hd:Nc=xs++ix.filterMap (X.N[·]?)
 ixs:∀i∈ix,∃y,X.N[i]? = some y/\scope.names.lookup y=some .free
def RW(σ:L2.St)(ix:Bi)(os:List (Option V)):L2.St:=os++ix.map fun i=>(σ[i]?).getD none
variable{xs:Ap}
def Kd(sc:sR X scope xs Nc ix)(I:Inv X pins σ H s)(oq:∀b∈fp,AZ X pins H b/\b<s.heap.objs.size){h':Heap}{m:Bz}{tk:Nat}
   (hn:h'.Ns s.heap.objs.size m) (hk:∀b o,s.heap.get? b=some o->h'.get? b=some o) :
   Inv (cR X scope Nc s.heap.objs.size s H fp) [] (RW σ ix (List.replicate xs.length none)) H {s with heap:=h',toks:=tk}:=by
 have frees:∀y∈scope.names,y.2=.free->∃c,X.env.cells.lookup y.1=some c:=fun y hy e=>I.ok.has y.1 (sc.frees y hy e).2;have sub:∀{y:Str} {c:Addr},(jK X.env scope.names []).lookup y=some c->X.env.cells.lookup y=some c:=fun {y c} e=>vX frees (fun _ _ z=>by cases z) e;have hlen:(RW σ ix (List.replicate xs.length none)).length=Nc.length:=by
   have all:∀l:Bi,(∀i∈l,∃y,X.N[i]? = some y/\scope.names.lookup y=some .free)->(l.filterMap (X.N[·]?)).length=l.length:=by
     intro l
     induction l with
     | nil=>intro _;rfl
     | cons i r ih=>
       intro h;obtain⟨y,e,_⟩:=h i ar4;rw[ati,e];show _+1=_+1;rw[ih fun j hj=>h j (ar9 _ hj)]
   unfold RW;rw[sc.hd,asa,asa,ar3,atD,all ix sc.ixs]
 have C0:s.heap.get? s.heap.objs.size=none:=Heap.get?_none_of_le (asp _);refine⟨⟨I.ok.mod,sc.kind,I.ok.glob,I.ok.blt,asp _,fun y z c h1 h2=>I.ok.inj y z c (sub h1) (sub h2),fun y hy=>?_,fun y c hf _=>(by cases (show false=true from hf)),I.ok.hd,I.ok.frames,.inl rfl,fun b hb=>⟨as8 (oq b hb).2,fun y c e=>(oq b hb).1.2.2.2.2.1 y c (sub e)⟩,I.bs,asV I.ok.Ux I.sz,fun b o e hb=>?_,fun b hb hf=>?_,I.stack,I.Gw⟩,
   rfl,I.bare,Un.kept hk,⟨m,hn,fun i y v h1 h2 h3=>?_⟩,fun y c e=>?_,I.cW.fresh (asp _),fun y c e=>I.lR y c (sub e),fun p hp=>absurd (show p∈([]:BA) from hp) Uf,I.cW.kept hk,hlen⟩
 .
   have hy':(relabel scope X.env).names.lookup y=some .cell\/(relabel scope X.env).names.lookup y=some .free:=hy;cases e:scope.names.lookup y with
   | none=>
     have:=lS (env:=X.env) e;rcases hy' with q|q<;>(rw[show(relabel scope X.env).names.lookup y=none from this]at q;cases q)
   | some k=>
     have q:=iG (env:=X.env) e;have hk:k=.free:=by
       by_cases hk:k=.free
       . exact hk
       . have hb:(k==NameKind.free)=false:=by simpa using hk
         rw[ash (by rw[hb];simp)]at q;have nc:k ≠ .cell:=fun z=>by
           subst z;exact sc.GZ _ (atO e) rfl
         rcases hy' with z|z
         . rw[show(relabel scope X.env).names.lookup y=some k from q]at z;exact absurd (asE z) nc
         . rw[show(relabel scope X.env).names.lookup y=some k from q]at z;exact absurd (asE z) hk
     subst hk;exact vY e
 .
   rcases(oq b hb).1.2.2.2.1 with z|z
   . exact I.ok.Lx b o e z
   . exact absurd (as5 (asH e) (asV I.ok.Ux z)) (auS _)
 . rcases asb.mp (I.Gv b hf) with z|z
   . exact(oq b hb).1.2.1 z
   . exact(oq b hb).1.2.2.1 z
 .
   unfold RW at h2;by_cases hi:i<xs.length
   . rw[as1 (by rw[atD];exact hi),List.getElem?_replicate,ass hi]at h2;cases h2
   . obtain⟨n,rfl⟩:∃n,i=xs.length+n:=⟨i-xs.length,We⟩;rw[auq (by rw[atD];omega),atD,Nat.add_sub_cancel_left,asi]at h2;cases ei:ix[n]? with
     | none=>rw[ei]at h2;cases h2
     | some j=>
       rw[ei]at h2;have h2':(σ[j]?).getD none=some v:=asE h2;have hj:σ[j]? = some (some v):=by
         cases q:σ[j]? with
         | none=>rw[q]at h2';cases h2'
         | some o=>rw[q]at h2';exact congrArg some h2'
       obtain⟨y',hy1,hy2⟩:=sc.ixs j (asu ei);have hNc:Nc[xs.length+n]? = some y':=by
         have all:∀(l:Bi) (i:Nat),(∀j∈l,∃y,X.N[j]? = some y/\scope.names.lookup y=some .free)->l[i]? = some j->(l.filterMap (X.N[·]?))[i]? = some y':=by
           intro l
           induction l with
           | nil=>intro i _ h;simp at h
           | cons a r ih=>
             intro i h hi;obtain⟨ya,ea,_⟩:=h a ar4;rw[ati,ea];cases i with
             | zero=>
               simp at hi;subst hi;rw[hy1]at ea;cases ea;rfl
             | succ i=>exact ih i (fun j hj=>h j (List.mem_cons_of_mem _ hj)) (by simpa using hi)
         rw[sc.hd,auq We,Nat.add_sub_cancel_left];exact all ix n sc.ixs ei
       have ey:y'=y:=by
         have h1':Nc[xs.length+n]? = some y:=h1;rw[hNc]at h1';exact asE h1'
       subst ey;have O2:=(sc.frees (y',.free) (atO hy2) rfl).2;have anc:Vis X.env.scope y':=O2.elim (fun z=>.inr (.inl z)) (fun z=>.inr (.inr z));obtain⟨m0,hn0,hl0⟩:=I.loc;obtain⟨u,ru,lk⟩:=hl0 j y' v hy1 hj anc;refine⟨u,ru,?_⟩;rcases lk with⟨kk,_⟩|⟨_,c,hc,Ak⟩
       . rcases O2 with z|z
         . rw[kk]at z;cases z
         . rw[kk]at z;cases z
       . obtain⟨c',hc'⟩:=vY (env:=X.env) (cs:=[]) hy2;have:c'=c:=by
           have:=sub hc';rw[hc]at this;exact(asE this).symm
         subst this;obtain⟨o,ho,hd⟩:=Ak;refine .inr ⟨?_,c',hc',o,hk _ _ ho,hd⟩;have q:=iG (env:=X.env) hy2;show(relabel scope X.env).names.lookup y'=some .cell\/(relabel scope X.env).names.lookup y'=some .free;rw[show(relabel scope X.env).names.lookup y'=_ from q];split
         . exact .inl rfl
         . exact .inr rfl
 . obtain⟨v,o,ho,hd⟩:=I.cell y c (sub e);exact⟨v,o,hk _ _ ho,hd⟩
def VN(X:Cx)(tg elt:Expr)(ifs:CS)(n:Nat)(σ:L2.St)(ix:Bi)(D:Addr)(N:Hp->Prop)(xv:V)(os:List (Option V))(H3:Hp):Prop:=
 ∃t:TG,PG X tg t/\t xv (RW σ ix os) H3 fun σ8 H4=>∃os',os'.length=n/\σ8=RW σ ix os'/\afL X ifs σ8 H4 fun ok H5=>
   if ok=true then A5 X elt σ8 H5 fun y H6=>∃acc,H6 D=some (.lst acc)/\acc.length<sizeLine/\N (upd H6 D (.lst (acc++[y]))) else N H5
variable{tg:Expr}{it:Addr}
def Mr{J:It}{tn:Nat->Heap->Prop}{G:Addr->Hp->Prop}{RR:Value->Addr->Result->Shared->Prop}{E:BB}
   (sc:sR X scope xs Nc ix) (hc:X.calm=true) (I:Inv X pins σ H s) (Tn:Turn X.prog X.w X.K tg J fp it tn) (st:tn 0 s.heap) (hf:∀b∈fp,AZ X pins H b)
   (loop:∀D,H D=none->∃W:Nat->Nat->Hp->Prop,(∃m,W 0 m (upd H D (.lst [])))/\∀i m H2,W i m H2->(J.stop i H2/\G D H2) ∨
     (J.go i H2/\∃N:Hp->Prop,(∀H',N H'->∃m',m'<m/\W (i+1) m' H')/\∀xv H3,J.yld i H2 xv H3->∀C s0 H0 f0 os,os.length=xs.length->VN (cR X scope Nc C s0 H0 f0) tg elt ifs xs.length σ ix D N xv os H3))
   (hRR:∀D C s' H',(∃m,s'.heap.Ns C m)->(∃o,s'.heap.get? C=some o/\∀v,o.data ≠ .cell v)->H' C=none->(C≠X.env.locals/\C∉X.fs/\X.s₀.heap.objs.size<=C/\(∀y c,X.env.cells.lookup y=some c->c≠C)/\∀q∈X.pn++pins,q.1≠C)->(∀h',Heap.SameBut C s'.heap h'->Inv X pins σ H' {s' with heap:=h'})->G D H'->RR (.ref D) C (.ok .next) s') :
   wpAny (model X.prog X.w) X.A (newList []) (fun acc s₃=>wpAny (model X.prog X.w) X.A (newFunctionEnv scope X.env.globals (jK X.env scope.names []) [] X.env.qual none .none (some X.env)) (fun VP s₄=>
     codeAny (model X.prog X.w) X.A (.compStart (.ListComp elt [⟨tg,iter,ifs,0⟩] scope pos) 0 (.ref it) acc {VP with scope:=relabel scope X.env}) (RR acc VP.locals) s₄) E s₃) E s:=by
 refine atf ?_;have I3:Inv X pins σ (upd H s.heap.objs.size (.lst [])) {s with heap:=s.heap.push {cls:=.type "list",dict:=none,data:=.seq ([]:BY).toArray}}:=
   I.laid (t':=s.toks) (fun b u e=>asv _ e) (asp _) ⟨by show 0<=sizeLine;exact asU _,[],0,.nil,asM _ rfl⟩
 have hD:H s.heap.objs.size=none:=I.cW.fresh (asp _);obtain⟨W,⟨m0,w0⟩,turn⟩:=loop _ hD;have VQ:∀b∈fp,AZ X pins (upd H s.heap.objs.size (.lst [])) b/\b<(s.heap.push {cls:=.type "list",dict:=none,data:=.seq ([]:BY).toArray}).objs.size:=fun b hb=>by
   obtain⟨f0,f1⟩:=hf b hb;obtain⟨o,ho,_⟩:=Tn.obj 0 _ st b hb;have m7:=asH ho;refine⟨⟨by rw[ak (as8 m7)];exact f0,f1⟩,?_⟩;rw[Heap.size_push];exact Nat.lt_succ_of_lt m7
 have st3:tn 0 (s.heap.push {cls:=.type "list",dict:=none,data:=.seq ([]:BY).toArray}):=Tn.keep 0 _ _ st fun b _ o e=>asv _ e;generalize hs3:({s with heap:=s.heap.push {cls:=.type "list",dict:=none,data:=.seq ([]:BY).toArray}}:Shared)=s3 at I3 ⊢;have hh3:s3.heap=s.heap.push {cls:=.type "list",dict:=none,data:=.seq ([]:BY).toArray}:=by rw[← hs3]
 rw[← hh3]at VQ st3;refine wpAny_newFunctionEnv sc.GZ (by intro y hy;simp at hy) (fun h₁ af0 af1=>?_) sc.kind;have old:∀b o,s3.heap.get? b=some o->h₁.get? b=some o:=fun b o e=>(af1.2 b (as8 (asH e))).trans (asv _ e);have J0:=Kd (tk:=s3.toks+([]:D1).length) sc I3 VQ af0 old;have st4:tn 0 h₁:=Tn.keep 0 _ _ st3 fun b _ o e=>old b o e;have ad0:∀s4:Shared,s4={s3 with heap:=h₁,toks:=s3.toks+([]:D1).length}->codeAny (model X.prog X.w) X.A (.compLoop (.ListComp elt [⟨tg,iter,ifs,0⟩] scope pos) 0 (.ref it) (.ref s.heap.objs.size) (compEnvC scope (jK X.env scope.names []) s3.heap.objs.size X.env)) (RR (.ref s.heap.objs.size) s3.heap.objs.size) s4:=by
   rintro s4 rfl;have stat:∀{H':Hp},(∀b∈fp,H' b=none)->∀b∈fp,AZ (cR X scope Nc s3.heap.objs.size s3 (upd H s.heap.objs.size (.lst [])) fp) [] H' b:=fun {H'} hn b hb=>by
     obtain⟨⟨f0,f1,f2,f3,f4,f5⟩,m7⟩:=VQ b hb;refine⟨hn b hb,as8 m7,fun z=>?_,.inl hb,fun y c e=>f4 y c (vX (fun y hy e=>I.ok.has y.1 (sc.frees y hy e).2) (fun _ _ z=>by cases z) e),fun p hp=>absurd (show p∈([]:BA) from hp) Uf⟩;rcases asb.mp (I3.Gv b z) with q|q
     . exact f1 q
     . exact f2 q
   refine GY (fun n s'=>∃i o H',o.length=xs.length/\Inv (cR X scope Nc s3.heap.objs.size s3 (upd H s.heap.objs.size (.lst [])) fp) [] (RW σ ix o) H' s'/\tn i s'.heap/\(∀b∈fp,H' b=none)/\W i n H') ?_ m0 ⟨0,_,_,atD,J0,st4,fun b hb=>(VQ b hb).1.1,w0⟩;rintro n s5 ⟨i,o5,H5,ol5,I5,st5,fr5,w5⟩;rcases turn i n H5 w5 with⟨stop,g⟩|⟨go,N,hN,step⟩
   . refine fX (Tn.done (cR X scope Nc s3.heap.objs.size s3 (upd H s.heap.objs.size (.lst [])) fp) rfl rfl rfl hc i [] s5 _ H5 _ I5 (stat fr5) st5 stop) fun r s6 zz=>?_;obtain⟨hr,I6⟩:=zz;subst hr;obtain⟨m6,hn6,_⟩:=I6.loc;obtain⟨oc,esc,epc,hoc,hdc,_⟩:=id hn6;have fpC:=I3.Eh (asp s3.heap.objs.size) (H':=fun _=>none) rfl;refine hRR _ _ s6 H5 ⟨m6,hn6⟩ ⟨oc,hoc,fun v z=>by rw[hdc]at z;cases z⟩ I6.free ⟨fpC.2.1,fpC.2.2.1,?_,fpC.2.2.2.2.1,fpC.2.2.2.2.2⟩ (fun h' hs'=>RQ I3 (fun b hb=>(VQ b hb).1) I6 hs') g;exact I3.sz
   . refine fX (Tn.item (cR X scope Nc s3.heap.objs.size s3 (upd H s.heap.objs.size (.lst [])) fp) rfl rfl rfl hc i [] s5 _ H5 _ I5 (stat fr5) st5 go) fun r s6 zz=>?_;obtain⟨u,hr,h6⟩:=zz;subst hr;refine fX h6 fun _ s7 zz=>?_;obtain⟨xv,H7,I7,r7,y7,RX,fr7⟩:=zz;have I7':=I7.pinned (stat fr7) (Tn.obj _ _ RX);obtain⟨t,hg,ht⟩:=step xv _ y7 s3.heap.objs.size s3 (upd H s.heap.objs.size (.lst [])) fp o5 ol5;refine fX (hg _ s7 _ H7 xv u _ I7' r7 ht) fun _ s8 zz=>?_;obtain⟨σ8,H8,I8,os8,ol8,e8,h8⟩:=zz;subst e8;refine fX (Vu I8 h8 rfl) fun ok s9 zz=>?_;obtain⟨H9,I9,q9⟩:=zz;have again:∀{Ha:Hp} {sa:Shared},Inv (cR X scope Nc s3.heap.objs.size s3 (upd H s.heap.objs.size (.lst [])) fp) ([]++BX fp s7.heap) (RW σ ix os8) Ha sa->N Ha->∃m,m<n/\∃i o H',o.length=xs.length/\Inv (cR X scope Nc s3.heap.objs.size s3 (upd H s.heap.objs.size (.lst [])) fp) [] (RW σ ix o) H' sa/\tn i sa.heap/\(∀b∈fp,H' b=none)/\W i m H':=fun {Ha sa} Ia na=>by
       obtain⟨m',hm,wa⟩:=hN Ha na;refine⟨m',hm,i+1,os8,Ha,ol8,Ia.w4,Tn.keep _ _ _ RX fun b hb o e=>(Ia.pin (b,o) (ar5 _ (ar5 _ (qI hb e)))).1,fun b hb=>?_,wa⟩;obtain⟨o,e,d⟩:=Tn.obj _ _ RX b hb;exact(Ia.pin (b,o) (ar5 _ (ar5 _ (qI hb e)))).2.1
     cases ok with
     | false=>
       rw[ash asr]at q9 ⊢;exact again I9 q9
     | true=>
       rw[ass rfl]at q9 ⊢;refine fX (q9 _ s9 I9) fun v sa zz=>?_;obtain⟨y,Ha,Ia,ra,acc,anf,hlen,na⟩:=zz;refine fX (yT (X:=cR X scope Nc s3.heap.objs.size s3 (upd H s.heap.objs.size (.lst [])) fp) _ sa _ Ha (.ref s.heap.objs.size) [y] (.ref s.heap.objs.size) [v] (fun _ Hb=>Hb=upd Ha s.heap.objs.size (.lst (acc++[y]))) Ia rfl (.cons ra .nil) ⟨_,acc,y,rfl,rfl,anf,hlen,rfl⟩) fun _ sb zz=>?_;obtain⟨_,Hb,Ib,_,eb⟩:=zz;subst eb;exact again Ib na
 exact codeAny_compStart_list (ad0 _ rfl) (Tn.self _ 0 _ _ _ st4 (ad0 _ rfl))
def RZ(ps:At):AR:=ps.map fun p=>some (.sh p)
theorem FI:∀{ys:BN} {os:List (Option V)} {pre r:L2.St},os.length=ys.length->Ci (pre++(os++r)) (List.range' pre.length ys.length) ys=pre++(ys.map some++r)
 | [],os,pre,r,h=>by
   have:os=[]:=au9.mp h;subst this;rfl
 | y::ys,os,pre,r,h=>by
   match os,h with
   | o::os,h=>
     show Ci ((pre++(o::(os++r))).set pre.length (some y)) (List.range' (pre.length+1) ys.length) ys=_;rw[List.set_append_right _ _ (asp _),Nat.sub_self,List.set_cons_zero];have:=FI (ys:=ys) (os:=os) (pre:=pre++[some y]) (r:=r) (by simpa using h);simp only[asa,asN,List.length_nil,ar7,List.singleton_append]at this;rw[this];simp
def aaL:∀{ps:At} {ys:BN} {δc:AR} {σc:L2.St},aB K CL Z ps ys->eV K CL H Z δc σc []->eV K CL H Z (RZ ps++δc) (ys.map some++σc) []:=fun {ps ys δc σc} h e=>
 aB.ind (P:=fun ps ys=>eV K CL H Z (RZ ps++δc) (ys.map some++σc) []) e (fun r _ i=>.cons (fp:=[]) (gp:=[]) (.sh r) i) h
section
variable{W1:Hp}{δc:AR}{J:It}{ds:At}{p:D->Bool}{g:D->T}{parts:D->Dx}
def yZ(X:Cx)(CL:BC)(scope:Scope)(Nc:Ap)(n:Nat)(tg:Expr)(parts:D->Dx)(ifs:CS)(elt:Expr)(δc:AR)(ds:At)(p:D->Bool)(g:D->T):Prop:=
 ∀C s0 H0 f0 b',Tgt (cR X scope Nc C s0 H0 f0) CL tg (List.range' 0 n) parts/\∀d,d∈ds->∃ps,parts d=some ps/\ps.length=n/\TIv (cR X scope Nc C s0 H0 f0) CL b' ifs (RZ ps++δc) (p d)/\(p d=true->bO (cR X scope Nc C s0 H0 f0) CL b' elt (RZ ps++δc) (g d) (RZ ps++δc))
structure GW(K:Frag)(CL:BC)(H W1:Hp)(D:Addr)(l:Bn)(k:Nat)(H2 Z2:Hp)(Lh:BN)(fp:BM):Prop where
 a1:aC H H2
 a2:aC W1 Z2
 a3:aC Z2 H2
 a4:Z2 D=none
 a5:∀a o,Z2 a=some o->W1 a=none->H a=none
 a6:∀a o,H2 a=some o->ku o=true->Z2 a=some o
 a7:H2 D=some (.lst Lh)
 a8:aJ K CL H2 Z2 l Lh fp
 a9:fp.Nodup
 b1:D∉fp
 b2:∀a∈fp,Z2 a=none/\H a=none
 b3:Lh.length<=k
def Cj(S:aR X.K CL b H Z δ σ ts vs)(zw:aC Z W1)(wh:aC W1 H)(tp:∀a o,H a=some o->ku o=true->W1 a=some o)
   (cap:∀H',eV X.K CL H' W1 δc (ix.map fun i=>(σ[i]?).getD none) []) (inner:yZ X CL scope Nc n tg parts ifs elt δc ds p g)
   (hgo:∀i H2,aC W1 H2->i<ds.length->J.go i H2)
   (hy:∀i Z2 H2 x H',aC W1 Z2->aC Z2 H2->(∀a o,H2 a=some o->ku o=true->Z2 a=some o)->i<ds.length->J.yld i H2 x H'->∃Z3 d,ds[i]? = some d/\Cg Z2 H2 Z3 H'/\bq X.K CL Z3 d x)
   (pY:∀H2,aC W1 H2->J.stop ds.length H2) (hlen:ds.length<=sizeLine) (c:W1=Z\/∀d∈ds,(g d).clean=true) :
   ∀D,H D=none->∃W:Nat->Nat->Hp->Prop,(∃m,W 0 m (upd H D (.lst [])))/\∀i m H2,W i m H2->(J.stop i H2/\∃Z2,aC Z Z2/\aC H H2/\aR X.K CL b H2 Z2 δ σ (.lst ((ds.filter p).map g)::ts) (.ref D::vs)) ∨
     (J.go i H2/\∃N:Hp->Prop,(∀H',N H'->∃m',m'<m/\W (i+1) m' H')/\∀xv H3,J.yld i H2 xv H3->∀C s0 H0 f0 os,os.length=n->VN (cR X scope Nc C s0 H0 f0) tg elt ifs n σ ix D N xv os H3):=by
 intro D hD;have wD:W1 D=none:=wh.free hD;refine⟨fun i m H2=>m=ds.length-i/\i<=ds.length/\∃Z2 Lh fp,GW X.K CL H W1 D (((ds.take i).filter p).map g) i H2 Z2 Lh fp,⟨ds.length,rfl,asU _,W1,[],[],aC.upd hD,.refl _,wh.trans (aC.upd hD),wD,fun a o q z=>?_,fun a o q i=>?_,aD,.nil,atA,Uf,Uf,Uf⟩,?_⟩
 . rw[q]at z;cases z
 . by_cases ha:a=D
   . subst ha;rw[aD]at q;cases q;cases i
   . rw[ak ha]at q;exact tp a o q i
 . rintro i m H2 ⟨rfl,hi,Z2,Lh,fp,hh,wz,zh,zD,nw,tp2,hD2,ra,nd,nD,own,hav⟩;by_cases m7:i<ds.length
   . refine .inr ⟨hgo i H2 (wz.trans zh) m7,fun H'=>∃Z2 Lh fp,GW X.K CL H W1 D (((ds.take (i+1)).filter p).map g) (i+1) H' Z2 Lh fp,fun H' h=>⟨ds.length-(i+1),We,rfl,m7,h⟩,fun xv H3 y C s0 H0 f0 os UB=>?_⟩;obtain⟨Z3,d,hd,gr,rd⟩:=hy i Z2 H2 xv H3 wz zh tp2 m7 y;have af3:∀a,Z2 a=none->(∃o,H2 a=some o)->Z3 a=none:=fun a e ⟨o,e2⟩=>by
       cases q:Z3 a with
       | none=>rfl
       | some u=>rw[gr.new a u q e]at e2;cases e2
     have nw3:∀a o,Z3 a=some o->W1 a=none->H a=none:=fun a o q z=>by
       cases e:Z2 a with
       | none=>exact hh.free (gr.new a o q e)
       | some u=>
         have:=gr.z a u e;rw[q]at this;cases this;exact nw a o e z
     have ra3:aJ X.K CL H3 Z3 (((ds.take i).filter p).map g) Lh fp:=ra.mono gr.z fun a ha=>by
       obtain⟨o,e⟩:=ra.there a ha;rw[e];exact gr.h a o e
     have ow3:∀a∈fp,Z3 a=none/\H a=none:=fun a ha=>⟨af3 a (own a ha).1 (ra.there a ha),(own a ha).2⟩;have zD3:Z3 D=none:=af3 D zD ⟨_,hD2⟩;have hD3:H3 D=some (.lst Lh):=gr.h D _ hD2;have hh3:=hh.trans gr.h;have wz3:=wz.trans gr.z;have zh3:=gr.zh;have tp3:=gr.tp;clear own nw ra zD hD2 hh wz zh tp2 gr af3;have af5:d∈ds:=asu hd;have htk:ds.take (i+1)=ds.take i++[d]:=by rw[as9,hd];rfl
     obtain⟨tgt,Ck⟩:=inner C s0 H0 f0 ⟨H3,Z3⟩;obtain⟨ps,hps,hpl,it,ie⟩:=Ck d af5;obtain⟨t,pg,ht⟩:=tgt;refine⟨t,pg,ht Z3 H3 d ps xv _ _ zh3 rd hps fun ys rys=>?_⟩;have hyl:ys.length=n:=by rw[← rys.length];exact hpl
     have es:Ci (RW σ ix os) (List.range' 0 n) ys=RW σ ix (ys.map some):=by
       have:=FI (ys:=ys) (os:=os) (pre:=[]) (r:=ix.map fun i=>(σ[i]?).getD none) (by rw[UB,hyl]);rw[hyl]at this;exact this
     refine⟨ys.map some,by rw[ar3];exact hyl,es,?_⟩;rw[es];have S0:aR X.K CL ⟨H3,Z3⟩ H3 Z3 (RZ ps++δc) (RW σ ix (ys.map some)) [] []:=
       ⟨⟨[],[],aaL rys ((cap H3).mono wz3 fun a ha=>by cases ha),.nil,atA,fun a ha=>by cases ha⟩,.refl _,.refl _,zh3,fun a o q z=>(by have z':Z3 a=none:=z;rw[show Z3 a=some o from q]at z';cases z'),tp3,(S.RN.mono zw).mono wz3⟩
     refine it.sem S0 fun H4 Z4 z4 k4 S4=>?_;have anj:∀a∈fp,H4 a=H3 a:=fun a ha=>by
       obtain⟨o,e⟩:=ra3.there a ha;rw[e];exact k4 a o e
     have VR:∀a,Z3 a=none->(∃o,H3 a=some o)->Z4 a=none:=fun a e ⟨o,e2⟩=>by
       cases q:Z4 a with
       | none=>rfl
       | some u=>
         have:=S4.new a u q e;rw[show H3 a=none from this]at e2;cases e2
     cases hp:p d with
     | false=>
       refine RB ⟨Z4,Lh,fp,hh3.trans k4,wz3.trans z4,S4.zh,VR D zD3 ⟨_,hD3⟩,fun a o q z=>?_,S4.tp,k4 D _ hD3,?_,nd,nD,fun a ha=>⟨VR a (ow3 a ha).1 (ra3.there a ha),(ow3 a ha).2⟩,We⟩
       . cases e:Z3 a with
         | none=>exact hh3.free (S4.new a o q e)
         | some u=>
           have:=z4 a u e;rw[q]at this;cases this;exact nw3 a o e z
       . rw[htk,auh,List.filter_cons_of_neg (by simp[hp]),List.filter_nil,asx];exact ra3.mono z4 anj
     | true=>
       refine RC ((ie hp) H4 Z4 (RW σ ix (ys.map some)) [] [] _ S4 fun yv H5 Z5 z5 k5 S5=>⟨Lh,k5 D _ (k4 D _ hD3),We,?_⟩);obtain⟨f1,g1,e1,r1,nd1,ajJ⟩:=S5.rep;cases r1 with
       | @cons _ _ _ _ fy fn ry rn=>
         cases rn;rw[asx]at nd1 ajJ;have ndy:fy.Nodup:=(asX.mp nd1).2.1;have aaM:∀a∈fy,Z5 a=none/\H3 a=none:=fun a ha=>ajJ a (ar5 _ ha);have Ms:∀a,Z3 a=none->(∃o,H3 a=some o)->Z5 a=none:=fun a e ⟨o,e2⟩=>by
           cases q:Z5 a with
           | none=>rfl
           | some u=>
             have:=S5.new a u q e;rw[show H3 a=none from this]at e2;cases e2
         have yD:∀a∈fy,a≠D:=fun a ha e=>by
           subst e;rw[(aaM a ha).2]at hD3;cases hD3
         have h5D:H5 D=some (.lst Lh):=k5 D _ (k4 D _ hD3);have sD:aC H (upd H5 D (.lst (Lh++[yv]))):=fun a o q=>by
           rw[ak (bL q hD)];exact k5 a o (k4 a o (hh3 a o q))
         refine⟨Z5,Lh++[yv],fp++fy,sD,wz3.trans (z4.trans z5),fun a o q=>?_,Ms D zD3 ⟨_,hD3⟩,fun a o q z=>?_,fun a o q im=>?_,aD,?_,?_,?_,fun a ha=>?_,?_⟩
         . rw[ak (bL q (Ms D zD3 ⟨_,hD3⟩))];exact S5.zh a o q
         . cases e:Z3 a with
           | none=>exact hh3.free (S5.new a o q e)
           | some u=>
             have:=z5 a u (z4 a u e);rw[q]at this;cases this;exact nw3 a o e z
         . by_cases ha:a=D
           . subst ha;rw[aD]at q;cases q;cases im
           . rw[ak ha]at q;exact S5.tp a o q im
         . rw[htk,auh,List.filter_cons_of_pos hp,List.filter_nil,asn];refine aJ.app (ra3.mono (z4.trans z5) fun a ha=>?_) (by
             have:=aJ.cons (fp:=fy) (gp:=[]) (ry.mono (.refl _) fun a ha=>ak (yD a ha)) (aJ.nil (H:=upd H5 D (.lst (Lh++[yv]))) (Z:=Z5))
             rwa [asx]at this)
           have:a≠D:=fun e=>nD (e▸ha);rw[ak this];obtain⟨o,e⟩:=ra3.there a ha;rw[e];exact k5 a o (k4 a o e)
         . refine asX.mpr ⟨nd,ndy,fun a ha a' Vj e=>?_⟩;subst e;obtain⟨o,e⟩:=ra3.there a ha;rw[(aaM a Vj).2]at e;cases e
         . intro h;rcases asf.mp h with h|h
           . exact nD h
           . exact yD D h rfl
         . rcases asf.mp ha with h|h
           . exact⟨Ms a (ow3 a h).1 (ra3.there a h),(ow3 a h).2⟩
           . exact⟨(aaM a h).1,hh3.free (aaM a h).2⟩
         . rw[asa,aun];omega
   . have e:i=ds.length:=by omega
     subst e;refine .inl ⟨pY H2 (wz.trans zh),?_⟩;rw[ate]at ra;obtain⟨Z',z',S'⟩:=S.back (H':=H2) (W:=W1) (W':=Z2) (t:=.lst ((ds.filter p).map g)) (v:=.ref D) (fp:=D::fp) hh zw wz zh nw tp2 (.lst hD2 ra) (as6.mpr ⟨nD,nd⟩) (fun a ha=>by
       rcases asb.mp ha with h|h
       . subst h;exact⟨zD,hD⟩
       . exact own a h) (c.imp id fun c=>by
         rw[kF];exact Cb fun d hd=>c d (ata.mp hd).1)
     exact⟨Z',z',hh,S'⟩
end
variable{δc:AR}{ds:At}{p:D->Bool}{g:D->T}{parts:D->Dx}
def FJ{J:It}{tn:Nat->Heap->Prop}{H1:Hp}{RR:Value->Addr->Result->Shared->Prop}{E:BB}
   (sc:sR X scope xs Nc ix) (hc:X.calm=true) (C:G6 X CL b δ1 σ ts vs Z H ds J H1) (I:L2.Inv X pins σ H1 s) (Tn:Turn X.prog X.w X.K tg J fp it tn) (st:tn 0 s.heap) (hf:∀b∈fp,AZ X pins H1 b)
   (hb:(δc=J2 δ1 ix/\∀d∈ds,(g d).clean=true)\/δc=J3 δ1 ix) (inner:yZ X CL scope Nc xs.length tg parts ifs elt δc ds p g) (hlen:ds.length<=sizeLine)
   (hRR:∀D C s' H' Z',(∃m,s'.heap.Ns C m)->(∃o,s'.heap.get? C=some o/\∀v,o.data ≠ .cell v)->H' C=none->(C≠X.env.locals/\C∉X.fs/\X.s₀.heap.objs.size<=C/\(∀y c,X.env.cells.lookup y=some c->c≠C)/\∀q∈X.pn++pins,q.1≠C)->(∀h',Heap.SameBut C s'.heap h'->L2.Inv X pins σ H' {s' with heap:=h'})->aC Z Z'->aC H H'->aR X.K CL b H' Z' δ1 σ (.lst ((ds.filter p).map g)::ts) (.ref D::vs)->RR (.ref D) C (.ok .next) s') :
   wpAny (model X.prog X.w) X.A (newList []) (fun acc s₃=>wpAny (model X.prog X.w) X.A (newFunctionEnv scope X.env.globals (jK X.env scope.names []) [] X.env.qual none .none (some X.env)) (fun VP s₄=>
     codeAny (model X.prog X.w) X.A (.compStart (.ListComp elt [⟨tg,iter,ifs,0⟩] scope pos) 0 (.ref it) acc {VP with scope:=relabel scope X.env}) (RR acc VP.locals) s₄) E s₃) E s:=by
 obtain⟨Z1,z1,k1,S1,go,yl,stp⟩:=C.ex;have lp:∀D,H1 D=none->∃W:Nat->Nat->Hp->Prop,(∃m,W 0 m (upd H1 D (.lst [])))/\∀i m H2,W i m H2->(J.stop i H2/\∃Z2,aC Z1 Z2/\aC H1 H2/\aR X.K CL b H2 Z2 δ1 σ (.lst ((ds.filter p).map g)::ts) (.ref D::vs)) ∨
     (J.go i H2/\∃N:Hp->Prop,(∀H',N H'->∃m',m'<m/\W (i+1) m' H')/\∀xv H3,J.yld i H2 xv H3->∀C s0 H0 f0 os,os.length=xs.length->VN (cR X scope Nc C s0 H0 f0) tg elt ifs xs.length σ ix D N xv os H3):=by
   rcases hb with⟨e,cl⟩|e
   . subst e;exact Cj (W1:=H1) S1 S1.zh (.refl _) (fun _ _ q _=>q) (J4 S1 ix) inner (fun i H2 s=>go i H2 (S1.zh.trans s)) (fun i Z2 H2 y H' s=>yl i Z2 H2 y H' (S1.zh.trans s)) (fun H2 s=>stp H2 (S1.zh.trans s)) hlen (.inr cl)
   . subst e;exact Cj (W1:=Z1) S1 (.refl _) S1.zh S1.tp (J5 S1 ix) inner go yl stp hlen (.inl rfl)
 exact Mr sc hc I Tn st hf lp fun D C s' H' m io nC ch ci ⟨Z',z',k',S'⟩=>hRR D C s' H' Z' m io nC ch ci (z1.trans z') (k1.trans k') S'
def Ay(sc:sR X scope xs Nc ix)(I:L2.Inv X pins σ H s):closureFor scope X.env=pure (jK X.env scope.names []):=
 Em fun y hy e=>I.ok.has y.1 (sc.frees y hy e).2
def Ke(sc:sR X scope xs Nc ix)(hc:X.calm=true)(h:GIt X CL b tg iter δ ds δ1)(hb:(δc=J2 δ1 ix/\∀d∈ds,(g d).clean=true)\/δc=J3 δ1 ix)(inner:yZ X CL scope Nc xs.length tg parts ifs elt δc ds p g)(hlen:ds.length<=sizeLine)
   (hs:AN X iter:=by intro _;rfl):bO X CL b (.ListComp elt [⟨tg,iter,ifs,0⟩] scope pos) δ (.lst ((ds.filter p).map g)) δ1:=fun H Z σ ts vs Q S k pins s I=>by
 obtain⟨wi,pi,hw⟩:=h;rw[eval_ListComp];refine wpAny_comprehension_free (use:=none) rfl hs (Ay sc I) sc.kind sc.names ?_;refine fX (pi pins s σ H _ I (hw H Z σ ts vs (fun J H1=>G6 X CL b δ1 σ ts vs Z H ds J H1) S fun J H1 C=>C)) fun v s1 h1=>fX h1 fun itv s2 zz=>?_;obtain⟨it,fp,tn,J,H1,e,I1,Tn,st,hf,C⟩:=zz;subst e;refine FJ (RR:=fun acc C=>compPost (model X.prog X.w) X.A X.xe none (EP X pins σ Q) acc C) sc hc C I1 Tn st hf hb inner hlen fun D C' s' H' Z' m io nC ch ci z' k' S'=>?_;obtain⟨m,hn⟩:=m;exact⟨m,hn,fun h' hs'=>⟨.ref D,H',ci h' hs',rfl,k _ H' Z' z' k' S'⟩⟩
variable{y:Str}
def aaN{D:dW}{py ajK:Pos}(i:Nat)(sc:sR X scope xs Nc ix)(hc:X.calm=true)(h:GIt X CL b tg iter δ ds δ1)(hb:(δc=J2 δ1 ix/\∀d∈ds,(g d).clean=true)\/δc=J3 δ1 ix)(inner:yZ X CL scope Nc xs.length tg parts ifs elt δc ds p g)(hlen:ds.length<=sizeLine)
   (k:D.nx (δ1.set i (some (.lst ((ds.filter p).map g))))) (hl:i<δ1.length) (hN:X.N.Nodup) (hi:X.N[i]? = some y) (hx:Loc X.env.scope y) (hf':AM X y)
   (G0:swapsWith (.ListComp elt [⟨tg,iter,ifs,0⟩] scope pos) (some (.Name y py)) ajK.line X.env=pure true)
   (hs:AN X iter:=by intro _;rfl):UD X CL b (.Assign [.Name y py] (.ListComp elt [⟨tg,iter,ifs,0⟩] scope pos) ajK) δ D:=fun H Z σ ts vs E S M pins s I=>by
 obtain⟨wi,pi,hw⟩:=h;rw[exec_Assign_Name_used _ _ _ _ G0];refine ar0 (wpAny_standAt (ar0 ?_));show wpAny _ X.A (do let _ ← comprehension (.ListComp elt [⟨tg,iter,ifs,0⟩] scope pos) scope X.env _ (newList []) false (eval iter X.env) (some (assign (.Name y py) X.env))) _ _ s;refine ar0 (atc (wpAny_comprehension_free (use:=some (assign (.Name y py) X.env)) (Q:=fun _ s'=>SP X pins E .next s') rfl hs (Ay sc I) sc.kind sc.names ?_) (fun _ s' hq=>asd (asd hq)) fun _ _ e=>e);refine fX (pi pins s σ H _ I (hw H Z σ ts vs (fun J H1=>G6 X CL b δ1 σ ts vs Z H ds J H1) S fun J H1 C=>C)) fun v s1 h1=>fX h1 fun itv s2 zz=>?_;obtain⟨it,fp,tn,J,H1,e,I1,Tn,st,hf,C⟩:=zz;subst e;refine FJ (RR:=fun acc C=>compPost (model X.prog X.w) X.A X.xe (some (assign (.Name y py) X.env)) (fun _ s'=>SP X pins E .next s') acc C) sc hc C I1 Tn st hf hb inner hlen fun D' C' s' H' Z' m io nC ch ci z' k' S'=>?_;obtain⟨m,hn⟩:=m;obtain⟨o,ho,Ak⟩:=io;have I':L2.Inv X pins σ H' s':=ci s'.heap (.refl ..);have I2:L2.Inv X (pins++[(C',o)]) σ H' s':=I'.Be fun q hq=>by
   rcases asf.mp hq with z|z
   . exact I'.pin q (ar5 _ z)
   . have e:q=(C',o):=by simpa using z
     subst e;exact⟨ho,nC,ch.1,ch.2.1,Ak⟩
 show wpAny _ X.A (assign (.Name y py) X.env (.ref D')) _ _ s';have hg:PG X (.Name y py) (Al i):=oz hN hi hx hf';refine fX (hg _ s' σ H' (.ref D') (.ref D') (fun σ8 H8=>σ8=σ.set i (some (.ref D'))/\H8=H') I2 rfl ⟨rfl,rfl⟩) fun _ s8 zz=>?_;obtain⟨σ8,H8,I8,e8,e8'⟩:=zz;subst e8;subst e8';obtain⟨hC8,nC8,_⟩:=I8.pin (C',o) (ar5 _ (ar5 _ Uf));refine⟨m,hn.at' fun o' e'=>by rw[ho]at e';cases e';exact hC8,fun h' hs'=>?_⟩;have I9:L2.Inv X pins (σ.set i (some (.ref D'))) _ s8:=I8.Be fun q hq=>I8.pin q (ar5 _ (ase _ hq));have I10:=I9.turned (it:=C') (h':=h') (t':=s8.toks) (fun b o hb e=>(hs'.2 b hb).trans e) nC8 ch.1.symm.symm (.inr ch.2.2.1) ch.2.2.2.1 ch.2.2.2.2;exact⟨_,_,I10,M.nx _ _ _ Z' z' (S'.set hl) k⟩
variable{pos':Pos}
def af6{D:dW}(gx:Gx X)(n:Ln X i x)(sc:sR X scope xs Nc ix)(h:GIt X CL b tg iter δ ds δ1)
   (hb:(δc=J2 δ1 ix/\∀d∈ds,(g d).clean=true)\/δc=J3 δ1 ix) (inner:yZ X CL scope Nc xs.length tg parts ifs elt δc ds p g) (hlen:ds.length<=sizeLine) (k:cQ X CL b eW (δ1.set i (some (.lst ((ds.filter p).map g)))) D) (hl:i<δ1.length)
   (G0:swapsWith (.ListComp elt [⟨tg,iter,ifs,0⟩] scope pc) (some (.Name x pos')) pos.line X.env=pure true\/swapsWith (.ListComp elt [⟨tg,iter,ifs,0⟩] scope pc) (some (.Name x pos')) pos.line X.env=pure false) (hs:AN X iter:=by intro _;rfl) :
   cQ X CL b (.Assign [.Name x pos'] (.ListComp elt [⟨tg,iter,ifs,0⟩] scope pc) pos::eW) δ D:=by
 rcases G0 with G0|G0
 . exact bI (aaN i sc gx.calm h hb inner hlen k hl gx.nd n.hi n.loc n.hf G0 hs)
 . exact bI (Mi i (Ke sc gx.calm h hb inner hlen hs) k hl gx.nd n.hi n.loc G0 n.hf)
variable{C:Addr}
def af7(h1:Nc[i]? = some x)(h2:scope.names.lookup x=some .local)(hd:AD x:=by decide)(ko:AE x:=by decide):Ln (cR X scope Nc C s H fp) i x:=
 ⟨Vx h1 h2 hd ko,.inl (lookup_relabel_local h2),.inr (lookup_relabel_local h2)⟩
def Ite(K:Frag)(a:Addr):It:=
 ⟨fun i H=>∃xs x,ou K H a xs/\xs[i]? = some x,fun i H x H'=>∃T y,H T=none/\x=.ref T/\(∀xs,ou K H a xs->xs[i]? = some y)/\H'=upd H T (.tup [.int i,y]),fun i H=>∃xs,ou K H a xs/\xs.length<=i⟩
variable{elts:CS}{kk:Nat}{pt:Pos}
def R0(a e it:Addr)(hne:e≠it):Turn P w K (.Tuple elts kk pt) (Ite K a) [e,it] e (fun i h=>(∃old,PySem.IsEnum h e it i old)/\h.IsListIter it a i) where
 mem:=by simp
 obj:=fun i h st b hb=>by
   obtain⟨⟨old,he⟩,hit⟩:=st;rcases asb.mp hb with z|z
   . subst z;exact⟨_,he,fun v z=>by
       have z':Data.fields _=Data.cell v:=z;cases z'⟩
   . have z:b=it:=by simpa using z
     subst z;obtain⟨o,e,c,d⟩:=hit;exact⟨o,e,fun v z=>by rw[d]at z;cases z⟩
 keep:=fun i h h' st k=>by
   obtain⟨⟨old,he⟩,hit⟩:=st;exact⟨⟨old,k e Uf _ he⟩,hit.at fun o q=>k it Uf o q⟩
 item:=by
   intro X hP hw hK hc i pins s σ H E I hf st hg;subst hP hw hK;obtain⟨xs,x,hq,hx⟩:=hg;obtain⟨its,rv,p,hz⟩:=I.list hq;obtain⟨u,hu,ru⟩:=rv.get hx;obtain⟨⟨old,he⟩,hit⟩:=st;have fe:=hf e Uf;have fi:=hf it Uf;have hT0:H s.heap.objs.size=none:=I.cW.fresh (asp _);have fT:=I.Eh (asp s.heap.objs.size) hT0;refine PySem.wpAny_pyNext_enum_item he hit p.isList (x:=u) (by simpa using hu) hne fun h' ho aaO hT hsz hk=>⟨_,rfl,?_⟩;refine PySem.wpAny_letOwnedTupleGo_enum ho fun h2 he2 JR=>?_;replace JR:Heap.SameBut e h' h2:=JR;have eT:e<s.heap.objs.size:=asH he;have keep:∀b o,b≠e->b≠it->s.heap.get? b=some o->h2.get? b=some o:=fun b o h1 h3 q=>(JR.2 b h1).trans (hk b o h1 h3 q);have hT2:h2.get? s.heap.objs.size=some {cls:=.type "tuple",data:=.seq #[.int i s.toks,u]}:=(JR.2 _ (Nat.ne_of_gt eT)).trans hT;have nH:∀b o,H b=some o->b≠e/\b≠it/\b≠s.heap.objs.size:=fun b o q=>⟨fun z=>(by rw[z,fe.1]at q;cases q),fun z=>(by rw[z,fi.1]at q;cases q),fun z=>(by rw[z,hT0]at q;cases q)⟩;have I':L2.Inv X pins σ (upd H s.heap.objs.size (.tup [.int i,x])) {s with heap:=h2,toks:=s.toks+1}:=by
     refine I.step (g':=s.gens) (d':=s.drawn) (ch:=[e,it,s.heap.objs.size]) (fun b hb=>?_) (fun b o _ _ hc q _=>?_) (fun b o _ _ hc q _=>⟨o.slots,?_⟩) (fun b o hc q n=>?_) (fun b o hc q=>⟨o,?_⟩) (fun b ys q=>?_) (fun b o u q=>?_) (fun b ps q=>⟨#[],?_⟩) (fun m hm=>?_) (fun b o q=>?_) I.bare
     . rcases asb.mp hb with z|hb
       . subst z;exact⟨fe.2.2.2.1,fe.2.1,fe.2.2.2.2.1,fe.2.2.2.2.2⟩
       . rcases asb.mp hb with z|hb
         . subst z;exact⟨fi.2.2.2.1,fi.2.1,fi.2.2.2.2.1,fi.2.2.2.2.2⟩
         . have z:b=s.heap.objs.size:=by simpa using hb
           subst z;exact⟨fT.2.2.2.1,fT.2.1,fT.2.2.2.2.1,fT.2.2.2.2.2⟩
     . exact keep b o (fun z=>hc (by simp[z])) (fun z=>hc (by simp[z])) q
     . exact keep b o (fun z=>hc (by simp[z])) (fun z=>hc (by simp[z])) q
     . rw[ak (fun z=>hc (by simp[z]))];exact n
     . exact keep b o (fun z=>hc (by simp[z])) (fun z=>hc (by simp[z])) q
     . rw[ak (nH b _ q).2.2];exact q
     . rw[ak (nH b _ q).2.2];exact q
     . rw[ak (nH b _ q).2.2,q];simp
     . obtain⟨o,es,ep,ho,r⟩:=hm;exact⟨o,es,ep,keep _ o (auj fe.2.1) (auj fi.2.1) ho,r⟩
     . by_cases hb:b=s.heap.objs.size
       . subst hb;rw[aD]at q;cases q;exact⟨aty (jC (ar8 rfl)),[.int i s.toks,u],.cons ⟨s.toks,rfl⟩ (.cons ru .nil),⟨_,hT2,rfl,_,rfl⟩⟩
       . rw[ak hb]at q;refine(I.cW b o q).AX (fun c v hc z=>keep c v ?_ ?_ z) (fun c z=>by rw[ak (nH c _ z).2.2];exact z) (fun c ys z=>by rw[ak (nH c _ z).2.2];exact z) fun c ys z=>by rw[ak (nH c _ z).2.2];exact z
         . rcases hc with z|z
           . rw[z];exact(nH b _ q).1
           . exact(nH c _ z).1
         . rcases hc with z|z
           . rw[z];exact(nH b _ q).2.1
           . exact(nH c _ z).2.1
   have ei:((i+1:Nat):Int)=(i:Int)+1:=by omega
   refine⟨.ref s.heap.objs.size,_,I',rfl,⟨_,x,hT0,rfl,fun ys hy=>by rw[I.JM hy hq];exact hx,rfl⟩,⟨⟨u,by rw[ei];exact he2⟩,aaO.at fun o q=>(JR.2 it (auj hne)).trans q⟩,fun b hb=>?_⟩;have hb':=hf b hb;obtain⟨o,OQ,_⟩:∃o,s.heap.get? b=some o/\True:=by
     rcases asb.mp hb with z|z
     . subst z;exact⟨_,he,trivial⟩
     . have z:b=it:=by simpa using z
       subst z;obtain⟨o,q,_⟩:=hit;exact⟨o,q,trivial⟩
   rw[ak (as8 (asH OQ))];exact hb'.1
 done:=by
   intro X hP hw hK hc i pins s σ H E I hf st hg;subst hP hw hK;obtain⟨xs,hq,hx⟩:=hg;obtain⟨its,rv,p,hz⟩:=I.list hq;obtain⟨⟨old,he⟩,hit⟩:=st;obtain⟨f0,f1,f2,f3,f4,f5⟩:=hf it Uf;have hl:=rv.length;exact PySem.wpAny_pyNext_enum_end (I.ok.hd hc) he hit p.isList (by simp;omega) fun h' eb=>⟨rfl,I.turned (t':=s.toks) (fun b o hb e=>eb b o hb e) f0 f1 f3 f4 f5⟩
 self:=fun _ _ _ _ _ st h=>by
   obtain⟨⟨old,he⟩,_⟩:=st;exact PySem.wpAny_pyIter_enum he h
def ajM(K:Frag)(ta:TA):TI:=fun σ H R=>ta σ H fun vs H1=>∃a xs,vs=[.ref a]/\ou K H1 a xs/\R (Ite K a) H1
theorem aaP{a:Expr}{ta:TA}{p:Pos}(hg:Gl X "enumerate")(hm:X.mg "enumerate" = none)(ha:PA X [a] ta)(hs:AC X a []):PI X (.Tuple elts kk pt) (.Call (.Name "enumerate" p) [a] [] pos) (ajM X.K ta):=by
 intro pins s σ H R I h;refine Call_ (Gy I hg hm boot_enumerate (auM (fX (ha pos pins s σ H _ I h) fun us s1 zz=>?_) hs rfl));obtain⟨vs,H1,I1,r1,q1⟩:=zz;obtain⟨l,xs,e,hq,q⟩:=q1;subst e;cases r1 with
 | cons r rr=>
   cases rr;cases r;obtain⟨its,rv,p,hz⟩:=I1.list hq;refine PySem.call_enumerate_list p.isList fun h' he hit hsz hk=>?_;have I2:L2.Inv X pins σ H1 {s1 with heap:=h'}:=I1.kept (t':=s1.toks) fun b o e=>hk b o e;refine PySem.wpAny_pyIter_enum he ?_;refine⟨s1.heap.objs.size+1,[s1.heap.objs.size+1,s1.heap.objs.size],_,_,H1,rfl,I2,R0 l _ _ (Nat.succ_ne_self _),⟨⟨_,he⟩,hit⟩,fun b hb=>?_,q⟩;rcases asb.mp hb with z|z
   . subst z;exact I1.Eh (avd _) (I1.cW.fresh (avd _))
   . have z:b=s1.heap.objs.size:=by simpa using z
     subst z;exact I1.Eh (asp _) (I1.cW.fresh (asp _))
def Cm(ds:At):At:=(List.range ds.length).map fun(i:Nat)=>.tup [.int i,ds.getD i .non]
def y9(ds:At):(Cm ds).length=ds.length:=by simp[Cm]
def R1{ds:At}{d:D}(h:ds[i]? = some d):(Cm ds)[i]? = some (.tup [.int i,d]):=by
 have hi:i<ds.length:=(asl.mp h).1;unfold Cm;rw[asi,atj hi];show some (D.tup [.int i,ds.getD i .non])=_;rw[asj,h];rfl
variable{pr:Pos}{ds:At}
theorem aaQ(hm:X.mg "enumerate" = none)(h:bO X CL b e δ (.sh (.lst ds)) δ1)(hg:Gl X "enumerate")(hs:AC X e []:=by exact aZ rfl):GIt X CL b (.Tuple elts kk pt) (.Call (.Name "enumerate" pr) [e] [] pc) δ (Cm ds) δ1:=by
 refine⟨_,aaP hg hm (bY cP dZ hs) hs,fun H Z σ ts vs R S k=>h H Z σ ts vs _ S fun v H1 Z1 z1 k1 S1=>?_⟩;obtain⟨fp,gp,_,r,_,_⟩:=S1.rep;cases r with
 | cons r _=>
   cases r with
   | sh r=>
     cases r with
     | @lst a us _ hq rr=>
       have hl:=rr.length;refine⟨a,us,rfl,S1.zh.seq hq,k _ _ ⟨Z1,z1,k1,S1.pop,fun i H2 s hi=>?_,fun i Z2 H2 x H' s1 s2 tp hi hy=>?_,fun H2 s=>?_⟩⟩
       . rw[y9]at hi;have hi':i<us.length:=by rw[← hl];exact hi
         exact⟨us,us[i],s.seq hq,ar6 hi'⟩
       . rw[y9]at hi;obtain⟨T,y,hT,rfl,hx,rfl⟩:=hy;obtain⟨d,hd,rd⟩:=rr.aar (hx us ((s1.trans s2).seq hq));have gr:Cg Z2 H2 _ _:=Cg.tup (xs:=[.int i,y]) s2 tp hT;exact⟨_,_,R1 hd,gr,.tup (se.of aD) (.cons (.int _) (.cons ((rd.mono s1).mono gr.z) .nil))⟩
       . rw[y9];exact⟨us,s.seq hq,by rw[← hl];exact asp _⟩
def insI(x:Int):AT->AT
 | []=>[x]
 | y::l=>if x<=y then x::y::l else y::insI x l
theorem insI_perm(x:Int):∀l,(insI x l).Perm (x::l)
 | []=>.refl _
 | y::l=>by
   rw[insI];split
   . exact .refl _
   . exact((insI_perm x l).cons y).trans (.swap x y l)
def zb{l:AT}(h:aB K CL Z (l.map D.int) us):us=l.map V.int:=by
 refine aB.ind (P:=fun ds us=>∀l:AT,ds=l.map D.int->us=l.map V.int) ?_ ?_ h l rfl
 . intro l e;cases l with
   | nil=>rfl
   | cons=>cases e
 . intro d v ds vs r _ i l e;cases l with
   | nil=>cases e
   | cons a l=>
     injection e with e1 e2;subst e1;rw[i l e2];cases r;rfl
theorem ints_rep{K:Frag}{Z:Hp}:∀(l:AT),aB K CL Z (l.map D.int) (l.map V.int)
 | []=>.nil
 | _::l=>.cons (.int _) (ints_rep l)
theorem aga{β:Type}{f:α->β}{l:List α}{d:β}(h:(l.map f)[j]? = some d):∃x,d=f x/\l[j]? = some x/\x∈l/\j<l.length/\l.drop j=x::l.drop (j+1)/\l.take (j+1)=l.take j++[x]:=by
 rw[asi]at h;cases hx:l[j]? with
 | none=>rw[hx]at h;cases h
 | some x=>
   rw[hx]at h;cases h;have hj:j<l.length:=(asl.mp hx).1;have e:l[j]=x:=(asl.mp hx).2;exact⟨x,rfl,rfl,asu hx,hj,by rw[List.drop_eq_getElem_cons hj,e],by rw[as9,hx];rfl⟩
def D.UE:L3.D->L3.D
 | .tup (a::_)=>a
 | d=>d
def D.at2:L3.D->L3.D
 | .tup (_::a::_)=>a
 | d=>d
def R3(f:α->L3.D)(z:α)(l:List α):Cm (l.map f)=(List.range l.length).map fun(i:Nat)=>L3.D.tup [.int i,f (l.getD i z)]:=by
 unfold Cm;rw[ar3];apply atk;intro i hi;have hi:i<l.length:=as4.mp hi;have:(l.map f).getD i .non=f (l.getD i z):=by
   rw[asj,asj,asi,ar6 hi];rfl
 rw[this]
def VW{f:α->L3.D}{l:List α}(z:α)(hm:X.mg "enumerate" = none)(h:bO X CL b e δ (.sh (.lst (l.map f))) δ1)(hg:Gl X "enumerate")(hs:AC X e []:=by exact aZ rfl) :
   GIt X CL b (.Tuple elts kk pt) (.Call (.Name "enumerate" pr) [e] [] pc) δ ((List.range l.length).map fun(i:Nat)=>L3.D.tup [.int i,f (l.getD i z)]) δ1:=by
 have:=aaQ (elts:=elts) (kk:=kk) (pt:=pt) (pr:=pr) (pc:=pc) hm h hg hs
 rwa [R3 f z l]at this
theorem Az:∀(l r:AT),PyData.eqvAll (D.eO (l.map L3.D.int)) (D.eO (r.map L3.D.int))=decide (l=r)
 | [],[]=>by rw[at6,D.eO,PyData.eqvAll];rfl
 | [],_::_=>by rw[at6,asA,D.eO,D.eO,PyData.eqvAll];rfl
 | _::_,[]=>by rw[at6,asA,D.eO,D.eO,PyData.eqvAll];rfl
 | x::l,y::r=>by
   rw[asA,asA,D.eO,D.eO,PyData.eqvAll,Az l r,D.toPy,D.toPy,PyData.eqv];by_cases e:x=y
   . subst e;simp
   . have:(x==y)=false:=by simpa using e
     rw[this,Bool.false_and,asS (by simp[e])]
def Kf(l r:AT):Bk (.lst (l.map .int)) (.lst (r.map .int))=decide (l=r):=by
 unfold Bk;rw[D.toPy,D.toPy,PyData.eqv,Az]
variable{tl2:Bn}
theorem aR.extend(S:aR K CL b H Z δ σ (.lst tl2::ts) (v::vs))(hi:δ[i]? = some (some (.lst tl))) :
   ∃a us a2 ZL,σ[i]? = some (some (.ref a))/\H a=some (.lst us)/\us.length=tl.length/\v=.ref a2/\H a2=some (.lst ZL)/\ZL.length=tl2.length/\aR K CL b (upd H a (.lst (us++ZL))) Z (δ.set i (some (.lst (tl++tl2)))) σ ts vs:=by
 obtain⟨fp,gp,e,r,nd,k⟩:=S.rep;obtain⟨v0,f1,f2,f3,hv,oq,rt,put,_⟩:=e.get hi;subst oq;cases rt with
 | @lst a us _ g ha rs=>
   cases r with
   | @cons _ _ _ _ ft gr q1 q2=>
     cases q1 with
     | @lst a2 ZL _ g2 ha2 rs2=>
       have ne:∀c∈(f1++(g++f3))++(g2++gr),c≠a:=fun c hc e=>by
         subst e;have hp:((f1++((c::g)++f3))++((a2::g2)++gr)).Perm (c::((f1++(g++f3))++((a2::g2)++gr))):=by
           rw[asO,← asO];exact(atq.append_right _)
         refine(as6.mp (hp.nodup_iff.mp nd)).1 ?_;rcases asf.mp hc with z|z
         . exact ase _ z
         . exact ar5 _ (ar9 _ z)
       refine⟨a,us,a2,ZL,hv,ha,rs.length.symm,rfl,ha2,rs2.length.symm,?_⟩;have r1:bz K CL (upd H a (.lst (us++ZL))) Z (.lst (tl++tl2)) (.ref a) (a::(g++g2)):=
         .lst aD (aJ.app (rs.mono (.refl _) fun c hc=>ak (ne c (by simp[hc]))) (rs2.mono (.refl _) fun c hc=>ak (ne c (by simp[hc]))))
       have e2:=put (H':=upd H a (.lst (us++ZL))) (.refl _) (fun c hc=>ak (ne c (by
         rcases asf.mp hc with h|h
         . simp[h]
         . simp[h]))) r1
       rw[c9 hv]at e2;have hp:((f1++((a::(g++g2))++f3))++gr).Perm ((f1++((a::g)++f3))++(g2++gr)):=by
         simp only[asO,ar7];refine asY f1 (List.Perm.cons a (asY g ?_));rw[← ar7,← ar7];exact asL.append_right gr
       have sb:((f1++((a::g)++f3))++(g2++gr)).Sublist ((f1++((a::g)++f3))++((a2::g2)++gr)):=
         asW (asZ _) (by rw[asO];exact List.sublist_cons_self _ _)
       exact S.write nd k (ar4) ⟨_,ha⟩ e2 (q2.mono (.refl _) fun c hc=>ak (ne c (by simp[hc]))) (hp.nodup_iff.mpr (nd.sublist sb)) fun c hc=>sb.subset (hp.mem_iff.mp hc)
section
variable{tl0:Bn}{D:dW}
def PC(n:Vn X i x)(h0:δ[i]? = some (some (.lst tl0)))(h:bO X CL b e δ (.lst tl2) δ1)(h1:δ1[i]? = some (some (.lst tl)))(hl:tl.length+tl2.length<=1000000)(k:cQ X CL b eW (δ1.set i (some (.lst (tl++tl2)))) D)
   (gy:attributeBase (.Name x pp) "extend" X.env (eval (.Name x pp) X.env)=eval (.Name x pp) X.env:=by rfl)
   (qN:AB X pb e:=by rfl)
   (hline:(pa.endLine==pb.line)=true:=by rfl) (hs:AC X e []:=by exact aZ rfl)
   (G0:swapsWith (.Call (.Attribute (.Name x pp) "extend" pa) [e] [] pb) none pos.line X.env=pure false:=by rfl) :
   cQ X CL b (.Expr (.Call (.Attribute (.Name x pp) "extend" pa) [e] [] pb) pos::eW) δ D:=bI fun H Z σ ts vs E S M=>
 om (wY (Fw atJ PySem.F.slot_list_extend PySem.F.type_list_extend Rw (gw n.hi n.hv n.hd n.ko) (bY cP dZ hs) gy qN hline hs rfl) G0) (by
   obtain⟨v0,e0,r0⟩:=S.look h0;refine⟨v0,e0,?_,?_⟩
   . rw[T.bG]at r0;cases r0 with
     | lst hq _=>exact .inl ⟨rfl,_,hq⟩
   . refine h H Z σ ts vs _ S fun v H1 Z1 z1 k1 S1=>?_;obtain⟨a,us,a2,ZL,ea,ha,hu,rfl,ha2,hu2,S2⟩:=S1.extend h1;rw[e0]at ea;cases ea;exact⟨a,a2,us,ZL,rfl,rfl,ha,ha2,by rw[hu,hu2];exact aty (atZ hl (by rw[asD];decide)),M.nx _ σ _ Z1 z1 S2 k⟩)
end
variable{ds:At}
def ajN(K:Frag):R2:=fun x y H Q=>∃l k xs,x=.ref l/\y=.int k/\ou K H l xs /\ -(2 ^ 63)<=k/\k<2 ^ 63/\xs.length*k.toNat<=sizeLine ∧
 ∀p,H p=none->Q (.ref p) (upd H p (.lst (List.replicate k.toNat xs).flatten))
def aaS:wW X (binaryOp .Mult) (ajN X.K):=by
 intro pins s σ H x y v u Q I rx ry h;obtain⟨l,k,xs,rfl,rfl,hH,h1,h2,hz,q⟩:=h;cases rx;obtain⟨t,rfl⟩:=ry;obtain⟨its,r,pl,_⟩:=I.list hH;have hl:=r.length;obtain⟨⟨c1,dd,da1,sl⟩,e,hc,n,hd⟩:=pl.isList;cases hc;cases hd;have hlen:its.toArray.size*k.toNat<=sizeLine:=by rw[asy,← hl];exact hz
 have anm:¬ its.toArray.size*k.toNat > (2 ^ 63-1) / 8:=by
   have:(sizeLine:Nat)<=(2 ^ 63-1) / 8:=by decide
   omega
 have ano:¬ (!Builtin.List.listFitsIndex k)=true:=by
   rw[fitsIndex_both h1 h2];exact asr
 have JV:¬ Builtin.List.listTooLong (its.toArray.size*k.toNat)=true:=by
   rw[B7 hlen];exact asr
 have R4:List.foldl (fun x1 x2=>x1++x2) #[] (List.replicate (if its.toArray.isEmpty=true then 0 else k.toNat) its.toArray)=(List.replicate k.toNat its).flatten.toArray:=by
   have f0:∀m:Nat,List.foldl (fun x1 x2=>x1++x2) #[] (List.replicate m its.toArray)=(List.replicate m its).flatten.toArray:=fun m=>by
     have:=foldl_rep its m [];rw[atN]at this;exact this
   rw[f0];cases its with
   | nil=>simp
   | cons a r'=>rw[ash Uf]
 refine wpAny_binaryOp_repeat_ref (T:="list") (U:="int") Wp ⟨_,e,rfl⟩ (fun s'=>typeIs_int s' k t) noFill_list_mul F.fills_int_mul F.slot_int_rmul repeat_list F.slot_int_index.lookup
   (auO F.slot_int_rmul (typeIs_int s k t) F.entry_int_rmul (F.args_int_rmul_2 _ _) (lm_int_rmul_list_any k t l its.toArray n dd sl)
     ⟨e,rfl,⟨_,e,rfl⟩,auO F.slot_list_mul ⟨_,e,rfl⟩ F.entry_list_mul (F.args_list_mul_2 _ _) (lm_list_mul_any l its.toArray n dd sl k t ano anm JV) ⟨e,?_⟩⟩)
 rw[R4];exact⟨.ref _,_,I.ajn (t':=s.toks) (r.rep k.toNat) (by rw[len_rep,Nat.mul_comm];exact hz),rfl,q _ I.fresh⟩
theorem aB.rep{K:Frag}{Z:Hp}{ds:At}{vs:BN}(r:aB K CL Z ds vs):∀k:Nat,aB K CL Z (List.replicate k ds).flatten (List.replicate k vs).flatten
 | 0=>.nil
 | k+1=>by
   rw[att,att,aub,aub];exact aB.app r (aB.rep r k)
theorem aaT{k:Int}(h1:dD X CL b e1 δ (.lst ds) δ1)(h2:dD X CL b e2 δ1 (.int k) δ2)(i1:D.aT ds=true)(k1:-(2 ^ 63)<=k)(k2:k<2 ^ 63)(hz:ds.length*k.toNat<=sizeLine) :
   bO X CL b (.BinOp e1 .Mult e2 pos) δ (.lst ((List.replicate k.toNat ds).flatten.map T.sh)) δ2:=fun H Z σ ts vs Q S kk=>
 bP (Am aaS cP cP) (h1 H Z σ ts vs _ S fun v1 H1 Z1 z1 q1 S1 r1=>h2 H1 Z1 σ ts vs _ S1 fun v2 H2 Z2 z2 q2 S2 r2=>by
   have Vs:=r1.mono q2;cases Vs with
   | lst VG Ka=>
     cases r2 with
     | int=>
       refine⟨_,_,_,rfl,rfl,VG,k1,k2,by rw[← Ka.length];exact hz,fun p hp=>?_⟩;have rc:=aB.rep (aB.kB S2.tp i1 Ka) k.toNat;obtain⟨c,S4⟩:=(aR.sM rc S2).sJ (g0:=[]) (by rw[ar3,rc.length]) hp;exact kk _ _ _ (z1.trans z2) (q1.trans (q2.trans c)) S4)
theorem aB.ad3{K:Frag}{Z:Hp}:∀l:Ap,aB K CL Z (l.map .str) (l.map V.str)
 | []=>.nil
 | x::l=>.cons (.str x) (aB.ad3 l)
def GT(X:Cx)(x:Str)(l:Ap):Prop:=∃a,X.mg x=some (.ref a)/\∀H:Hp,se X.K H a (l.map V.str)
def Cp(hm:GT X x l)(hg:Gl X x)(hd:AD x:=by decide):bO X CL b (.Name x pos) δ (.sh (.tup (l.map .str))) δ:=fun H Z σ ts vs Q S kk=>by
 obtain⟨a,hm,hs⟩:=hm;exact bP (Gz (v:=.ref a) hg hm rfl hd) (kk _ H Z (.refl _) (.refl _) (S.push (.tup (hs Z) (aB.ad3 l))))
def ajO{od:ET}{its:D2}{sl:EQ}(h1:X.mg x=some (.ref a))(h2:X.K.lookup a=some ⟨.type "tuple",od,.seq its n,sl⟩)(h3:its.size<=sizeLine)(h4:Vals (l.map V.str) its.toList):GT X x l:=
 ⟨a,h1,fun H=>.inr ⟨_,its,n,h2,rfl,rfl,h3,h4⟩⟩
def ad4(x y:Str):Bool:=!(Builtin.Str.occurrences y x 0 y.length 1).isEmpty
def anp:V->CC->CC->Hp->VK->Prop:=fun x lo hi H Q=>∃z,x=.str z/\z.length<=sizeLine/\Q (.str (Txt.slice z lo hi)) H
theorem agb:SlR X anp:=by
 intro pins s σ H x v vl vu lo hi sl Q I rx hs pl pu h;obtain⟨z,rfl,hz,q⟩:=h;obtain⟨t,rfl⟩:=rx;obtain⟨o,ho,hc,hd⟩:=hs;have fin:∀t' k,EP X pins σ Q (.str (Txt.slice z lo hi) t') {s with toks:=k}:=fun t' k=>⟨.str _,H,I.tok k,⟨t',rfl⟩,q⟩;refine⟨"str",_,F.slot_str_getitem.lookup,typeIs_str _ _ _,?_⟩;cases pl with
 | none=>
   cases pu with
   | none=>exact auu (l:=none) (u:=none) (st:=none) ⟨o,ho,hc,hd⟩ rfl (post_val_or_str ⟨asV (Txt.slice_le z _ _) hz,fin⟩)
   | int j uj=>exact auu (l:=none) (u:=some (j,uj)) (st:=none) ⟨o,ho,hc,hd⟩ rfl (post_val_or_str ⟨asV (Txt.slice_le z _ _) hz,fin⟩)
 | int i ui=>
   cases pu with
   | none=>exact auu (l:=some (i,ui)) (u:=none) (st:=none) ⟨o,ho,hc,hd⟩ rfl (post_val_or_str ⟨asV (Txt.slice_le z _ _) hz,fin⟩)
   | int j uj=>exact auu (l:=some (i,ui)) (u:=some (j,uj)) (st:=none) ⟨o,ho,hc,hd⟩ rfl (post_val_or_str ⟨asV (Txt.slice_le z _ _) hz,fin⟩)
def R5{lo hi:Option Expr}{l h:CC}{z:Str}(h1:dD X CL b e δ (.str z) δ1)(hz:z.length<=sizeLine)(h2:TOv X CL b lo δ1 l δ2)(h3:TOv X CL b hi δ2 h δ3):bO X CL b (.Subscript e (.Slice lo hi none p2) pos) δ (.sh (.str (Txt.slice z l h))) δ3:=fun H Z σ ts vs Q S k=>by
 obtain⟨t2,po2,w2⟩:=h2;obtain⟨t3,po3,w3⟩:=h3;refine bP (B5 agb cP po2 po3) (h1 H Z σ ts vs _ S fun v H1 Z1 z1 k1 S1 r=>w2 H1 Z1 σ ts vs _ S1 fun H2 Z2 z2 k2 S2=>w3 H2 Z2 σ ts vs _ S2 fun H3 Z3 z3 k3 S3=>?_);exact⟨z,r.sc rfl,hz,k _ H3 Z3 (z1.trans (z2.trans z3)) (k1.trans (k2.trans k3)) (S3.push (.str _))⟩
def c0{arg:A->At}{Pre:A->Prop}{res:A->T}(a:A)(F:Fc X CL x k n arg Pre res)(hg:Gl X x)(ha:arg a=[])(hp:Pre a)(hc:(res a).clean=true)(hn:(arg a).length=n:=by rfl)
   (su:AD x:=by decide):bO X CL b (.Call (.Name x pp) [] [] pos) δ (res a) δ:=by
 obtain⟨f,fd,ps,F1,m,kk,bb⟩:=F.ex;intro H Z σ ts vs Q S k;refine bP (U1 F1 F.room hg m kk bb .nil sG su) ?_;refine⟨H,a,.refl _,fun _ _ q _=>q,by rw[ha];exact .nil,hn,hp,S.RP,fun v H' W' fp hh ww wh nw tp rt nd own=>?_⟩;obtain⟨Z',z',S'⟩:=S.back hh S.zh ww wh nw tp rt nd own (.inr hc);exact k v H' Z' z' hh S'
def VX:Key->D
 | .inl i=>.int i
 | .inr x=>.str x
variable{gs:Cf}{kvs:Cl}
theorem cI.length{kvs:Cl}(h:cI K CL Z kvs gs):kvs.length=gs.length:=
 cI.ind (P:=fun kvs gs=>kvs.length=gs.length) rfl (fun _ _ i=>congrArg (· + 1) i) h
theorem bq.key{k:Key}(r:bq K CL Z (VX k) v):v=kV k:=by
 cases k with
 | inl i=>exact r.sc rfl
 | inr x=>exact r.sc rfl
theorem aaU(k:Key):bq K CL Z (VX k) (kV k):=by
 cases k with
 | inl i=>exact .int i
 | inr x=>exact .str x
theorem Cq{Z:Hp}:∀ks:CO,aB K CL Z (ks.map VX) (ks.map kV)
 | []=>.nil
 | k::ks=>.cons (aaU k) (Cq ks)
namespace Rv
def R6:Manifest.owners.lookup (String.ofList ['d','e','s','r','e','v','e','r'].reverse)=some Manifest.sig_reversed:=by kernel_rfl
def R8:PySem.Slot "reversed" "__init__" "object.__init__":=
 .of (owner:="object") (n:="__init__") (by rw[typeLookup_type,builtinLookup_eq_fast];kernel_rfl) Wl Wl Wl
   (by first|exact .inl Wl|exact .inr Wl) (by rw[isSubtype_type];kernel_rfl)
def called:TypeCalled "reversed" "reversed.__new__" "object.__init__":=
 ⟨Wl,Wl,⟨_,_,PySem.F.mro_reversed⟩,PySem.F.made_reversed,Wl,PySem.F.sub_reversed_self,R8⟩
def slot_next:PySem.Slot "reversed" "__next__" "reversed.__next__":=
 .of (owner:="reversed") (n:="__next__") (by rw[typeLookup_type,builtinLookup_eq_fast];kernel_rfl) Wl Wl Wl
   (by first|exact .inl Wl|exact .inr Wl) (by rw[isSubtype_type];kernel_rfl)
def entry_next:entryFor table "reversed.__next__" = some Builtin.«reversed.__next__»:=entryFor_of_tree (by kernel_rfl)
def args_next(a:Value):argsOk "reversed.__next__" ⟨[a],[]⟩:=by
 unfold argsOk;rw[signature?_of (id:="reversed.__next__") (n:=['_','_','t','x','e','n','_','_']) (o:=['d','e','s','r','e','v','e','r']) (by kernel_rfl) R6];kernel_rfl
def obj(t:Addr)(i:Int):Obj:={cls:=.type "reversed",data:=.fields #[.ref t,rawInt i]}
def Is(h:Heap)(a t:Addr)(i:Int):Prop:=∃o,h.get? a=some o/\o.cls=.type "reversed" /\ o.data=.fields #[.ref t,rawInt i]
theorem Is.typeIs{t:Addr}{i:Int}(x:Is s.heap a t i):s.TypeIs (.ref a) "reversed":=let ⟨o,ho,hc,_⟩:=x;⟨o,ho,hc⟩
end Rv
namespace Rv
variable{A:Around}{E:BB}
abbrev _root_.DA:=Option Value->Shared->Prop
def next_item{t:Addr}{items:D2}{x:Value}{Q:DA}(hit:Is s.heap it t (i:Int))(ht:IsTup s.heap t items)(hne:t≠it)(hx:items[i]? = some x)(hsz:(items.size:Int)<2 ^ 63)
   (hQ:∀h' tk,Is h' it t ((i:Int)-1)->Heap.SameBut it s.heap h'->Q (some x) {s with heap:=h',toks:=tk}):wpAny (model prog w) A (pyNext (.ref it)) Q E s:=by
 obtain⟨o,ho,hc,hd⟩:=id hit;have hi:i<items.size:=(aur.mp hx).1;unfold pyNext;refine ar0 (auv (ato (name:=Str.ofString "__next__") hit.typeIs slot_next
   (atb slot_next hit.typeIs entry_next ?_ (args_next _))))
 unfold Builtin.«reversed.__next__»;refine ar0 (wpAny_of_eq (a:=(Value.ref it,[])) rfl ?_)
 try dsimp only
 refine ar0 (atv ho hd (x:=.ref t) rfl ?_);refine ar0 (atv ho hd (x:=rawInt (i:Int)) rfl ?_);show wpAny _ _ (if (i:Int)<0 then _ else _) _ _ s;rw[ash We];refine ar0 (auA ht.typeIs PySem.F.slot_tuple_getitem.lookup ?_);rw[ash Wp];refine ar0 (wpAny_mkInt ?_);refine ar0 (auv (getItem_tuple (s:={s with toks:=s.toks+1}) ht We We (j:=i) (by simp[seqIndex?];omega) hx ?_))
 try dsimp only
 refine ar0 (atv (s:={s with toks:=s.toks+1}) ho hd (x:=rawInt (i:Int)) rfl ?_);show wpAny _ _ (setField (.ref it) 1 (rawInt ((i:Int)-1)) >>= _) _ _ _;refine ar0 (aus (s:={s with toks:=s.toks+1}) ho hd Uf ?_);refine asd ⟨x,rfl,asd (hQ _ _ ?_ (atB ..))⟩;exact⟨_,atX _ ho (auK (atE hd _)),(Obj.cls_mapFields ..).trans hc,by
   rw[atE hd];simp⟩
def next_end{t:Addr}{Q:DA}(hh:A.handled=none)(hit:Is s.heap it t (-1))
   (hQ:∀h',Heap.ExtBut it s.heap h'->Q none {s with heap:=h'}):wpAny (model prog w) A (pyNext (.ref it)) Q E s:=by
 obtain⟨o,ho,hc,hd⟩:=id hit;unfold pyNext;refine ar0 (auv (ato (name:=Str.ofString "__next__") hit.typeIs slot_next
   (atb slot_next hit.typeIs entry_next ?_ (args_next _))))
 unfold Builtin.«reversed.__next__»;refine ar0 (wpAny_of_eq (a:=(Value.ref it,[])) rfl ?_)
 try dsimp only
 refine ar0 (atv ho hd (x:=.ref t) rfl ?_);refine ar0 (atv ho hd (x:=rawInt (-1)) rfl ?_);show wpAny _ _ (if (-1:Int)<0 then _ else _) _ _ s;rw[ass Wp];refine ar0 (wpAny_rule ?_);refine ar0 ?_;refine ar0 (aus ho hd Uf ?_);have UA:=atX (Obj.mapFields fun x=>x.setIfInBounds 1 (rawInt (-1))) ho (auK (atE hd _));have e1:Heap.ExtBut it s.heap (s.heap.update it (Obj.mapFields fun x=>x.setIfInBounds 1 (rawInt (-1)))):=(atB ..).extBut;refine aus UA (atE hd _) Uf ?_;refine ar0 ?_;show wpAny _ _ (newExc (.type "StopIteration") [] >>= _) _ _ _;refine ar0 ?_;simp only[newExc,newTuple];refine ar0 (atf ?_ (by size_fits));refine ar0 (m:=firstArgMember _ _) (wpAny_of_eq (a:=Value.none) (by first|rfl|(simp only[firstArgMember];rfl)) ?_);refine atf ?_ (by size_fits);simp only[raiseNew];refine ar0 (wpAny_handled ?_)
 first|rw[show A.in1.handled=none from hh]|rw[hh]
 refine ar0 (asd (wpAny_throw ?_));refine ar0 (auQ (T:="StopIteration") (b:=true) ⟨_,asM _ rfl,rfl⟩ isSubtype_stop ?_);exact asd (hQ _ fun b o hb e=>asv _ (asv _ ((auE _ _ (auj hb)).trans (e1 b o hb e))))
end Rv
def constInt:Expr->CC
 | .Constant (.int i) _ _=>some i
 | .UnaryOp .USub (.Constant (.int i) _ _) _=>some (-i)
 | _=>none
def zc:CS->Option AT
 | []=>some []
 | e::es=>(constInt e).bind fun x=>(zc es).map (x::·)
def R9{x:Int}(h:constInt e=some x):bO X CL b e δ (.sh (.int x)) δ:=by
 unfold constInt at h;split at h
 . cases h;exact lJ
 . cases h;exact m8 (au lJ)
 . cases h
def Kg{x:Int}(h:constInt e=some x):notStar e=true:=by
 unfold constInt at h;split at h
 . rfl
 . rfl
 . cases h
theorem G7:∀{es:CS} {l:AT},zc es=some l->GQ X CL b es δ ((l.map D.int).map T.sh) δ
 | [],l,h=>by
   have e:l=[]:=(asE h).symm;subst e;exact bK
 | e::es,l,h=>by
   rw[zc]at h;obtain⟨x,hx,h⟩:=Option.bind_eq_some_iff.mp h;obtain⟨l',hl,rfl⟩:=asF.mp h;exact aL (R9 hx) (G7 hl) (aZ (Kg hx))
variable{sP:At}
theorem aR.v8(S:aR K CL b H Z δ σ (.sh d::ts) (v::vs)):bq K CL Z d v:=by
 obtain⟨fp,gp,e0,r0,nd,ow⟩:=S.rep;cases r0 with
 | cons q1 q2=>
   cases q1 with
   | sh r=>exact r
theorem VY(h1:bO X CL b e1 δ (.sh (.tup ds)) δ1)(h2:bO X CL b e2 δ1 (.sh (.tup sP)) δ2)(n1:ds≠[])(n2:sP≠[])(hz:ds.length+sP.length<=sizeLine) :
   bO X CL b (.BinOp e1 .Add e2 pos) δ (.sh (.tup (ds++sP))) δ2:=fun H Z σ ts vs Q S k=>
 bP (Am O6 cP cP) (h1 H Z σ ts vs _ S fun v1 H1 Z1 z1 k1 S1=>h2 H1 Z1 σ _ _ _ S1 fun v2 H2 Z2 z2 k2 S2=>by
   have r2:=S2.v8;have r1:=S2.pop.v8;cases r1 with
   | tup VG Ka=>
     cases r2 with
     | tup hq2 Lg=>
       have e1:=Ka.length;have e2:=Lg.length;refine⟨_,_,_,_,rfl,rfl,aC.A4 S2.zh VG,aC.A4 S2.zh hq2,fun z=>n1 (List.eq_nil_of_length_eq_zero (by rw[e1,z];rfl)),We,fun z=>absurd (List.eq_nil_of_length_eq_zero (by rw[e2,z];rfl)) n2,fun _ p hp=>?_⟩;have rc:=aB.app Ka Lg;obtain⟨a,c,S4⟩:=(aR.sM rc S2.pop.pop).GU (by simp[rc.length,e1,e2]) hp;obtain⟨Z5,z5,S5⟩:=S4.B8;rw[T.bG,kP]at S5;exact k _ _ Z5 (z1.trans (z2.trans (a.trans z5))) (k1.trans (k2.trans c)) S5)
variable{ι:Nat->Nat}
def turned(ι:Nat->Nat)(i j:Nat):Nat->Nat:=fun k=>if i<=k/\k<j then ι (i+j-1-k) else ι k
def mkL(hi:X.N[i]? = some x)(h:X.env.scope.names.lookup x=some .local)(hf:X.fn x=true)(hd:AD x:=by decide)(hc:AE x:=by decide):Ln X i x:=⟨⟨hi,.inl h,hd,hc⟩,.inl h,.inl hf⟩
def mkC(hi:X.N[i]? = some x)(h:X.env.scope.names.lookup x=some .cell)(hf:X.fn x=true)(hd:AD x:=by decide)(hc:AE x:=by decide):Ln X i x:=⟨⟨hi,.inr (.inl h),hd,hc⟩,.inr h,.inl hf⟩
variable{px:Pos}{p:L3.D->Bool}{g:L3.D->T}
def ajP(sc:qd X scope y Nc ix):sR X scope [y] Nc ix:=⟨sc.kind,sc.GZ,sc.nd,sc.names,(fun x hx=>by rw[asw]at hx;subst hx;exact sc.own),sc.frees,sc.hd,sc.ixs⟩
def ajQ(sc:qd X scope y Nc ix)(h:Block X CL scope Nc ifs elt δc ds p g)(h1:AD y)(h2:AE y):yZ X CL scope Nc [y].length (.Name y px) part1 ifs elt δc ds p g:=fun C s0 H0 f0 b'=>
 ⟨VL (i:=0) sc.nd (af7 (by rw[sc.hd];rfl) sc.own h1 h2),fun d hd=>⟨[d],rfl,rfl,(h C s0 H0 f0 b' d hd).1,(h C s0 H0 f0 b' d hd).2⟩⟩
def lY(sc:qd X scope y Nc ix)(hc:X.calm=true)(h:Vv X CL b (.Name y px) iter δ ds δ1)(hb:(δc=J2 δ1 ix/\∀d∈ds,(g d).clean=true)\/δc=J3 δ1 ix)(inner:Block X CL scope Nc ifs elt δc ds p g)(hlen:ds.length<=sizeLine)
   (hs:AN X iter:=by intro _;rfl) (h1:AD y:=by decide) (h2:AE y:=by decide):bO X CL b (.ListComp elt [⟨.Name y px,iter,ifs,0⟩] scope pos) δ (.lst ((ds.filter p).map g)) δ1:=
 Ke (xs:=[y]) (ajP sc) hc (VJ h) hb (ajQ sc inner h1 h2) hlen hs
def sS{D:dW}{gg:L3.D->T}(g:Gx X)(n:Ln X i x)(sc:qd X scope y Nc ix)(h:Vv X CL b (.Name y px) iter δ ds δ1)(hb:(δc=J2 δ1 ix/\∀d∈ds,(gg d).clean=true)\/δc=J3 δ1 ix)(inner:Block X CL scope Nc ifs elt δc ds p gg)
   (hlen:ds.length<=sizeLine) (k:cQ X CL b eW (δ1.set i (some (.lst ((ds.filter p).map gg)))) D) (hl:i<δ1.length)
   (G0:swapsWith (.ListComp elt [⟨.Name y px,iter,ifs,0⟩] scope pc) (some (.Name x pos')) pos.line X.env=pure true\/swapsWith (.ListComp elt [⟨.Name y px,iter,ifs,0⟩] scope pc) (some (.Name x pos')) pos.line X.env=pure false) (hs:AN X iter:=by intro _;rfl)
   (h1:AD y:=by decide) (h2:AE y:=by decide):cQ X CL b (.Assign [.Name x pos'] (.ListComp elt [⟨.Name y px,iter,ifs,0⟩] scope pc) pos::eW) δ D:=
 af6 (xs:=[y]) g n (ajP sc) (VJ h) hb (ajQ sc inner h1 h2) hlen k hl G0 hs
def aO(n:Ln X i x)(h:δ[i]? = some (some (.sh d)):=by rfl):dD X CL b (.Name x pos) δ d δ:=au (v_ n.1 h)
structure cj(X:Cx):Prop where
 g:Gx X
 u:X.A.units+64<cLine
abbrev bW:NameKind:=.globalImplicit
abbrev cT:NameKind:=.local
def lZ{P:Ap}{sc:Scope}(h1:sc.kind=.function:=by rfl)(h2:sc.isCoroutine=false:=by rfl)(h3:sc.isGenerator=false:=by rfl)(h4:N.Nodup:=by decide +kernel)(h5:N.take P.length=P:=by rfl)(h6:∀x∈P,sc.names.lookup x=some .local\/sc.names.lookup x=some .cell:=by decide +kernel)(h7:∀y∈sc.names,y.2 ≠ .free:=by decide +kernel):d7 N P sc:=⟨h1,h2,h3,h4,h5,h6,h7⟩
variable{tb:Ch}
def qS(c:RT X.env.scope tb=true)(j:Nat)(hj:tb[j]? = some (x,.local):=by rfl)(hi:X.N[i]? = some x:=by rfl)(hf:X.fn x=true:=by rfl)(hd:AD x:=by decide)(hc:AE x:=by decide):Ln X i x:=mkL hi (dG c j hj) hf hd hc
def JB(c:RT X.env.scope tb=true)(j:Nat)(hj:tb[j]? = some (x,.cell):=by rfl)(hi:X.N[i]? = some x:=by rfl)(hf:X.fn x=true:=by rfl)(hd:AD x:=by decide)(hc:AE x:=by decide):Ln X i x:=mkC hi (dG c j hj) hf hd hc
def sy(c:RT X.env.scope tb=true)(j:Nat)(hj:tb[j]? = some (x,.globalImplicit):=by rfl):Gl X x:=dG c j hj
def di{m:Nat}{arg:A->At}{Pre:A->Prop}{res:A->T}(F:∃f fd ps,dP X.prog X.w X.K X.mg X.base pZ k f fd ps (GX X.K CL n arg Pre res)/\X.mg x=some (.ref f)/\keepIn X.K (.ref f)=true/\Binds X.K fd ps [])(r:dU m X.A)(h:k<=m:=by decide):Fc X CL x k n arg Pre res:=⟨F,r.mono h⟩
variable{δ':AR}{σ':L2.St}{y:Addr}
theorem aR.ajR(S:aR K CL b H Z δ σ ts vs)(hi:δ[i]? = some (some (.pin y t))):σ[i]? = some (some (.ref y))/\aR K CL b H Z (δ.set i (some t)) σ ts vs:=by
 obtain⟨fp,gp,e,r,nd,k⟩:=S.rep;obtain⟨v0,f1,f2,f3,hv,oq,rt,put,_⟩:=e.get hi;subst oq;cases rt with
 | pin rt=>
   have e2:=put (.refl _) (fun _ _=>rfl) rt;rw[c9 hv]at e2;exact⟨hv,⟨⟨_,gp,e2,r,nd,k⟩,S.bh,S.zz,S.zh,S.new,S.tp,S.tab⟩⟩
def zf(H:Hp)(gp:BM):Hp:=fun c=>if c∈gp then none else H c
def jN{c:Addr}(h:c∉gp):zf H gp c=H c:=ash h
def uC{c:Addr}(h:c∈gp):zf H gp c=none:=ass h
def uD{c:Addr}{o:HO}(h:zf H gp c=some o):c∉gp/\H c=some o:=by
 by_cases hc:c∈gp
 . rw[uC hc]at h;cases h
 . rw[jN hc]at h;exact⟨hc,h⟩
theorem aR.cut(S:aR K CL b H Z δ σ (tl++ts) (us++vs))(hl:tl.length=us.length):∃gp,aJ K CL H Z tl us gp/\gp.Nodup/\aR K CL b (zf H gp) Z δ σ ts vs:=by
 obtain⟨fp,g,e,r,nd,k⟩:=S.rep;obtain⟨g1,g2,rfl,r1,r2⟩:=aJ.split hl r;have hp:(fp++(g1++g2)).Perm (g1++(fp++g2)):=by
   rw[← ar7,← ar7];exact asL.append_right g2
 have Li:=asX.mp (hp.nodup_iff.mp nd);have ne:∀c∈fp++g2,c∉g1:=fun c hc h=>Li.2.2 c h c hc rfl;have own:∀c∈g1,Z c=none/\b.B c=none:=fun c hc=>k c (ar5 _ (ase _ hc));refine⟨g1,r1,Li.1,⟨⟨fp,g2,e.mono (.refl _) (fun c hc=>jN (ne c (ase _ hc))),r2.mono (.refl _) (fun c hc=>jN (ne c (ar5 _ hc))),Li.2.1,fun c hc=>k c (hp.mem_iff.mpr (ar5 _ hc))⟩,fun c o q=>?_,S.zz,fun c o q=>?_,S.new,fun c o q im=>S.tp c o (uD q).2 im,S.tab⟩⟩
 . rw[jN (fun h=>by rw[(own c h).2]at q;cases q)];exact S.bh c o q
 . rw[jN (fun h=>by rw[(own c h).1]at q;cases q)];exact S.zh c o q
theorem aR.ad5{W':Hp}(S:aR K CL b H Z δ σ ts vs)(hh:aC H H')(ww:aC Z W')(wh:aC W' H')(new:∀a o,W' a=some o->Z a=none->H a=none)
   (tp:∀a o,H' a=some o->ku o=true->W' a=some o) (r:aJ K CL H' W' tl us fp) (nd:fp.Nodup) (own:∀a∈fp,W' a=none/\H a=none):aR K CL b H' W' δ σ (tl++ts) (us++vs):=by
 obtain⟨f0,g0,e0,r0,nd0,k0⟩:=S.rep;have old:∀a∈f0++g0,∃o,H a=some o:=fun a ha=>(asf.mp ha).elim (e0.there a) (r0.there a);have keep:∀a∈f0++g0,H' a=H a:=fun a ha=>by
   obtain⟨o,e⟩:=old a ha;rw[e];exact hh a o e
 have hp:(f0++(fp++g0)).Perm (fp++(f0++g0)):=by
   rw[← ar7,← ar7];exact asL.append_right g0
 have wn:∀a∈f0++g0,W' a=none:=fun a ha=>by
   cases q:W' a with
   | none=>rfl
   | some o=>
     obtain⟨u,e⟩:=old a ha;rw[new a o q (k0 a ha).1]at e;cases e
 refine⟨⟨f0,fp++g0,e0.mono ww (fun a ha=>keep a (ase _ ha)),aJ.app r (r0.mono ww fun a ha=>keep a (ar5 _ ha)),?_,fun a ha=>?_⟩,S.bh.trans hh,S.zz.trans ww,wh,fun a o q z=>?_,tp,S.tab⟩
 . refine hp.nodup_iff.mpr (asX.mpr ⟨nd,nd0,fun a ha c hc e=>?_⟩);subst e;obtain⟨o,q⟩:=old a hc;rw[(own a ha).2]at q;cases q
 . rcases asf.mp (hp.mem_iff.mp ha) with h|h
   . exact⟨(own a h).1,Mf S.bh (own a h).2⟩
   . exact⟨wn a h,(k0 a h).2⟩
 . cases q2:Z a with
   | none=>exact Mf S.bh (new a o q q2)
   | some u=>
     exact S.new a u q2 z
def aaV:Bn->Bn->Prop
 | [],[]=>True
 | .sh d::l,.sh e::m=>d=e/\aaV l m
 | .pin x _::l,.pin z _::m=>x=z/\aaV l m
 | _,_=>False
def Keeps(δ:AR)(ol:Bn):Prop:=∀(j:Nat) (y:Addr) (t:T),ol[j]? = some (T.pin y t)->δ[j]? = some (some (T.pin y t))
theorem Keeps.tail{o:DO}{d:T}{ol:Bn}(k:Keeps (o::δ) (d::ol)):Keeps δ ol:=fun j y t h=>k (j+1) y t h
theorem eV.outs{W W':Hp}(ww:aC W W'):∀{al ol:Bn} {vs:BN} {g0:BM} {δ:AR} {σ:L2.St} {fp:BM},aaV al ol->aJ K CL H W al vs g0->eV K CL H' W' δ σ fp->Keeps δ ol->∃g,aJ K CL H' W' ol vs g/\g.Sublist fp
 | [],[],_,_,_,_,fp,_,.nil,_,_=>⟨[],.nil,List.nil_sublist _⟩
 | .sh d::al,.sh e::ol,_,_,δ,σ,fp,ho,.cons (.sh r) rs,re,k=>by
   obtain⟨h1,h2⟩:=ho;subst h1;cases re with
   | nil=>
     obtain⟨g,q,s⟩:=eV.outs ww h2 rs (.nil (H:=H') (Z:=W')) (fun j y t h=>by have:=k (j+1) y t h;simp at this);exact⟨[]++g,.cons (.sh (r.mono ww)) q,s⟩
   | skip re=>
     obtain⟨g,q,s⟩:=eV.outs ww h2 rs re k.tail;exact⟨[]++g,.cons (.sh (r.mono ww)) q,s⟩
   | cons rt re=>
     obtain⟨g,q,s⟩:=eV.outs ww h2 rs re k.tail;exact⟨[]++g,.cons (.sh (r.mono ww)) q,s.trans (atr _ _)⟩
 | .pin x t0::al,.pin z t::ol,_,_,δ,σ,fp,ho,.cons (.pin r) rs,re,k=>by
   obtain⟨h1,h2⟩:=ho;subst h1;have h0:=k 0 x t rfl;cases re with
   | nil=>simp at h0
   | skip re=>simp at h0
   | cons rt re=>
     simp at h0;subst h0;obtain⟨g,q,s⟩:=eV.outs ww h2 rs re k.tail;cases rt with
     | pin rt=>exact⟨_,.cons (.pin rt) q,asW (asZ _) s⟩
def v9(N:Ap)(al:Bn):AR:=al.map some++List.replicate (N.length-al.length) none
theorem AA:∀{al:Bn} {vs:BN} {gp:BM} (n:Nat),aJ K CL H Z al vs gp->eV K CL H Z (al.map some++List.replicate n none) (vs.map some++List.replicate n none) gp
 | _,_,_,n,.nil=>kE (ds:=[]) (vs:=[]) n .nil
 | _,_,_,n,.cons r t=>.cons r (AA n t)
def Sb(K:Frag)(CL:BC)(n:Nat)(arg:A->Bn)(Pre:A->Prop)(res:A->T)(out:A->Bn):Sp:=fun vs H Q _=>
 ∃(W:Hp) (a:A) (gp:BM),aC W (zf H gp)/\(∀c o,H c=some o->ku o=true->W c=some o)/\aJ K CL H W (arg a) vs gp/\gp.Nodup/\(arg a).length=n/\Pre a/\oX CL W ∧
   ∀v H' W' fp,aC (zf H gp) H'->aC W W'->aC W' H'->(∀c o,W' c=some o->W c=none->zf H gp c=none)->(∀c o,H' c=some o->ku o=true->W' c=some o) →
     aJ K CL H' W' (res a::out a) (v::vs) fp->fp.Nodup->(∀c∈fp,W' c=none/\zf H gp c=none)->Q v H'
def Cr{mg:Bz}{base:Heap}{qual:Str}{arg:A->Bn}{Pre:A->Prop}{res:A->T}{out:A->Bn}(F:kr K x qual st f fd)(S:d7 N ps (av st))(ho:∀a,Pre a->aaV (arg a) (out a))
   (hb:∀(jc:Value) (Ar:Around) (outer:Db) (s:Shared) (H:Hp) (E:XK) (b:Bx) (a:A),dU k (Ar.deeper (envOfC qual (av st) s.heap.objs.size f jc))->Pre a →
     cQ (yS pZ P w K mg base N qual (av st) f jc Ar outer s H E).Z9 CL b (dF st) (v9 N (arg a)) {nx:=fun δ=>res a=.sh .non/\Keeps δ (out a),rt:=fun t δ=>t=res a/\Keeps δ (out a)}) :
   dP P w K mg base pZ (k+1) f fd ps (Sb K CL ps.length arg Pre res out):=by
 refine F.ok S (fun vs H Q E h=>?_) (fun jc Ar outer s H vs Q E hr h=>?_)
 . obtain⟨W,a,gp,_,_,r,_,hl,_⟩:=h;rw[← r.length];exact hl
 . obtain⟨W,a,gp,wh,tp,r,nd,hl,hp,tb,kk⟩:=h;have wn:∀c∈gp,W c=none:=fun c hc=>by
     cases q:W c with
     | none=>rfl
     | some o=>exact absurd hc (uD (wh c o q)).1
   refine⟨_,Mb,hb jc Ar outer s H E ⟨zf H gp,W⟩ a hr hp H W _ [] [] _ ⟨⟨gp,[],?_,.nil,by rw[asx];exact nd,fun c hc=>?_⟩,fun c o q=>(uD q).2,.refl _,fun c o q=>(uD (wh c o q)).2,fun c o q z=>?_,tp,tb⟩ ⟨fun δ' σ' H' Z' s' S' e=>?_,fun t v H' Z' δ' σ' s' S' e=>?_,fun _ _ _ _ _ _ e=>e.elim,fun _ _ _ _ _ _ e=>e.elim⟩⟩
   . unfold v9 L2.start;rw[← r.length];exact AA _ r
   . rw[asx]at hc;exact⟨wn c hc,uC hc⟩
   . have q':W c=some o:=q;have z':W c=none:=z;rw[q']at z';cases z'
   . obtain⟨e1,e2⟩:=e;obtain⟨fp,gq,re,r',Li,own⟩:=S'.rep;obtain⟨g,q,sb⟩:=eV.outs S'.zz (ho a hp) r re e2;have nf:=(asX.mp Li).1;exact kk .non H' Z' ([]++g) S'.bh S'.zz S'.zh S'.new S'.tp (.cons (by rw[e1];exact .sh .non) q) (nf.sublist sb) fun c hc=>own c (ase _ (sb.subset hc))
   . obtain⟨e1,e2⟩:=e;subst e1;obtain⟨fp,gq,re,r',Li,own⟩:=S'.rep;obtain⟨g,q,sb⟩:=eV.outs S'.zz (ho a hp) r re e2;cases r' with
     | @cons _ _ _ _ f1 f2 r1 r2=>
       have sub:(g++f1).Sublist (fp++(f1++f2)):=asW sb (List.sublist_append_left _ _);have pm:(f1++g).Perm (g++f1):=asL;exact kk v H' Z' (f1++g) S'.bh S'.zz S'.zh S'.new S'.tp (.cons r1 q) (pm.nodup_iff.mpr (Li.sublist sub)) fun c hc=>own c (sub.subset (pm.mem_iff.mp hc))
def AtS(σ:L2.St):Bi->BM->Prop
 | [],[]=>True
 | i::is,y::ys=>σ[i]? = some (some (.ref y))/\AtS σ is ys
 | _,_=>False
def m9:Bn->BM->Bn->Prop
 | [],[],[]=>True
 | .sh _::ol,ys,ns=>m9 ol ys ns
 | .pin y t::ol,z::ys,n::ns=>y=z/\(n=t\/n=.pin y t)/\m9 ol ys ns
 | _,_,_=>False
def Mt:AR->Bi->Bn->AR
 | δ,i::is,n::ns=>Mt (δ.set i (some n)) is ns
 | δ,_,_=>δ
theorem aR.aaW:∀{ol:Bn} {us:BN} {is:Bi} {ys:BM} {ns:Bn} {δ:AR},aR K CL b H Z δ σ (ol++ts) (us++vs)->ol.length=us.length->AtS σ is ys->m9 ol ys ns->(∀i∈is,i<δ.length)->aR K CL b H Z (Mt δ is ns) σ ts vs
 | [],[],[],[],[],δ,S,_,_,_,_=>S
 | [],[],_::_,[],_,δ,S,_,ha,_,_=>ha.elim
 | [],[],_::_,_::_,_,δ,S,_,_,hp,_=>by simp[m9]at hp
 | .pin _ _::_,_::_,[],_::_,_,δ,S,_,ha,_,_=>ha.elim
 | .pin _ _::_,_::_,[],[],_,δ,S,_,_,hp,_=>by simp[m9]at hp
 | .sh d::ol,u::us,is,ys,ns,δ,S,hl,ha,hp,hi=>aR.aaW (ol:=ol) (us:=us) (ys:=ys) S.pop (by simpa using hl) ha (by rw[m9]at hp;exact hp) hi
 | .pin y t::ol,u::us,i::is,z::ys,n::ns,δ,S,hl,ha,hp,hi=>by
   rw[m9]at hp;obtain⟨rfl,hn,hp⟩:=hp;obtain⟨ha0,ha⟩:=ha;have hu:u=.ref y:=by
     obtain⟨_,_,_,r,_,_⟩:=S.rep;cases r with
     | cons r _=>cases r;rfl
   subst hu;have hi0:=hi i ar4;have S1:=S.set hi0;rw[c9 ha0]at S1;have S2:aR K CL b H Z (δ.set i (some n)) σ (ol++ts) (us++vs):=by
     rcases hn with rfl|rfl
     . have:=(S1.ajR (List.getElem?_set_self hi0)).2
       rwa [List.set_set]at this
     . exact S1
   rw[Mt];exact aR.aaW S2 (by simpa using hl) ha hp fun j hj=>by rw[List.length_set];exact hi j (List.mem_cons_of_mem _ hj)
section
variable{D:dW}{is:Bi}{fx:BM->Prop}{al:BM->Bn}
def A7(X:Cx)(CL:BC)(b:Bx)(e:Expr)(δ:AR)(t:T)(δ':AR):Prop:=
 ∀(H Z:Hp) (σ:L2.St) (ts:Bn) (vs:BN) (Q:VK),aR X.K CL b H Z δ σ ts vs->(∀v H' Z',aC Z Z'->aR X.K CL b H' Z' δ' σ (t::ts) (v::vs)->Q v H')->A5 X e σ H Q
def VZ(h:A7 X CL b e δ t δ1)(k:D.nx δ1)(hs:swapsWith e none pos.line X.env=pure false:=by rfl):UD X CL b (.Expr e pos) δ D:=fun H Z σ ts vs E S M=>om (wY cP hs) (h H Z σ ts vs _ S fun v H1 Z1 z1 S1=>M.nx δ1 σ H1 Z1 z1 S1.pop k)
def aaX(i:Nat)(h:A7 X CL b e δ t δ1)(k:D.nx (δ1.set i (some t)))(hl:i<δ1.length:=by decide)(hN:X.N.Nodup:=by assumption)(hi:X.N[i]? = some x:=by rfl)(hx:Loc X.env.scope x:=by first|exact .inl rfl|exact .inr rfl)
   (hs:swapsWith e (some (.Name x pos')) pos.line X.env=pure false:=by rfl) (hf:AM X x:=by first|exact .inl rfl|exact .inr rfl|assumption):UD X CL b (.Assign [.Name x pos'] e pos) δ D:=fun H Z σ ts vs E S M=>
 om (Lz hN hi hx cP hs hf) (h H Z σ ts vs _ S fun v H1 Z1 z1 S1=>M.nx _ _ H1 Z1 z1 (S1.set hl) k)
def UG(X:Cx)(CL:BC)(b:Bx)(es:CS)(δ:AR)(is:Bi)(fx:BM->Prop)(al:BM->Bn)(δ':AR):Prop:=
 ∀(H Z:Hp) (σ:L2.St) (ts:Bn) (vs:BN) (Q:FA),aR X.K CL b H Z δ σ ts vs →
   (∀ys us H' Z',ys.length=is.length->AtS σ is ys->fx ys->us.length=(al ys).length->aC Z Z'->aC H H'->aR X.K CL b H' Z' δ' σ ((al ys).reverse++ts) (us.reverse++vs)->Q us H')->RL X es σ H Q
def Mu:UG X CL b [] δ [] (fun _=>True) (fun _=>[]) δ:=fun H Z σ ts vs Q S k=>GP dZ (k [] [] H Z rfl trivial trivial rfl (.refl _) (.refl _) S)
def V0(h1:bO X CL b e δ (.sh d) δ1)(h2:UG X CL b es δ1 is fx al δ2)(hs:AC X e es:=by exact aZ rfl):UG X CL b (e::es) δ is fx (fun ys=>.sh d::al ys) δ2:=fun H Z σ ts vs Q S k=>
 GP (bY cP Jz hs) (h1 H Z σ ts vs _ S fun v H1 Z1 z1 k1 S1=>h2 H1 Z1 σ _ _ _ S1 fun ys us H2 Z2 hy ha hf hl z2 k2 S2=>k ys (v::us) H2 Z2 hy ha hf (by simp[hl]) (z1.trans z2) (k1.trans k2) (by
   rw[as2,as2,ar7,ar7];exact S2))
def T.isRef:T->Bool
 | .lst _=>true
 | .ins _ _=>true
 | .uz _=>true
 | .dct _=>true
 | _=>false
theorem aR.V1(S:aR K CL b H Z δ σ (t::ts) (v::vs))(h:t.isRef=true):∃y,v=.ref y/\aR K CL b H Z δ σ (.pin y t::ts) (.ref y::vs):=by
 obtain⟨fp,gp,e,r,nd,k⟩:=S.rep;cases r with
 | cons r rs=>
   cases r with
   | sh r=>cases h
   | tup r _=>cases h
   | pin r=>cases h
   | lz r _ _=>cases h
   | lst r q=>exact⟨_,rfl,⟨⟨fp,_,e,.cons (.pin (.lst r q)) rs,nd,k⟩,S.bh,S.zz,S.zh,S.new,S.tp,S.tab⟩⟩
   | ins r q=>exact⟨_,rfl,⟨⟨fp,_,e,.cons (.pin (.ins r q)) rs,nd,k⟩,S.bh,S.zz,S.zh,S.new,S.tp,S.tab⟩⟩
   | uz r q=>exact⟨_,rfl,⟨⟨fp,_,e,.cons (.pin (.uz r q)) rs,nd,k⟩,S.bh,S.zz,S.zh,S.new,S.tp,S.tab⟩⟩
   | dct r q=>exact⟨_,rfl,⟨⟨fp,_,e,.cons (.pin (.dct r q)) rs,nd,k⟩,S.bh,S.zz,S.zh,S.new,S.tp,S.tab⟩⟩
def ad6(n:Vn X i x)(h:δ[i]? = some (some t))(ho:t.isRef=true)(h2:UG X CL b es (δ.set i none) is fx al δ2)(hs:starEach (.Name x pos::es) X.env=(false,eval (.Name x pos) X.env)::starEach es X.env:=by exact aZ rfl) :
   UG X CL b (.Name x pos::es) δ (i::is) (fun ys=>fx ys.tail) (fun ys=>.pin (ys.headD 0) t::al ys.tail) δ2:=fun H Z σ ts vs Q S k=>by
 obtain⟨v,e,S1⟩:=S.move h;obtain⟨y,rfl,S0⟩:=S1.V1 ho;exact GP (bY (gw n.hi n.hv n.hd n.ko) Jz hs) ⟨_,e,h2 H Z σ _ _ _ S0 fun ys us H2 Z2 hy ha hf hl z2 k2 S2=>k (y::ys) (.ref y::us) H2 Z2 (by simp[hy]) ⟨e,ha⟩ hf (by simp[hl]) z2 k2 (by
   show aR _ _ _ _ _ _ _ ((T.pin y t::al ys).reverse++ts) _;rw[as2,as2,ar7,ar7];exact S2)⟩
def ajS(n:Vn X i x)(h:δ[i]? = some (some (.pin y t)))(h2:UG X CL b es (δ.set i none) is fx al δ2)(hs:starEach (.Name x pos::es) X.env=(false,eval (.Name x pos) X.env)::starEach es X.env:=by exact aZ rfl) :
   UG X CL b (.Name x pos::es) δ (i::is) (fun ys=>ys.headD 0=y/\fx ys.tail) (fun ys=>.pin y t::al ys.tail) δ2:=fun H Z σ ts vs Q S k=>by
 obtain⟨v,e,S1⟩:=S.move h;have hv:v=.ref y:=by
   obtain⟨_,_,_,r,_,_⟩:=S1.rep;cases r with
   | cons r _=>cases r;rfl
 subst hv;exact GP (bY (gw n.hi n.hv n.hd n.ko) Jz hs) ⟨_,e,h2 H Z σ _ _ _ S1 fun ys us H2 Z2 hy ha hf hl z2 k2 S2=>k (y::ys) (.ref y::us) H2 Z2 (by simp[hy]) ⟨e,ha⟩ ⟨rfl,hf⟩ (by simp[hl]) z2 k2 (by
   show aR _ _ _ _ _ _ _ ((T.pin y t::al ys).reverse++ts) _;rw[as2,as2,ar7,ar7];exact S2)⟩
def V2{arg:A->Bn}{Pre:A->Prop}{res:A->T}{out:A->Bn}(a:BM->A)(ns:Bn)(F:dP X.prog X.w X.K X.mg X.base pZ k f fd ps (Sb X.K CL n arg Pre res out))(hr:dU k X.A)(hm:X.mg x=some (.ref f))(hk:keepIn X.K (.ref f)=true)(hb:Binds X.K fd ps [])
   (h:UG X CL b (e::es) δ is fx al δ1) (ha:∀ys,ys.length=is.length->fx ys->arg (a ys)=al ys/\(arg (a ys)).length=n/\Pre (a ys)/\res (a ys)=t/\m9 (out (a ys)) ys ns) (FL:∀i∈is,i<δ1.length) (hg:Gl X x)
   (su:AD x:=by decide) (he:AC X e es:=by exact aZ rfl) (hpl:AL X pos es:=by rfl) :
   A7 X CL b (.Call (.Name x pp) (e::es) [] pos) δ t (Mt δ1 is ns):=fun H Z σ ts vs Q S kk=>
 bP (GD F hr hg hm hk hb .nil sG Jz su he hpl) (h H Z σ ts vs _ S fun ys us H1 Z1 hly yO hf hlu z1 k1 S1=>by
   rw[asx];obtain⟨ha1,ha2,hp,hrs,hpu⟩:=ha ys hly hf;obtain⟨g,r,nd,S2⟩:=S1.cut (by simp[hlu]);obtain⟨g',r',pm⟩:=r.rev;have ec:zf H1 g=zf H1 g':=funext fun c=>by
     by_cases hc:c∈g
     . rw[uC hc,uC (pm.mem_iff.mpr hc)]
     . rw[jN hc,jN (fun z=>hc (pm.mem_iff.mp z))]
   rw[ec]at S2;rw[← ha1]at r';refine⟨Z1,a ys,g',S2.zh,S1.tp,r',pm.nodup_iff.mpr nd,ha2,hp,S1.RN,fun v H' W' fp hh ww wh nw tp rt Li own=>?_⟩;cases rt with
   | @cons _ _ _ _ f1 f2 q1 q2=>
     have Pk:(f2++(f1++[])).Perm (f1++f2):=by rw[asx];exact asL
     have S3:=S2.ad5 hh ww wh nw tp (aJ.app q2 (.cons q1 .nil)) (Pk.nodup_iff.mpr Li) fun c hc=>own c (Pk.mem_iff.mp hc);rw[ar7,ar7]at S3;have S4:=S3.aaW q2.length yO hpu FL;rw[hrs]at S4;exact kk v H' W' (z1.trans ww) S4)
structure FcM(X:Cx)(CL:BC)(x:Str)(k n:Nat){A:Type}(arg:A->Bn)(Pre:A->Prop)(res:A->T)(out:A->Bn):Prop where
 ex:∃f fd ps,dP X.prog X.w X.K X.mg X.base pZ k f fd ps (Sb X.K CL n arg Pre res out)/\X.mg x=some (.ref f)/\keepIn X.K (.ref f)=true/\Binds X.K fd ps []
 room:dU k X.A
def cM1{arg:A->Bn}{Pre:A->Prop}{res:A->T}{out:A->Bn}(a:Addr->A)(nt:T)(F:FcM X CL x k n arg Pre res out)(hg:Gl X x)(h:UG X CL b (e::es) δ [i] fx al δ1)(hp:∀y,fx [y]->Pre (a y))(Mv:∀y,fx [y]->res (a y)=t)(Mw:∀y,fx [y]->m9 (out (a y)) [y] [nt])
   (Mx:∀y,fx [y]->arg (a y)=al [y]:=by intros;rfl) (hlen:∀y,(arg (a y)).length=n:=by intros;rfl) (FL:i<δ1.length:=by exact ar8 rfl)
   (su:AD x:=by decide) (he:AC X e es:=by exact aZ rfl) (hpl:AL X pos es:=by rfl) :
   A7 X CL b (.Call (.Name x pp) (e::es) [] pos) δ t (δ1.set i (some nt)):=by
 obtain⟨⟨f,fd,ps,G,m,q,bd⟩,r⟩:=F;exact V2 (fun ys=>a (ys.headD 0)) [nt] G r m q bd h (fun ys hl hf=>match ys,hl,hf with | [y],_,hf=>⟨Mx y hf,hlen y,hp y hf,Mv y hf,Mw y hf⟩) (fun j hj=>by cases asw.mp hj;exact FL) hg su he hpl
def G8(g:Gx X)(n:Ln X i x)(h:A7 X CL b e δ t δ1)(k:cQ X CL b eW (δ1.set i (some t)) D)(hl:i<δ1.length:=by exact ar8 rfl)(hs:swapsWith e (some (.Name x pos')) pos.line X.env=pure false:=by rfl) :
   cQ X CL b (.Assign [.Name x pos'] e pos::eW) δ D:=bI (aaX i h k hl g.nd n.hi n.loc hs n.hf)
def PD(h:A7 X CL b e δ t δ1)(k:cQ X CL b eW δ1 D)(hs:swapsWith e none pos.line X.env=pure false:=by rfl):cQ X CL b (.Expr e pos::eW) δ D:=bI (VZ h k hs)
end
def ant(y:Int):Value->Bool
 | .int i _=>i==y
 | _=>false
def V3:MtR X "list.index" (fun x xs H Q=>∃(p:Addr) (l:AT) (y:Int) (j:Nat),x=.ref p/\xs=[.int y]/\ou X.K H p (l.map .int)/\l[j]? = some y/\(∀i,i<j->l[i]? ≠ some y)/\Q (.int (j:Int)) H):=by
 intro pins s σ H x xs v us Q I rx rs h;obtain⟨p,l,y,j,rfl,rfl,hq,hj,Fv,q⟩:=h;cases rx;obtain⟨u,rfl,ru⟩:=rs.one;obtain⟨t,rfl⟩:=ru;obtain⟨its,r,⟨⟨oc,od,oda,Uz⟩,n,e,hc,hd,hs⟩,hz⟩:=I.list hq;dsimp only at hc hd hs;subst hc hd hs;have hi:=intsAre_of r;have at':∀{i:Nat} (hi:i<its.toArray.size),∃k t,its.toArray[i]=.int k t/\l[i]? = some k:=fun {i} m7=>by
   have anu:i<its.length:=by simpa using m7
   have hl:i<l.length:=by have:=r.length;rw[ar3]at this;omega
   obtain⟨u,e1,e2⟩:=r.get (i:=i) (x:=.int l[i]) (by rw[asi,ar6 hl];rfl);obtain⟨t,rfl⟩:=e2;refine⟨l[i],t,?_,ar6 hl⟩;rw[ar6 anu]at e1;simpa using Option.some.inj e1
 have Se:j<its.toArray.size:=by
   have h1:=(asl.mp hj).1;have:=r.length;rw[ar3]at this;simp;omega
 have hsz:its.toArray.size<=sizeLine:=by
   have:=r.length;rw[asy,← this];exact hz
 refine auO F.slot_list_index ⟨_,e,rfl⟩ F.entry_list_index (F.args_list_index_2 _ _) (SeqAt.list_indexAt p its.toArray n none Uz (.int y t) (ant y) j Se (by rw[asD]at hsz;omega) ?hit fun m hm hmj=>?no) ⟨e,fun w hw=>?eqs,?_⟩
 case hit=>
   obtain⟨k,t',e1,e2⟩:=at' Se;rw[e1];rw[hj]at e2;cases e2;exact atV y
 case no=>
   obtain⟨k,t',e1,e2⟩:=at' hm;rw[e1];exact ats.mpr fun z=>Fv m hmj (by rw[e2,z])
 case eqs=>
   obtain⟨i,m7,rfl⟩:=Array.mem_iff_getElem.mp hw;obtain⟨k,t',e1,e2⟩:=at' m7;rw[e1];exact SeqAt.EqAt.int_int k t' y t
 exact⟨.int (j:Int),H,I.tok _,⟨_,rfl⟩,q⟩
def V4{l:AT}{y:Int}(h1:dD X CL b o δ (.lst (l.map .int)) δ1)(h2:dD X CL b e δ1 (.int y) δ2)(hj:l[j]? = some y)(Fv:∀i,i<j->l[i]? ≠ some y)
   (gy:attributeBase o "index" X.env (eval o X.env)=eval o X.env:=by rfl) (qN:((backTo pos (starEach [e] X.env)).all (fun x=>!x.1)&&(backToKw pos (keywordEach [] X.env)).all (fun x=>x.1.isSome)
     && decide (([e]:CS).length+([]:EO).length+(if ([]:EO).isEmpty then 0 else 1)<30))=true:=by rfl)
   (hline:(apos.endLine==pos.line)=true:=by rfl) (hs:AC X e []:=by exact aZ rfl) (vS:(backTo pos (starEach [] X.env)).any (·.1)=false:=by rfl) :
   bO X CL b (.Call (.Attribute o "index" apos) [e] [] pos) δ (.sh (.int (j:Int))) δ2:=fun H Z σ ts vs Q S k=>
 bP (Fw (T:="list") (id:="list.index") F.plainAttrs_list F.slot_list_index F.type_list_index V3 cP (bY cP dZ hs) gy qN hline hs vS) (h1 H Z σ ts vs _ S fun v1 H1 Z1 z1 k1 S1 r1=>by
   cases r1 with
   | @lst a us _ hq rr=>
     have:=zb rr;subst this;refine⟨?_,h2 H1 Z1 σ ts vs _ S1 fun v2 H2 Z2 z2 k2 S2 r2=>?_⟩
     . exact .inl ⟨rfl,_,hq⟩
     . cases r2;exact⟨a,l,y,j,rfl,rfl,k2.seq hq,hj,Fv,k _ H2 Z2 (z1.trans z2) (k1.trans k2) (S2.push (.int _))⟩)
def Kh:bootBuiltins "range" = some (.type "range"):=by decide +kernel
def Kl:oA X (.type "range") (fun xs H Q=>∃n,xs=[.int n]/\∀r,H r=none->Q (.ref r) (upd H r (.rng 0 n))):=by
 intro pins s σ H xs us Q I r h;obtain⟨n,rfl,q⟩:=h;obtain⟨u,rfl,ru⟩:=vals1 r;obtain⟨t,rfl⟩:=ru;exact call_range_1 ⟨.ref s.heap.objs.size,_,I.laid (t':=s.toks+1+1) (o:=.rng 0 n) (fun b o e=>asv _ e) (asp _) ⟨_,_,_,asM _ rfl⟩,rfl,q _ (I.cW.fresh (asp _))⟩
theorem FN:∀(l:BY) (k:Nat),(∀j v,l[j]? = some v->∃t,v=Value.int ((k+j:Nat):Int) t)->Vals ((List.range' k l.length).map fun(i:Nat)=>V.int (i:Int)) l
 | [],_,_=>.nil
 | v::l,k,h=>by
   rw[asN,List.range'_succ,asA];refine .cons (h 0 v rfl) (FN l (k+1) fun j w e=>?_);obtain⟨t,ht⟩:=h (j+1) w (by simpa using e);exact⟨t,by rw[ht];congr 1;omega⟩
def My{acc:D2}(h:ItemsOf (fun i v=>∃t,v=Value.int (0+i*1) t) acc n):Vals ((List.range n).map fun(i:Nat)=>V.int (i:Int)) acc.toList:=by
 have:=FN acc.toList 0 fun j v e=>by
   rw[atY]at e;obtain⟨t,ht⟩:=h.2 j v e;exact⟨t,by rw[ht];congr 1;omega⟩
 rw[aue,h.1]at this;rw[List.range_eq_range'];exact this
def G9(hc:X.calm=true):oA X (.type "list") (fun xs H Q=>∃(p:Addr) (n:Nat),xs=[.ref p]/\H p=some (.rng 0 (n:Int))/\n<=1000/\∀l,H l=none->Q (.ref l) (upd H l (.lst ((List.range n).map fun(i:Nat)=>V.int (i:Int))))):=by
 intro pins s σ H xs us Q I r h;obtain⟨p,n,rfl,hp,hn,q⟩:=h;obtain⟨u,rfl,ru⟩:=vals1 r;cases ru;obtain⟨t,u,v,e⟩:=I.cW p _ hp;refine call_list_range (n:=n) (I.ok.hd hc) e (small_one We We We We) (by rw[rangeSize_one];split<;>omega) We fun h' tk anv c' hk hS' items=>?_;refine⟨.ref s.heap.objs.size,_,I.laid (t':=tk) (o:=.lst ((List.range n).map fun(i:Nat)=>V.int (i:Int))) hk (Nat.le_refl _) ⟨?_,anv.toList,c',My items,by simpa using hS'⟩,rfl,q _ (I.cW.fresh (Nat.le_refl _))⟩;rw[ar3,asz];exact aty (jC hn)
variable{pq:Pos}
def V5(g:Gx X)(hm:X.mg "list" = none)(hmr:X.mg "range" = none)(h:dD X CL b e δ (.int (n:Int)) δ1)(hn:n<=1000)(hg:Gl X "list")(hgr:Gl X "range")(hs:AC X e []:=by exact aZ rfl) :
   bO X CL b (.Call (.Name "list" pp) [.Call (.Name "range" pq) [e] [] pr] [] pos) δ (.lst ((((List.range n).map fun(i:Nat)=>(i:Int)).map D.int).map T.sh)) δ1:=fun H Z σ ts vs Q S k=>
 bP (jB (G9 g.calm) hg hm cz (bY (jB Kl hgr hmr Kh (bY cP dZ hs) (he:=hs)) dZ (aZ rfl)) (he:=aZ rfl)) (h H Z σ ts vs _ S fun v H1 Z1 z1 k1 S1 r=>by
   cases r;refine⟨_,rfl,fun r hr=>⟨r,n,rfl,aD,hn,fun p hp=>?_⟩⟩;have same:aC H1 (upd H1 r (.rng 0 (n:Int))):=aC.upd hr;obtain⟨Z',z',S2⟩:=S1.back (t:=.sh (.int 0)) (v:=.int 0) (fp:=[]) (W:=Z1) (W':=Z1) same (.refl _) (.refl _) (S1.zh.trans same) (fun a o q z=>by rw[q]at z;cases z) (fun a o q im=>by
     by_cases ha:a=r
     . subst ha;rw[aD]at q;cases q;cases im
     . rw[ak ha]at q;exact S1.tp a o q im) (.sh (.int 0)) atA (fun a ha=>by cases ha) (.inl rfl)
   have ev:((List.range n).map fun(i:Nat)=>V.int (i:Int))=((List.range n).map fun(i:Nat)=>(i:Int)).map V.int:=by rw[asC];rfl
   rw[ev];obtain⟨c,S3⟩:=(aR.sM (ints_rep ((List.range n).map fun(i:Nat)=>(i:Int))) S2.pop).sJ (g0:=[]) Uf hp;exact k _ _ _ (z1.trans z') ((k1.trans same).trans c) S3)
def V6(h:dD X CL b e δ (.lst ds) δ1)(he:∀whole,isTrue e X.env whole=(do let v ← whole;standAt e.pos;holding [v] (truthy v)):=by intro _;rfl):vU X CL b e δ (!ds.isEmpty) δ1:=fun H Z σ ts vs Q S k=>
 El (UW cP he) (h H Z σ ts vs _ S fun v H1 Z1 z1 k1 S1 r=>by
   cases r with
   | @lst a us _ hq rr=>
     refine⟨_,.inl ⟨us,hq,rfl⟩,?_⟩;have e:us.isEmpty=ds.isEmpty:=by
       have:=rr.length;cases us<;>cases ds<;>simp at this ⊢
     rw[e];exact k H1 Z1 z1 k1 S1)
def jD(ks:CO):T:=.tup ((ks.map VX).map T.sh)
def lB(kvs:List (CO×α))(k:CO):Option α:=(kvs.find? fun kv=>decide (kv.1=k)).map (·.2)
def ng{p:CO×α}{r:List (CO×α)}{k:CO}(e:p.1=k):lB (p::r) k=some p.2:=by simp[lB,at9,e]
def nh{p:CO×α}{r:List (CO×α)}{k:CO}(e:¬ p.1=k):lB (p::r) k=lB r k:=by simp[lB,at9,e]
theorem Ma.tr{b:Addr}{kvs:BS}{k:CO}(e:Rd H a (.dT kvs))(eb:H b=some (.tup (k.map kV))):Ma H a (.ref b) (m5 kvs k):=.inr ⟨kvs,k,b,e,rfl,eb,rfl⟩
variable{d:D}
theorem Sf{ks:CO}(r:aJ K CL H Z ((ks.map VX).map T.sh) us fp):us=ks.map kV:=by
 induction ks generalizing us fp with
 | nil=>cases r;rfl
 | cons k ks ih=>
   rw[asA,asA]at r;cases r with
   | cons r rr=>
     cases r with
     | sh r=>rw[r.key,ih rr,asA]
theorem cA.length{kvs:Co}{gs:BS}(h:cA K CL Z kvs gs):kvs.length=gs.length:=
 cA.ind (P:=fun kvs gs=>kvs.length=gs.length) rfl (fun _ _ i=>congrArg (· + 1) i) h
theorem cA.keys{kvs:Co}{gs:BS}(h:cA K CL Z kvs gs):kvs.map (·.1)=gs.map (·.1):=
 cA.ind (P:=fun kvs gs=>kvs.map (·.1)=gs.map (·.1)) rfl (fun {x _ _ _ _} _ _ i=>congrArg (x::·) i) h
theorem cA.val{k:CO}{kvs:Co}{gs:BS}(h:cA K CL Z kvs gs):(lB kvs k=none/\m5 gs k=none)\/∃d v,lB kvs k=some d/\m5 gs k=some v/\bq K CL Z d v:=
 cA.ind (P:=fun kvs gs=>(lB kvs k=none/\m5 gs k=none)\/∃d v,lB kvs k=some d/\m5 gs k=some v/\bq K CL Z d v) (.inl ⟨rfl,rfl⟩) (fun {x d v _ _} r _ i=>by
   by_cases e:x=k
   . exact .inr ⟨d,v,ng e,sH e,r⟩
   . rw[nh (p:=(x,d)) e,sI (p:=(x,v)) e];exact i) h
theorem cO.length{kvs:CI}{gs:BS}(h:cO K CL H Z kvs gs fp):kvs.length=gs.length:=
 cO.ind (P:=fun kvs gs _=>kvs.length=gs.length) rfl (fun _ _ i=>congrArg (· + 1) i) h
theorem cO.keys{kvs:CI}{gs:BS}(h:cO K CL H Z kvs gs fp):kvs.map (·.1)=gs.map (·.1):=
 cO.ind (P:=fun kvs gs _=>kvs.map (·.1)=gs.map (·.1)) rfl (fun {x _ _ _ _ _ _} _ _ i=>congrArg (x::·) i) h
theorem cO.snoc{k:CO}{kvs:CI}{gs:BS}{ft:BM}(h:cO K CL H Z kvs gs fp)(q:bz K CL H Z t v ft):cO K CL H Z (kvs++[(k,t)]) (gs++[(k,v)]) (fp++(ft++[])):=
 cO.ind (P:=fun kvs gs fp=>cO K CL H Z (kvs++[(k,t)]) (gs++[(k,v)]) (fp++(ft++[]))) (by rw[atN,atN,atN];exact .cons q .nil) (fun r _ i=>by
   rw[ar7];exact .cons r i) h
theorem aR.agc{p:Addr}(S:aR K CL b H Z δ σ ts vs)(hp:H p=none):aC H (upd H p (.dT []))/\aR K CL b (upd H p (.dT [])) Z δ σ (.dct []::ts) (.ref p::vs):=by
 obtain⟨fp,gp,e,r,nd,k⟩:=S.rep;have zp:Z p=none:=S.zh.free hp;have sh:aC H (upd H p (.dT [])):=aC.upd hp;have keep:∀a∈fp++gp,a≠p:=fun a ha=>by
   have:∃o,H a=some o:=by
     rcases asf.mp ha with h|h
     . exact e.there a h
     . exact r.there a h
   obtain⟨o,q⟩:=this;exact bL q hp
 refine⟨sh,⟨⟨fp,[p]++gp,e.mono (.refl _) (fun a ha=>ak (keep a (ase _ ha))),.cons (.dct aD .nil) (r.mono (.refl _) fun a ha=>ak (keep a (by simp[ha]))),?_,fun a ha=>?_⟩,S.bh.trans sh,S.zz,S.zh.trans sh,S.new,fun a o q i=>?_,S.tab⟩⟩
 . refine(atq (l₁:=fp) (l₂:=gp) (a:=p)).nodup_iff.mpr (as6.mpr ⟨fun h=>keep p h rfl,nd⟩)
 . rcases asb.mp ((atq (l₁:=fp) (l₂:=gp) (a:=p)).mem_iff.mp ha) with h|h
   . subst h;exact⟨zp,S.bh.free hp⟩
   . exact k a h
 . by_cases ha:a=p
   . subst ha;rw[aD]at q;cases q;cases i
   . rw[ak ha]at q;exact S.tp a o q i
theorem aR.Hf{ks:CO}(S:aR K CL b H Z δ σ (jD ks::ts) (v::vs)):∃a,v=.ref a/\H a=some (.tup (ks.map kV)):=by
 obtain⟨fp,gp,e,r,nd,k⟩:=S.rep;cases r with
 | cons r _=>
   cases r with
   | tup hz rr=>exact⟨_,rfl,by rw[← Sf rr];exact S.zh _ _ hz⟩
theorem aR.agd{k:CO}{kvs:CI}(S:aR K CL b H Z δ σ (t::ts) (v::vs))(hi:δ[i]? = some (some (.dct kvs)))(hk:k∉kvs.map (·.1)) :
   ∃a gs,σ[i]? = some (some (.ref a))/\H a=some (.dT gs)/\gs.length=kvs.length/\aR K CL b (upd H a (.dT (putK gs k v))) Z (δ.set i (some (.dct (kvs++[(k,t)])))) σ ts vs:=by
 obtain⟨fp,gp,e,r,nd,kk⟩:=S.rep;obtain⟨v0,f1,f2,f3,hv,oq,rt,put,_⟩:=e.get hi;subst oq;cases rt with
 | @dct a gs _ g ha rs=>
   cases r with
   | @cons _ _ _ _ ft gr q1 q2=>
     have ne:∀c∈(f1++(g++f3))++(ft++gr),c≠a:=fun c hc e=>by
       subst e;have hp:((f1++((c::g)++f3))++(ft++gr)).Perm (c::((f1++(g++f3))++(ft++gr))):=by
         rw[asO,← asO];exact(atq.append_right _)
       exact(as6.mp (hp.nodup_iff.mp nd)).1 hc
     have eg:putK gs k v=gs++[(k,v)]:=by
       unfold putK;rw[xq,ash];rcases hx:m5 gs k with _|z
       . exact asr
       . exfalso;refine hk ?_;rw[rs.keys];unfold m5 at hx;cases hf:gs.find? fun kv=>decide (kv.1=k) with
         | none=>rw[hf]at hx;cases hx
         | some q=>
           have h1:=List.find?_some hf;have h2:=auY hf;have:q.1=k:=asB h1;rw[← this];exact List.mem_map_of_mem h2
     refine⟨a,gs,hv,ha,rs.length.symm,?_⟩;rw[eg];have r1:bz K CL (upd H a (.dT (gs++[(k,v)]))) Z (.dct (kvs++[(k,t)])) (.ref a) (a::(g++(ft++[]))):=
       .dct aD (cO.snoc (rs.mono (.refl _) fun c hc=>ak (ne c (by simp[hc]))) (q1.mono (.refl _) fun c hc=>ak (ne c (by simp[hc]))))
     have e2:=put (H':=upd H a (.dT (gs++[(k,v)]))) (.refl _) (fun c hc=>ak (ne c (by
       rcases asf.mp hc with h|h
       . simp[h]
       . simp[h]))) r1
     rw[c9 hv]at e2;have hp:((f1++((a::(g++(ft++[])))++f3))++gr).Perm ((f1++((a::g)++f3))++(ft++gr)):=by
       simp only[asx,asO,ar7];refine asY f1 (List.Perm.cons a (asY g ?_));rw[← ar7,← ar7];exact asL.append_right gr
     exact S.G4 rfl kk Uf e2 (q2.mono (.refl _) fun c hc=>ak (ne c (by simp[hc]))) (hp.nodup_iff.mpr nd) fun c hc=>hp.mem_iff.mp hc
variable{d:L3.D}{ps:Pos}{kvs:List (CO×L3.D)}{k:CO}
def xA:bO X CL b (.Dict [] [] pos) δ (.dct []) δ:=fun H Z σ ts vs Q S kk=>bP Vg fun p hp=>by
 obtain⟨c,S1⟩:=S.agc hp;exact kk _ _ Z (.refl _) c S1
def Hg{kvs:CI}(k:CO)(hu:X.A.units+64<cLine)(n:Vn X i x)(h:bO X CL b e δ t δ1)(h2:bO X CL b e2 δ1 (jD k) δ1)(h1:δ1[i]? = some (some (.dct kvs)))(hk:k∉kvs.map (·.1))(hl:kvs.length<=1000000)(kk:cQ X CL b eW (δ1.set i (some (.dct (kvs++[(k,t)])))) DD)
   (hs:swapsWith e (some (.Subscript (.Name x pp) e2 ps)) pos.line X.env=pure false:=by rfl) :
   cQ X CL b (.Assign [.Subscript (.Name x pp) e2 ps] e pos::eW) δ DD:=bI fun H Z σ ts vs E S M=>
 om (Pg We (gw n.hi n.hv n.hd n.ko) cP cP hs) (h H Z σ ts vs _ S fun v H1 Z1 z1 k1 S1=>by
   obtain⟨v0,e0,_⟩:=S1.look h1;refine⟨v0,e0,h2 H1 Z1 σ _ _ _ S1 fun v2 H2 Z2 z2 k2 S2=>?_⟩;obtain⟨kb,rfl,hb⟩:=S2.Hf;obtain⟨a,gs,ea,ha,hg,S3⟩:=S2.pop.agd h1 hk;rw[e0]at ea;cases ea;exact⟨a,_,rfl,RG.t ha hb (by rw[hg];exact atZ hl (by rw[asD];decide)),M.nx _ σ _ Z2 (z1.trans z2) S3 kk⟩)
def V7(k:CO)(hu:X.A.units+64<cLine)(h1:dD X CL b e1 δ (.dct kvs) δ1)(h2:bO X CL b e2 δ1 (jD k) δ2)(hk:lB kvs k=some d)(hs:RK e2:=by exact fun _ _=>rfl):dD X CL b (.Subscript e1 e2 pos) δ d δ2:=fun H Z σ ts vs Q S kk=>
 bP (Pb We cP cP hs) (h1 H Z σ ts vs _ S fun v H1 Z1 z1 k1 S1 r1=>h2 H1 Z1 σ ts vs _ S1 fun v2 H2 Z2 z2 k2 S2=>by
   obtain⟨kb,rfl,hb⟩:=S2.Hf;cases r1 with
   | @dct a gs _ ha rr=>
     have rr':=rr.mono k2;rcases rr'.val (k:=k) with⟨h0,_⟩|⟨d',v',h0,hv,rd⟩
     . rw[hk]at h0;cases h0
     . rw[hk]at h0;cases h0;refine⟨a,v',rfl,?_,kk v' H2 Z2 (z1.trans z2) (k1.trans k2) S2.pop rd⟩;rw[← hv];exact Ma.tr (Rd.mono k2 ha) hb)
def xB(k:CO)(hu:X.A.units+64<cLine)(h1:bO X CL b e1 δ (.sh (.dct kvs)) δ1)(h2:bO X CL b e2 δ1 (jD k) δ2)(hk:lB kvs k=some d)(hs:RK e2:=by exact fun _ _=>rfl):bO X CL b (.Subscript e1 e2 pos) δ (.sh d) δ2:=fun H Z σ ts vs Q S kk=>
 bP (Pb We cP cP hs) (h1 H Z σ ts vs _ S fun v H1 Z1 z1 k1 S1=>h2 H1 Z1 σ _ _ _ S1 fun v2 H2 Z2 z2 k2 S2=>by
   obtain⟨kb,rfl,hb⟩:=S2.Hf;have r:=S2.pop.v8;cases r with
   | @dct a gs _ ha rr=>
     rcases rr.val (k:=k) with⟨h0,_⟩|⟨d',v',h0,hv,rd⟩
     . rw[hk]at h0;cases h0
     . rw[hk]at h0;cases h0;refine⟨a,v',rfl,?_,kk v' H2 Z2 (z1.trans z2) (k1.trans k2) (S2.pop.pop.push rd)⟩;rw[← hv];exact Ma.tr (Rd.mono S2.zh ha) hb)
def Sg:bootBuiltins "set" = some (.type "set"):=by decide +kernel
theorem Km:∀{ns:AT} {us:BY},Vals (ns.map V.int) us->IntsAre us ns
 | [],_,.nil=>.nil
 | _::_,_,.cons ⟨t,e⟩ r=>by subst e;exact .cons _ t (Km r)
def V8(prog:Program)(w:World)(a:Addr)(n:Nat)(h:Heap):Prop:=∃S,h.SetOf (intKind prog w) a S n
def Kn:oA X (.builtin "len") (fun xs H Q=>∃(p:Addr) (n:Nat),xs=[.ref p]/\H p=some (.ext (V8 X.prog X.w p n))/\n<=1000/\Q (.int n) H):=by
 intro pins s σ H xs us Q I r h;obtain⟨p,n,rfl,hp,hn,q⟩:=h;obtain⟨u,rfl,ru⟩:=vals1 r;cases ru;obtain⟨⟨S,o,es,ep,t,e,ex,ed,_,_,_,hf,en⟩,_,_⟩:=I.cW p _ hp;exact call_len_set e ex ed hf (by rw[en];omega) ⟨.int n,H,I.tok _,⟨s.toks+1,by rw[en]⟩,q⟩
theorem Ct{H Z:Hp}:∀{tl:Bn} {us:BN} {g:BM},aJ K CL H Z (tl++[t]) us g->∃Mz u g1 g2,us=Mz++[u]/\g=g1++g2/\aJ K CL H Z tl Mz g1/\bz K CL H Z t u g2
 | [],_,_,.cons (v:=v) (fp:=fp) r .nil=>⟨[],v,[],fp,rfl,asx _,.nil,r⟩
 | _::_,_,_,.cons (v:=v) (fp:=fp) r rr=>by
   obtain⟨Mz,u,g1,g2,e1,e2,r1,r2⟩:=Ct rr;subst e1 e2;exact⟨v::Mz,u,fp++g1,g2,rfl,(ar7 ..).symm,.cons r r1,r2⟩
section
variable{D:dW}
def Ko:wW X (binaryOp .Add) (fun x y H Q=>∃a b ys,x=.ref a/\y=.ref b/\se X.K H a []/\se X.K H b ys/\Q (.ref b) H):=by
 intro pins s σ H x y v u Q I rx ry h;obtain⟨a,b,ys,rfl,rfl,ha,hb,q⟩:=h;cases rx;cases ry;obtain⟨its,r1,p1,_⟩:=I.tuple ha;obtain⟨vp,r2,p2,_⟩:=I.tuple hb;have e1:=r1.Bf.mpr rfl;subst e1;obtain⟨⟨cls,dd,data,sl⟩,ho,hc,n,hd⟩:=id p1;obtain⟨⟨amM,dd2,data2,ZI⟩,UA,ZJ,n2,hd2⟩:=id p2;simp only at hc hd ZJ hd2;subst hc hd ZJ hd2;exact concat_meets ⟨_,ho,rfl⟩ ⟨_,UA,rfl⟩ noFill_tuple_add seq_tuple_add PySem.F.slot_tuple_add au8 (au2 _ _)
     (tuple_addW0 a b #[] vp.toArray n n2 dd dd2 sl ZI rfl) ⟨ho,UA,.ref b,H,I,rfl,q⟩
def V9(h1:bO X CL b e1 δ (.sh (.tup ds)) δ1)(h2:bO X CL b e2 δ1 (.sh (.tup sP)) δ2)(n2:sP≠[])(hz:ds.length+sP.length<=sizeLine) :
   bO X CL b (.BinOp e1 .Add e2 pos) δ (.sh (.tup (ds++sP))) δ2:=by
 cases ds with
 | cons d ds=>exact VY h1 h2 (List.cons_ne_nil _ _) n2 hz
 | nil=>
     intro H Z σ ts vs Q S k;exact bP (Am Ko cP cP) (h1 H Z σ ts vs _ S fun v1 H1 Z1 z1 k1 S1=>h2 H1 Z1 σ _ _ _ S1 fun v2 H2 Z2 z2 k2 S2=>by
       have r2:=S2.v8;have r1:=S2.pop.v8;cases r1 with
       | tup VG Ka=>
         cases Ka;have r2':=r2;cases r2 with
         | tup hq2 Lg=>exact⟨_,_,_,rfl,rfl,aC.A4 S2.zh VG,aC.A4 S2.zh hq2,k _ _ Z2 (z1.trans z2) (k1.trans k2) (S2.pop.pop.push r2')⟩)
end
end L3
namespace L2
open PySem PySem.Spec PyProof.Rows
abbrev Hh:BY:=[.type "ValueError",.type "Exception",.type "BaseException",.type "object"]
def iu(fr:Db)(h h':Heap):Prop:=∀b∈ur fr,∀o,h.get? b=some o->∃sl,h'.get? b=some {o with slots:=sl}
def CX8(P:Program)(w:World):Rr:=fun outer H s E ev s'=>∃(e C:Addr) (a0:Value) (B:Heap) (H':Hp),ev=.ref e/\s'.os=s.os/\AllBare s'.gens/\Heap.FlyingW B outer e (.ref C) a0 s'.heap/\uq P w H' B ∧
 (∀h,B.StaysIn h->iu outer s.heap h->Un (ur outer) [] H H' s.heap h)/\iu outer s.heap s'.heap/\E (.ref C) none H'
def XE(X:Cx)(W:XK):Value->Shared->Prop:=fun ev s'=>∃(e C:Addr) (pins:BA) (σ:St) (H:Hp) (s:Shared),ev=.ref e/\Inv X pins σ H s/\W (.ref C) none H/\s'.os=s.os/\AllBare s'.gens ∧
 (Heap.MadeExcOf s.heap s'.heap e (.ref C) []\/∃a0,Heap.HeldW (hideAll s.heap (ur X.stack)) X.stack e (.ref C) a0 X.env.locals s'.heap/\iu X.stack s.heap s'.heap)
section
variable{X:Cx}{pins:BA}{σ:St}{H:Hp}{s:Shared}
theorem iu.up{fr:Db}{h h1 h2 base:Heap}(a:iu fr h h1)(f:h1.FunFrames base fr)(u:h1.UpToSlots h2):iu fr h h2:=fun b hb o ho=>by
 obtain⟨sl,e⟩:=a b hb o ho;obtain⟨_,o',OQ,hd⟩:=f.mem hb;rw[e]at OQ;cases OQ;obtain⟨ZI,e2⟩:=u b _ e hd;exact⟨ZI,e2⟩
theorem Inv.Wa(I:Inv X pins σ H s):uq X.prog X.w H (hideAll s.heap (ur X.stack)):=fun a o e=>by
 refine(I.cW a o e).AX (fun b u hb q=>auU _ q fun hm=>?_) (fun b q=>q) (fun b xs q=>q);have hn:=I.Gw b hm;rcases hb with rfl|hb
 . rw[e]at hn;cases hn
 . rw[hb]at hn;cases hn
theorem Inv.Wb(I:Inv X pins σ H s):s.heap.FunFrames (hideAll s.heap (ur X.stack)) X.stack:=PySem.W.funFrames_hide I.stack fun env he a ha=>auy.mpr ⟨env,he,ha⟩
theorem Inv.Wc(I:Inv X pins σ H s)(pY:X.stack=X.env::X.outer)(JA:X.env.frame=some X.env.locals)(hex:X.ex=[])(h:Heap)(st:(hideAll s.heap (ur X.stack)).StaysIn h)(fr:iu X.outer X.s₀.heap h):Un (ur X.outer) [] X.H₀ H X.s₀.heap h:=by
 have u:=I.base;rw[hex]at u;have out:∀b o,X.s₀.heap.get? b=some o->b∉ur X.outer->b∉ur X.stack:=fun b o hb hn hm=>by
   rw[pY]at hm;unfold ur at hm;rw[ati,JA]at hm;rcases asb.mp hm with z|z
   . have h1:=asH hb;have h2:=I.ok.above;rw[← z]at h2;exact absurd h1 (Nat.not_lt.mpr h2)
   . exact hn z
 refine⟨fun b o hb hH hf hx=>?_,fun b o hb hH hf hx=>fr b hf o hb,u.free,fun b o hb hx=>?_,u.BU,u.eU,u.BV⟩
 . exact st b o (auU _ (u.keep b o hb hH hf hx) (out b o hb hf))
 . obtain⟨o',OQ⟩:=u.there b o hb hx;by_cases hf:b∈ur X.outer
   . obtain⟨sl,e⟩:=fr b hf o hb;exact⟨_,e⟩
   . exact⟨o',st b o' (auU _ OQ (out b o hb hf))⟩
theorem Inv.Kp(I:Inv X pins σ H s)(hex:X.ex=[]):iu X.outer X.s₀.heap s.heap:=fun b hb o ho=>I.base.slot b o ho (I.ok.UN b hb) hb (by rw[hex];exact aso)
def age{W:XK}{ev:Value}{s':Shared}{E':BB}(pY:X.stack=X.env::X.outer)(JA:X.env.frame=some X.env.locals)(hex:X.ex=[])(h:XE X W ev s') :
   wpAny (model X.prog X.w) X.A (leaving X.env ev) (fun _ s''=>CX8 X.prog X.w X.outer X.H₀ X.s₀ W ev s'') E' s':=by
 obtain⟨e,C,pins,σ,H,s,rfl,I,hw,ho,hg,hm⟩:=h;have hfr:X.A.frames=some (X.env::X.outer):=by rw[I.ok.frames,pY]
 have Wd:=I.Wb;have UB:s'.os=X.s₀.os:=ho.trans I.os;rw[pY]at Wd;have sub:∀b,b∈ur X.outer->b∈ur X.stack:=fun b hb=>by
   rw[pY];unfold ur at hb ⊢;rw[ati,JA];exact ar9 _ hb
 rcases hm with hm|⟨a0,hm,hs⟩
 . refine wpAny_leaves_madeW (base:=hideAll s.heap (ur X.stack)) hfr JA (fun b o q=>au0 _ q) (by rw[pY];exact Wd) hm fun h' t x1 x2 x3 x4=>?_;refine⟨e,C,.ref t,_,H,rfl,UB,hg,x1,I.Wa,I.Wc pY JA hex,?_,hw⟩;have f1:iu X.outer X.s₀.heap s'.heap:=fun b hb o hq=>by
     obtain⟨sl,q⟩:=I.Kp hex b hb o hq;exact⟨sl,hm.keeps _ _ q⟩
   have f2:s'.heap.FunFrames X.base X.outer:=(show s.heap.FunFrames X.base X.outer from I.vo).of_keeps fun b o hb _=>⟨o,hm.keeps b o hb,rfl⟩;exact f1.up f2 x4
 . rw[pY]at hm;unfold leaving;refine ar0 (wpAny_noteFrame_againW JA hm.2.2.2 ?_);refine wpAny_landsW hm fun h' hfl hu=>?_;obtain⟨k1,k2,⟨_,_,k3⟩,k4⟩:=hfl;refine⟨e,C,a0,_,H,rfl,UB,hg,⟨k1,k2,k3,k4⟩,?_,?_,?_,hw⟩
   . rw[← pY];exact I.Wa
   . intro h st fr;rw[← pY]at st;exact I.Wc pY JA hex h st fr
   . have f1:iu X.outer X.s₀.heap s'.heap:=fun b hb o hq=>by
       obtain⟨sl,q⟩:=I.Kp hex b hb o hq;obtain⟨ZI,q2⟩:=hs b (sub b hb) _ q;exact⟨ZI,q2⟩
     obtain⟨_,_,f2⟩:=hm.2.2.1;exact f1.up f2 hu
def Wf{M:Model}{A:Around}{E:BB}{base:Heap}{l:Db}{env:Env}{e L:Addr}{cls a0 fl:Value}{Q:Unit->Shared->Prop}(hf:env.frame=some L)
   (hkb:base.StaysIn s.heap) (hen:base.get? e=none) (hl:s.heap.FunFrames base l) (ht:s.heap.TracedAtW base e cls a0 fl)
   (h:∀h',Heap.HeldW base l e cls a0 L h'->s.heap.UpToSlots h'->Q () {s with heap:=h'}) :
   wpAny M A (do
     if (← field (.ref e) 1) == .none then unsupported "frame.own-activation:exception-without-traceback"
     setFlight (.ref e) env.frame) Q E s:=by
 obtain⟨oe,vs,T,oT,ts,he,aeP,hd,h1,hnT,hTe,hT,hdT,h3⟩:=ht;have ajW:3<ts.size:=(aur.mp h3).1;have aaZ:∀b,b≠T->(s.heap.update T (Obj.mapFields (·.setIfInBounds 3 (rawInt L)))).get? b=s.heap.get? b:=fun b hb=>auE _ _ (auj hb);have Wg:∀b o,s.heap.get? b=some o->(∀vs,o.data ≠ .fields vs)->b≠T:=fun b o hb hnv q=>by
   rw[q,hT]at hb;injection hb with hb;subst hb;exact hnv ts hdT
 refine ar0 (atv he hd h1 ?_);rw[ash (show ¬ ((Value.ref T==Value.none)=true) from by simp)];unfold setFlight;refine ar0 (atv he hd h1 ?_);rw[ass (show(Value.ref T != Value.none)=true from by simp),hf];refine aus hT hdT ajW (h _ ⟨fun b o hbo=>(aaZ b fun q=>by rw[q,hnT]at hbo;cases hbo).trans (hkb b o hbo),hen,hl.of_keeps fun b o hb hnv=>⟨o,(aaZ b (Wg b o hb hnv)).trans hb,rfl⟩,?_⟩ fun b o hb hnv=>⟨o.slots,(aaZ b (Wg b o hb hnv)).trans hb⟩);exact⟨oe,vs,T,_,_,(aaZ e (auj hTe)).trans he,aeP,hd,h1,hnT,hTe,atX _ hT (auK (atE hdT _)),atE hdT _,by simp[ajW]⟩
def aa0{W:XK}(pY:X.stack=X.env::X.outer)(JA:X.env.frame=some X.env.locals):PassesOwn (model X.prog X.w) X.A X.env (XE X W):=fun ev s' h=>by
 obtain⟨e,C,pins,σ,H,s,rfl,I,hw,ho,hg,hm⟩:=h;have hfr:X.A.frames=some (X.env::X.outer):=by rw[I.ok.frames,pY]
 have Wd:=I.Wb;rw[pY]at Wd;have back:∀{a0:Value} {s2:Shared},s2.os=s'.os->s2.gens=s'.gens->Heap.HeldW (hideAll s.heap (ur X.stack)) X.stack e (.ref C) a0 X.env.locals s2.heap->iu X.stack s.heap s2.heap->cameBackBy (model X.prog X.w) X.A X.env (XE X W) (.ref e) s2:=fun {a0 s2} o2 g2 hh fs=>by
   obtain⟨k1,k2,k3,k4⟩:=hh;refine Wf JA k1 k2 k3 k4 fun h' hh' hu=>?_;exact⟨e,C,pins,σ,H,s,rfl,I,hw,o2.trans ho,by show AllBare s2.gens;rw[g2];exact hg,.inr ⟨a0,hh',fs.up k3 hu⟩⟩
 rcases hm with hm|⟨a0,hm,hs⟩
 . obtain⟨t,he,htn,ht⟩:=hm.there;have fresh:∀b,s.heap.get? b=none->(hideAll s.heap (ur X.stack)).get? b=none:=fun b hb=>by
     cases hq:(hideAll s.heap (ur X.stack)).get? b with
     | none=>rfl
     | some o'=>have:=au0 _ hq;rw[hb]at this;cases this
   have hf2:s'.heap.FunFrames (hideAll s.heap (ur X.stack)) (X.env::X.outer):=by
     rw[pY];exact Wd.of_keeps fun b o hb _=>⟨o,hm.keeps b o hb,rfl⟩
   unfold notedBy noteFrame;simp only[JA];refine ar0 (atv (x:=.none) he rfl rfl ?_);rw[ash Wp];refine wpAny_entryW (base:=hideAll s.heap (ur X.stack)) hfr hf2 JA he (fun b o hb=>hm.keeps b o (au0 _ hb)) (fresh e hm.new) rfl (show 1<6 by decide) rfl fun h' hN=>?_;obtain⟨k1,k2,k3,k4⟩:=hN;rw[← pY]at k2;refine back rfl rfl ⟨k1,fresh e hm.new,k2,k3⟩ ?_;have f1:iu X.stack s.heap s'.heap:=fun b hb o hq=>⟨o.slots,hm.keeps _ _ hq⟩;rw[← pY]at hf2;exact f1.up hf2 k4
 . unfold notedBy;exact wpAny_noteFrame_againW JA hm.2.2.2 (back rfl rfl hm hs)
structure Cu(K:Frag)(C:Addr):Prop where
 ex:∃nm q N bs bm hdct sn sub ab col dd k0 k1 k2 k3 k5,K.lookup C=some (excClassObj nm q C N bs bm hdct sn sub ab col dd k0 k1 k2 k3 k5 "ValueError.__new__")/\nsOkIn K N=true/\nsIn K N "__init__" = some none/\tailIn K Hh bm=true
def Sh{W:XK}{x:Str}{C:Addr}{np lW pos:Pos}{D:Ends}(ajY:X.calm=true)(hg:Gl X x)(hm:X.mg x=some (.ref C))(O:Cu X.K C)(hw:W (.ref C) none H)(hd:AD x:=by decide) :
   L3.RM (X.wish (XE X W)) (.Raise (some (.Call (.Name x np) [] [] lW)) none pos) D σ H:=fun pins s I=>by
 have J:Inv X pins σ H s:=I.lI;obtain⟨nm,q,N,bs,bm,hdct,sn,sub,ab,col,dd,k0,k1,k2,k3,k5,o1,o2,o3,o4⟩:=O.ex;have tl:=PySem.W.tail_of_in J.AY o4;refine wpAny_Raise_call_subT (C:=C) (nm:=nm) (q:=q) (N:=N) (bs:=bs) (bm:=bm) (bmB:=Hh) (k0:=k0) (k1:=k1) (k2:=k2) (k3:=k3) (k5:=k5) (dd:=dd) (col:=col) (ab:=ab) (sub:=sub) (sn:=sn) (hdct:=hdct) PySem.F.excBase_ValueError (mN:=s.heap.nsMap N) (tl.hasType (b:=true) PySem.F.excBase_ValueError.hasBase) (J.ok.hd ajY) rfl (PySem.W.nsMap_none_of_in J.AY o2 o3) (uv I hg hm ⟨rfl,?_⟩ hd);exact evalArgs_empty ⟨rfl,asU _,J.AY _ _ o1,.of_isNs (PySem.W.isNs_of_in J.AY o2),tl,fun h' e hx=>⟨e,C,pins,σ,H,s,rfl,J,hw,rfl,J.bare,.inl hx⟩⟩
structure Lies(X:Cx)(pins:BA)(σ:St)(H:Hp)(s:Shared)(H':Hp)(e C:Addr)(a0:Value)(B:Heap)(s':Shared):Prop where
 inv:Inv X pins σ H s
 os:s'.os=s.os
 bare:AllBare s'.gens
 fly:Heap.FlyingW B X.stack e (.ref C) a0 s'.heap
 cW:uq X.prog X.w H' B
 un:∀h,B.StaysIn h->iu X.stack s.heap h->Un (ur X.stack) [] H H' s.heap h
 fr:iu X.stack s.heap s'.heap
variable{H':Hp}{e C:Addr}{a0:Value}{B:Heap}{s':Shared}
theorem Lies.now(L:Lies X pins σ H s H' e C a0 B s'):Inv X pins σ H' s':=L.inv.aiO L.os (L.un s'.heap L.fly.1 L.fr) (L.cW.kept L.fly.1) L.bare fun b z=>absurd z aso
theorem Lies.move(L:Lies X pins σ H s H' e C a0 B s'){h':Heap}{t':Nat}(hf:Heap.FlyingW B X.stack e (.ref C) a0 h')(u:s'.heap.UpToSlots h'):Lies X pins σ H s H' e C a0 B {s' with heap:=h',toks:=t'}:=
 ⟨L.inv,L.os,L.bare,hf,L.cW,L.un,L.fr.up L.fly.2.2.1 u⟩
abbrev Cx.hand(X:Cx)(e:Addr):Cx:={X with A:=X.A.mark (some (.ref e)),calm:=false}
theorem Inv.hand(I:Inv X pins σ H s)(e:Addr):Inv (X.hand e) pins σ H s:=
 ⟨⟨I.ok.mod,I.ok.kind,I.ok.glob,I.ok.blt,I.ok.above,I.ok.inj,I.ok.has,I.ok.cab,(fun h=>by cases h),I.ok.frames,I.ok.stk,I.ok.exf,I.ok.bs,I.ok.Ux,I.ok.Lx,I.ok.Rh,I.ok.vo,I.ok.UN⟩,I.os,I.bare,I.base,I.loc,I.cell,I.free,I.lR,I.pin,I.cW,I.len⟩
theorem Inv.Hi(ok:X.Ok)(I:Inv (X.hand e) pins σ H s):Inv X pins σ H s:=⟨ok,I.os,I.bare,I.base,I.loc,I.cell,I.free,I.lR,I.pin,I.cW,I.len⟩
abbrev _root_.EM:=List ExceptHandler
def anC{Q:Flow->Shared->Prop}{E:BB}{hs:EM}(pY:X.stack=X.env::X.outer)(JA:X.env.frame=some X.env.locals)(L:Lies X pins σ H s H' e C a0 B s')
   (k:∀s3,Lies X pins σ H s H' e C a0 B s3->wpAny (model X.prog X.w) X.A (handleBy (.ref e) X.env hs) Q E s3) :
   wpAny (model X.prog X.w) X.A (noteFrame (.ref e) X.env) (fun _ s₂=>wpAny (model X.prog X.w) X.A (setFlight (.ref e) none) (fun _ s₃=>wpAny (model X.prog X.w) X.A (handleBy (.ref e) X.env hs) Q E s₃) E s₂) E s':=by
 have hfr:X.A.frames=some (X.env::X.outer):=by rw[L.inv.ok.frames,pY]
 have hfl:=L.fly;rw[pY]at hfl;refine wpAny_looks_onW hfr JA hfl fun h4 hh4 u4=>wpAny_landsW hh4 fun h5 hf5 u5=>k _ ?_;rw[← pY]at hf5;exact L.move hf5 (u4.trans u5)
def ad7{Q:Flow->Shared->Prop}{E:BB}{x:Str}{Dd:Addr}{np pos:Pos}{b₀:Stmt}{suite:CU}{rest:EM}{m:Bool}(L:Lies X pins σ H s H' e C a0 B s')(hg:Gl X x)(hm:X.mg x=some (.ref Dd))
   (hx:exmOne X.K (.ref C) (.ref Dd)=some m)
   (k:if m then ∀s4,Lies X pins σ H s H' e C a0 B s4->wpAny (model X.prog X.w) (X.hand e).A (execs (b₀::suite) X.env) Q (fun _ _=>False) s4 else ∀s4,Lies X pins σ H s H' e C a0 B s4->wpAny (model X.prog X.w) X.A (handleBy (.ref e) X.env rest) Q E s4)
   (hd:AD x:=by decide) :
   wpAny (model X.prog X.w) X.A (handleBy (.ref e) X.env (.ExceptHandler (some (.Name x np)) none (b₀::suite) pos::rest)) Q E s':=by
 have I:=L.now;obtain⟨ob,hob,hoc⟩:=L.fly.there;have LT:PySem.W.Looks (model X.prog X.w) s'.heap (typeOf (.ref e)) (.ref C):=by
   rw[← hoc];exact(PySem.W.Looks.ld hob).andThen .now
 refine wpAny_handleBy_cons (codeAny_handlers_test (uv (X:=X.hand e) (I.hand e) hg hm ?_ hd)) (fun q=>by cases q);refine(PySem.W.exm_one I.AY LT hx).here ?_;cases m with
 | false=>exact k s' L
 | true=>
   refine codeAny_handlers_suite (lands_againW L.fly fun h6 hf6 u6=>?_);exact atc (k _ (L.move hf6 u6)) (fun _ _ z=>z) fun _ _ z=>z.elim
end
variable{X:Cx}
abbrev Cx.pinned(X:Cx)(p:BA):Cx:={X with pn:=X.pn++p}
theorem Cx.Ok.pinned(ok:X.Ok)(p:BA):(X.pinned p).Ok:=⟨ok.mod,ok.kind,ok.glob,ok.blt,ok.above,ok.inj,ok.has,ok.cab,ok.hd,ok.frames,ok.stk,ok.exf,ok.bs,ok.Ux,ok.Lx,ok.Rh,ok.vo,ok.UN⟩
variable{s:Shared}
theorem Inv.aj0{pins:BA}{σ:St}{H:Hp}(I:Inv X pins σ H s):Inv (X.pinned pins) [] σ H s:=
 ⟨I.ok.pinned pins,I.os,I.bare,I.base,I.loc,I.cell,I.free,I.lR,(fun p hp=>I.pin p (by rw[asx]at hp;exact hp)),I.cW,I.len⟩
theorem Inv.agf{pins p2:BA}{σ:St}{H:Hp}(ok:X.Ok)(I:Inv (X.pinned pins) p2 σ H s):Inv X pins σ H s:=
 ⟨ok,I.os,I.bare,I.base,I.loc,I.cell,I.free,I.lR,(fun p hp=>I.pin p (ase _ hp)),I.cW,I.len⟩
end L2
namespace L3
open PySem PySem.Spec PyProof.Rows L2
def Bo(b:Bx)(E:XK)(C:Addr):Prop:=∀H' Z':Hp,aC b.B H'->aC b.Z Z'->aC Z' H'->(∀a o,Z' a=some o->b.Z a=none->b.B a=none)->(∀a o,H' a=some o->ku o=true->Z' a=some o)->E (.ref C) none H'
def spR(K:Frag)(CL:BC){A:Type}(n:Nat)(arg:A->At)(Pre:A->Prop)(exc:A->Str):Sp:=fun vs H _ E=>
 ∃(W:Hp) (a:A),aC W H/\(∀c o,H c=some o->ku o=true->W c=some o)/\aB K CL W (arg a) vs/\(arg a).length=n/\Pre a/\oX CL W/\Bo ⟨H,W⟩ E (CL (exc a))
section
variable{X:Cx}{CL:BC}{b:Bx}{δ δ1 δ2:AR}{e:Expr}{eW:CU}{D:dW}{x c:Str}{i:Nat}{pos:Pos}{W:XK}
def aa1{np lW:Pos}(hc:X.calm=true)(hg:Gl X c)(hm:X.mg c=some (.ref (CL c)))(O:Cu X.K (CL c))(hE:Bo b W (CL c))(hd:AD c:=by decide) :
   cQ (X.wish (XE X W)) CL b (.Raise (some (.Call (.Name c np) [] [] lW)) none pos::eW) δ D:=bI fun H Z σ ts vs E S M=>
 Sh hc hg hm O (hE H Z S.bh S.zz S.zh S.new S.tp) hd
def agg{P:Program}{w:World}{K:Frag}{mg:Bz}{base:Heap}{qual:Str}{st:Stmt}{f:Addr}{fd:FuncData}{N ps:Ap}{k:Nat}{A:Type}{arg:A->At}{Pre:A->Prop}{exc:A->Str}(F:kr K x qual st f fd)(S:d7 N ps (av st))
   (hb:∀(jc:Value) (Ar:Around) (outer:Db) (s:Shared) (H:Hp) (E:XK) (b:Bx) (a:A),dU k (Ar.deeper (envOfC qual (av st) s.heap.objs.size f jc))->Pre a->Bo b E (CL (exc a)) →
     cQ ((yS (CX8 P w) P w K mg base N qual (av st) f jc Ar outer s H E).wish (XE (yS (CX8 P w) P w K mg base N qual (av st) f jc Ar outer s H E) E)) CL b (dF st) (entry N (arg a)) {nx:=fun _=>False,rt:=fun _ _=>False}) :
   dP P w K mg base (CX8 P w) (k+1) f fd ps (spR K CL ps.length arg Pre exc):=by
 obtain⟨oc,od,kV,doc,pm,an,jc,ct,Uz,rfl,lk,ko⟩:=F.ex;refine adO lk ko S (fun vs H Q E h=>?_) fun Ar outer s H vs Q E hr h=>?_
 . obtain⟨W,a,_,_,r,hl,_⟩:=h;rw[← r.length];exact hl
 . obtain⟨W,a,wh,tp,r,hl,hp,tb,hE⟩:=h;have h0:eV K CL H W (entry N (arg a)) (start N vs) []:=by
     unfold entry L2.start;rw[← r.length];exact kE _ r
   have h1:∀c o,W c=some o->W c=none->H c=none:=fun c o q z=>by rw[q]at z;cases z
   have body:=hb jc Ar outer s H E ⟨H,W⟩ a hr hp hE H W (start N vs) [] [] {nx:=fun _ _=>False,rt:=fun _ _=>False} ⟨⟨[],[],h0,.nil,atA,fun c hc=>by cases hc⟩,.refl _,.refl _,wh,h1,tp,tb⟩ ⟨fun _ _ _ _ _ _ z=>z.elim,fun _ _ _ _ _ _ _ _ z=>z.elim,fun _ _ _ _ _ _ z=>z.elim,fun _ _ _ _ _ _ z=>z.elim⟩;refine⟨Vi _ (dF st),Mb,fun pins s1 I=>?_⟩;refine atc (body pins s1 (I.wish _)) (fun fl s' z=>?_) fun ev s' z=>age rfl rfl rfl z;cases fl with
   | next=>obtain⟨_,_,_,q⟩:=z;exact q.elim
   | brk=>obtain⟨_,_,_,q⟩:=z;exact q.elim
   | cont=>obtain⟨_,_,_,q⟩:=z;exact q.elim
   | ret u=>obtain⟨_,_,_,_,_,q⟩:=z;exact q.elim
def Hj(X:Cx)(CL:BC)(b:Bx)(Z:Hp)(δ1:AR)(ts:Bn)(vs:BN)(C:Addr)(ev:Value)(s':Shared):Prop:=
 ∃(e:Addr) (a0:Value) (B:Heap) (pins:BA) (σ:L2.St) (H:Hp) (s:Shared) (H' Z':Hp),ev=.ref e/\Lies X pins σ H s H' e C a0 B s'/\aC Z Z'/\aR X.K CL b H' Z' δ1 σ ts vs
def TRv(X:Cx)(CL:BC)(b:Bx)(e:Expr)(δ:AR)(c:Str)(δ1:AR):Prop:=
 ∀(H Z:Hp) (σ:L2.St) (ts:Bn) (vs:BN),aR X.K CL b H Z δ σ ts vs->A5 (X.wish (Hj X CL b Z δ1 ts vs (CL c))) e σ H fun _ _=>False
def TRs(X:Cx)(CL:BC)(b:Bx)(st:CU)(δ:AR)(c:Str)(δ1:AR):Prop:=
 ∀(H Z:Hp) (σ:L2.St) (ts:Bn) (vs:BN) (D:Ends),aR X.K CL b H Z δ σ ts vs->Vi (X.wish (Hj X CL b Z δ1 ts vs (CL c))) st D σ H
theorem aR.grown{K:Frag}{H H' Z W W':Hp}{σ:L2.St}{ts:Bn}{vs:BN}(S:aR K CL b H Z δ σ ts vs)(hh:aC H H')(zw:aC Z W)(ww:aC W W')(wh:aC W' H')(new:∀a o,W' a=some o->W a=none->H a=none)
   (tp:∀a o,H' a=some o->ku o=true->W' a=some o):∃Z',aC Z Z'/\aR K CL b H' Z' δ σ ts vs:=by
 obtain⟨Z',z,S'⟩:=S.back (t:=.sh .non) (v:=.non) (fp:=[]) hh zw ww wh new tp (.sh .non) atA (fun a ha=>by cases ha) (.inr rfl);exact⟨Z',z,S'.pop⟩
theorem TRv.any{H Z:Hp}{σ:L2.St}{ts:Bn}{vs:BN}{Q:VK}(h:TRv X CL b e δ c δ1)(S:aR X.K CL b H Z δ σ ts vs):A5 (X.wish (Hj X CL b Z δ1 ts vs (CL c))) e σ H Q:=fun pins s I=>
 atc (h H Z σ ts vs S pins s I) (fun _ _ ⟨_,_,_,_,q⟩=>q.elim) fun _ _ z=>z
def aj1{pos':Pos}(nd:X.N.Nodup)(n:Ln X i x)(h:TRv X CL b e δ c δ1)(hs:swapsWith e (some (.Name x pos')) pos.line X.env=pure false:=by rfl):TRs X CL b (.Assign [.Name x pos'] e pos::eW) δ c δ1:=fun H Z σ ts vs D S=>
 afC (JN psS Mb) (om (Lz (X:=X.wish (Hj X CL b Z δ1 ts vs (CL c))) nd n.hi n.loc cP hs n.hf) (h.any S))
theorem Vn.pin{p:BA}(h:Vn X i x):Vn (X.pinned p) i x:=⟨h.hi,h.hv,h.hd,h.ko⟩
inductive Si(X:Cx)(CL:BC)(c:Str):EM->CU->Prop
 | hit {x:Str} {Dd:Addr} {np pos:Pos} {b₀:Stmt} {suite:CU} {rest:EM}:Gl X x->X.mg x=some (.ref Dd)->exmOne X.K (.ref (CL c)) (.ref Dd)=some true->(x==("__debug__":Str))=false->Si X CL c (.ExceptHandler (some (.Name x np)) none (b₀::suite) pos::rest) (b₀::suite)
 | miss {x:Str} {Dd:Addr} {np pos:Pos} {b₀:Stmt} {suite st:CU} {rest:EM}:Gl X x->X.mg x=some (.ref Dd)->exmOne X.K (.ref (CL c)) (.ref Dd)=some false->(x==("__debug__":Str))=false->Si X CL c rest st->Si X CL c (.ExceptHandler (some (.Name x np)) none (b₀::suite) pos::rest) st
theorem Si.run{Q:Flow->Shared->Prop}{E:BB}{hs:EM}{st:CU}{pins p:BA}{σ:L2.St}{H H':Hp}{s s':Shared}{e:Addr}{a0:Value}{B:Heap}(h:Si X CL c hs st)(L:Lies (X.pinned p) pins σ H s H' e (CL c) a0 B s')
   (k:∀s4,Lies (X.pinned p) pins σ H s H' e (CL c) a0 B s4->wpAny (model X.prog X.w) (X.hand e).A (execs st X.env) Q (fun _ _=>False) s4):wpAny (model X.prog X.w) X.A (handleBy (.ref e) X.env hs) Q E s':=by
 induction h generalizing s' with
 | hit h1 h2 h3 h4=>exact ad7 (X:=X.pinned p) (m:=true) L h1 h2 h3 k h4
 | miss h1 h2 h3 h4 _ ih=>exact ad7 (X:=X.pinned p) (m:=false) L h1 h2 h3 (fun s4 L4=>ih L4 k) h4
theorem agh{body:CU}{h0:ExceptHandler}{hs:EM}{st:CU}(pY:X.stack=X.env::X.outer)(JA:X.env.frame=some X.env.locals)(hxf:X.xe=fun _ _=>False)(r:∀p,TRs (X.pinned p) CL b body δ c δ1)(hh:Si X CL c (h0::hs) st)
   (k:∀e,cQ (X.hand e) CL b st δ1 {D with nx:=fun δ2=>cQ X CL b eW δ2 D}):cQ X CL b (.Try body (h0::hs) [] [] pos::eW) δ D:=bI fun H Z σ ts vs E S M pins s I=>by
 refine wpAny_Try_except (atc (r pins H Z σ ts vs {nx:=fun _ _=>False,rt:=fun _ _=>False} S [] s (I.aj0.wish _)) (fun f s1 z=>?_) fun ev s1 z=>?_)
 . cases f with
   | next=>obtain⟨_,_,_,q⟩:=z;exact q.elim
   | brk=>obtain⟨_,_,_,q⟩:=z;exact q.elim
   | cont=>obtain⟨_,_,_,q⟩:=z;exact q.elim
   | ret u=>obtain⟨_,_,_,_,_,q⟩:=z;exact q.elim
 . obtain⟨e,a0,B,JK,σ',H1,s0,H',Z',rfl,L,z',S'⟩:=z;refine anC (X:=X.pinned pins) pY JA L fun s3 L3=>hh.run L3 fun s4 L4=>?_;have J:=(L4.now.agf I.ok).hand e;refine atc (k e H' Z' σ' ts vs E S' (M.mono z') pins s4 J) (fun f s5 z=>?_) fun _ _ z=>by rw[show(X.hand e).xe=X.xe from rfl,hxf]at z;exact z
   cases f with
   | next=>obtain⟨σ5,H5,I5,q⟩:=z;exact⟨σ5,H5,I5.Hi I.ok,q⟩
   | brk=>obtain⟨σ5,H5,I5,q⟩:=z;exact⟨σ5,H5,I5.Hi I.ok,q⟩
   | cont=>obtain⟨σ5,H5,I5,q⟩:=z;exact⟨σ5,H5,I5.Hi I.ok,q⟩
   | ret u=>obtain⟨v,σ5,H5,I5,rv,q⟩:=z;exact⟨v,σ5,H5,I5.Hi I.ok,rv,q⟩
theorem agi{body:CU}{h0:ExceptHandler}{hs:EM}(hxf:X.xe=fun _ _=>False)(h:cQ X CL b body δ {D with nx:=fun δ2=>cQ X CL b eW δ2 D}):cQ X CL b (.Try body (h0::hs) [] [] pos::eW) δ D:=bI fun H Z σ ts vs E S M pins s I=>by
 refine wpAny_Try_except (atc (h H Z σ ts vs E S M pins s I) (fun f s1 z=>?_) fun ev s1 z=>by rw[hxf]at z;exact z.elim);cases f with
 | next=>exact wpAny_execs_nil z
 | brk=>exact z
 | cont=>exact z
 | ret u=>exact z
end
section
variable{X:Cx}{CL:BC}{b:Bx}{δ δ1 δ2:AR}{e e1 e2:Expr}{eW:CU}{D:dW}{x:Str}{i:Nat}{pos:Pos}
theorem Ln.hand{a:Addr}(h:Ln X i x):Ln (X.hand a) i x:=⟨⟨h.hi,h.hv,h.hd,h.ko⟩,h.loc,h.hf⟩
def agj{t:T}{pos':Pos}(nd:X.N.Nodup)(n:Ln X i x)(h:bO X CL b e δ t δ1)(k:cQ X CL b eW (δ1.set i (some t)) D)(hl:i<δ1.length:=by exact ar8 rfl)(hs:swapsWith e (some (.Name x pos')) pos.line X.env=pure false:=by rfl) :
   cQ X CL b (.Assign [.Name x pos'] e pos::eW) δ D:=bI (Mi i h k hl nd n.hi n.loc hs n.hf)
def qi{ds sP:At}(h1:bO X CL b e1 δ (.sh (.tup ds)) δ1)(h2:bO X CL b e2 δ1 (.sh (.tup sP)) δ2)(hz:ds.length+sP.length<=sizeLine) :
   bO X CL b (.BinOp e1 .Add e2 pos) δ (.sh (.tup (ds++sP))) δ2:=by
 cases sP with
 | cons d sP=>exact V9 h1 h2 (List.cons_ne_nil _ _) hz
 | nil=>
   rw[asx];cases ds with
   | cons d ds=>
     intro H Z σ ts vs Q S k;exact bP (Am O6 cP cP) (h1 H Z σ ts vs _ S fun v1 H1 Z1 z1 k1 S1=>h2 H1 Z1 σ _ _ _ S1 fun v2 H2 Z2 z2 k2 S2=>by
       have r2:=S2.v8;have r1:=S2.pop.v8;have Vs:=r1;cases r2 with
       | tup hq2 Lg=>
         cases Lg;cases r1 with
         | tup VG Ka=>
           have e1:=Ka.length;refine⟨_,_,_,_,rfl,rfl,aC.A4 S2.zh VG,aC.A4 S2.zh hq2,(fun z=>by rw[z]at e1;cases e1),by rw[← e1];exact hz,fun _=>k _ _ Z2 (z1.trans z2) (k1.trans k2) (S2.pop.pop.push Vs),fun z=>absurd rfl z⟩)
   | nil=>
     intro H Z σ ts vs Q S k;exact bP (Am Ko cP cP) (h1 H Z σ ts vs _ S fun v1 H1 Z1 z1 k1 S1=>h2 H1 Z1 σ _ _ _ S1 fun v2 H2 Z2 z2 k2 S2=>by
       have r2:=S2.v8;have r1:=S2.pop.v8;cases r1 with
       | tup VG Ka=>
         cases Ka;have r2':=r2;cases r2 with
         | tup hq2 Lg=>exact⟨_,_,_,rfl,rfl,aC.A4 S2.zh VG,aC.A4 S2.zh hq2,k _ _ Z2 (z1.trans z2) (k1.trans k2) (S2.pop.pop.push r2')⟩)
end
def Wh(l q:Addr)(xs ys:D2)(n m:Nat)(dq:ET)(sq:EQ)(hc:¬(!xs.isEmpty&&Builtin.List.listTooLong (xs.size+ys.size))=true)(hx:xs.size<=sizeLine)(hy:xs.size+ys.size<=sizeLine+1) :
   PySem.Meets (Builtin.«list.extend» ⟨[.ref l,.ref q],[]⟩) (fun _ R s=>s.heap.get? l=some {cls:=.type "list",dict:=none,data:=.seq xs n,slots:=#[]}/\s.heap.get? q=some {cls:=.type "list",dict:=dq,data:=.seq ys m,slots:=sq} ∧
     R (.ok (.ret Value.none)) {s with heap:=s.heap.update l (Obj.mapSeq fun x=>x++ys),toks:=s.toks}):=
 PySem.Meets.of_wp fun prog w A R s h=>by
   obtain⟨hp,g,d,tk,os⟩:=s;obtain⟨hl,hb,h⟩:=h;have f1:=AutoSeq1.idx_int;have f2:=AutoSeq1.sub_tuple_tuple;have f3:=AutoSeq1.sub_list_list;have f4:=AutoSeq1.sub_tuple_list;have f5:=AutoSeq1.sub_list_tuple;have hz:(xs++ys).size<=sizeLine+1:=by
     rw[Array.size_append];exact hy
   wp_walk using (wpAny_updateSeq hl rfl (hz:=hx) (_hz':=hz)),wpAny_loadPart' hl,wpAny_loadPart' hb
   exact⟨_,rfl,h⟩
def aj2(K:Frag):V->BN->Hp->VK->Prop:=fun x vs H Q=>∃l q xs zs,x=.ref l/\vs=[.ref q]/\H l=some (.lst xs)/\ou K H q zs/\xs.length+zs.length<=sizeLine/\Q .non (upd H l (.lst (xs++zs)))
variable{X:Cx}
def aa2:MtM X "list.extend" (aj2 X.K):=by
 intro pins s σ H x vs v us Q I rx rv h;obtain⟨l,q,xs,zs,rfl,rfl,hH,hB,hz,k⟩:=h;cases rx;obtain⟨u,rfl,ru⟩:=rv.one;cases ru;obtain⟨z,its,n,r,hl,e⟩:=I.Ru hH;obtain⟨vp,r2,⟨⟨c2,d2,da2,s2⟩,n2,e2,ZJ,_,hd2⟩,z2⟩:=I.list hB;cases ZJ;cases hd2;have hl2:=r2.length;have hsz:its.toArray.size+vp.toArray.size<=sizeLine:=by
   rw[asy,asy];omega
 have JV:¬ (!its.toArray.isEmpty&&Builtin.List.listTooLong (its.toArray.size+vp.toArray.size))=true:=by
   rw[B7 hsz,Bool.and_false];decide
 refine auO F.slot_list_extend ⟨_,e,rfl⟩ F.entry_list_extend (F.args_list_extend_2 _ _) (Wh l q its.toArray vp.toArray n n2 d2 s2 JV (by rw[asy];omega) We) ⟨e,e2,?_⟩;refine⟨.non,_,I.U9 (its':=its++vp) hH e Uf (r.append r2) ?_,rfl,k⟩;rw[asa];omega
variable{i:Nat}{x:Str}
theorem Ln.pin{p:BA}(h:Ln X i x):Ln (X.pinned p) i x:=⟨⟨h.hi,h.hv,h.hd,h.ko⟩,h.loc,h.hf⟩
inductive AF where
 | ix (j:Nat)|fld (f:Str)|key (k:CO)
def Sj{α:Type}(k:CO)(t:α):List (CO×α)->List (CO×α)
 | []=>[]
 | (x,u)::r=>if x=k then(x,t)::r else(x,u)::Sj k t r
def T.core:T->T
 | .pin _ t=>t
 | t=>t
def T.Hl:T->T->T
 | .pin y _,u=>.pin y u
 | _,u=>u
def T.Lj:AF->T->DO
 | .ix j,.lst ts=>ts[j]?
 | .ix j,.tup ts=>ts[j]?
 | .fld f,.ins _ fs=>fs.lookup f
 | .key k,.dct kvs=>lB kvs k
 | _,_=>none
def T.MA:AF->T->T->T
 | .ix j,.lst ts,u=>.lst (ts.set j u)
 | .ix j,.tup ts,u=>.tup (ts.set j u)
 | .fld f,.ins c fs,u=>.ins c (jM f u fs)
 | .key k,.dct kvs,u=>.dct (Sj k u kvs)
 | _,t,_=>t
def T.lM:List AF->T->DO
 | [],t=>some t.core
 | s::p,t=>(t.core.Lj s).bind (T.lM p)
def T.ni:List AF->T->T->T
 | [],u,t=>t.Hl u
 | s::p,u,t=>match t.core.Lj s with
   | some k=>t.Hl (t.core.MA s (T.ni p u k))
   | none=>t
def At1(H:Hp)(v:V):AF->V->Prop
 | .ix j,w=>∃a us,v=.ref a/\(H a=some (.lst us)\/H a=some (.tup us))/\us[j]? = some w
 | .fld f,w=>∃a C dx gs,v=.ref a/\H a=some (.ins C dx gs)/\gs.lookup f=some w
 | .key k,w=>∃a gs,v=.ref a/\H a=some (.dT gs)/\m5 gs k=some w
def Bp(H:Hp):V->List AF->V->Prop
 | v,[],w=>v=w
 | v,s::p,w=>∃u,At1 H v s u/\Bp H u p w
variable{H H':Hp}{s:AF}
theorem At1.mono(e:aC H H'){v w:V}(h:At1 H v s w):At1 H' v s w:=by
 cases s with
 | ix j=>obtain⟨a,us,h1,h2,h3⟩:=h;exact⟨a,us,h1,h2.imp (e _ _) (e _ _),h3⟩
 | fld f=>obtain⟨a,C,dx,gs,h1,h2,h3⟩:=h;exact⟨a,C,dx,gs,h1,e _ _ h2,h3⟩
 | key k=>obtain⟨a,gs,h1,h2,h3⟩:=h;exact⟨a,gs,h1,e _ _ h2,h3⟩
theorem At1.inj{v w w':V}(h:At1 H v s w)(q:At1 H v s w'):w=w':=by
 cases s with
 | ix j=>
   obtain⟨a,us,h1,h2,h3⟩:=h;obtain⟨a',Mz,q1,q2,q3⟩:=q;subst h1;cases q1;have e:us=Mz:=by
     rcases h2 with h2|h2<;>rcases q2 with q2|q2<;>rw[h2]at q2<;>cases q2<;>rfl
   subst e;rw[h3]at q3;exact asE q3
 | fld f=>
   obtain⟨a,C,dx,gs,h1,h2,h3⟩:=h;obtain⟨a',C',dx',gs',q1,q2,q3⟩:=q;subst h1;cases q1;rw[h2]at q2;cases q2;rw[h3]at q3;exact asE q3
 | key k=>
   obtain⟨a,gs,h1,h2,h3⟩:=h;obtain⟨a',gs',q1,q2,q3⟩:=q;subst h1;cases q1;rw[h2]at q2;cases q2;rw[h3]at q3;exact asE q3
theorem Bp.mono{H H':Hp}(e:aC H H'):∀{p:List AF} {v w:V},Bp H v p w->Bp H' v p w
 | [],_,_,h=>h
 | _::_,_,_,⟨u,h,q⟩=>⟨u,h.mono e,Bp.mono e q⟩
theorem Bp.inj{H:Hp}:∀{p:List AF} {v w w':V},Bp H v p w->Bp H v p w'->w=w'
 | [],_,_,_,h,q=>h.symm.trans q
 | _::_,_,_,_,⟨_,h1,h2⟩,⟨_,q1,q2⟩=>by
   have:=h1.inj q1;subst this;exact Bp.inj h2 q2
theorem Bp.snoc{H:Hp}{s:AF}:∀{p:List AF} {v w z:V},Bp H v p w->At1 H w s z->Bp H v (p++[s]) z
 | [],_,_,z,h,q=>by
   have h':_=_:=h;subst h';exact⟨z,q,rfl⟩
 | _::_,_,_,_,⟨u,h1,h2⟩,q=>⟨u,h1,Bp.snoc h2 q⟩
variable{K:Frag}{CL:BC}{b:Bx}{Z Z':Hp}{δ:AR}{σ:L2.St}{ts tl:Bn}{vs us:BN}{t u t0:T}{v v0 w:V}{fp:BM}{p:List AF}
theorem bz.MB(h:bz K CL H Z t v fp):bz K CL H Z t.core v fp/\∀{H' Z':Hp} {u:T} {g:BM},bz K CL H' Z' u v g->bz K CL H' Z' (t.Hl u) v g:=by
 cases h with
 | pin r=>exact⟨r,fun q=>.pin q⟩
 | sh r=>exact⟨.sh r,fun q=>q⟩
 | tup r q=>exact⟨.tup r q,fun q=>q⟩
 | lst r q=>exact⟨.lst r q,fun q=>q⟩
 | ins r q=>exact⟨.ins r q,fun q=>q⟩
 | uz r q=>exact⟨.uz r q,fun q=>q⟩
 | dct r q=>exact⟨.dct r q,fun q=>q⟩
 | lz r q p=>exact⟨.lz r q p,fun q=>q⟩
theorem dH.at{f:Str}:∀(fs:B1) {gs:CA} {fp:BM},dH K CL H Z fs gs fp->fs.lookup f=some t->∃w f1 f2 f3,gs.lookup f=some w/\fp=f1++(f2++f3)/\bz K CL H Z t w f2 ∧
   ∀{H':Hp} {t':T} {g:BM},(∀a∈f1++f3,H' a=H a)->bz K CL H' Z t' w g->dH K CL H' Z (jM f t' fs) gs (f1++(g++f3)):=by
 intro fs
 induction fs with
 | nil=>intro gs fp h e;cases e
 | cons p fs ih=>
   obtain⟨x,t0⟩:=p;intro gs fp h e;cases h with
   | @cons _ _ v _ vs f0 g0 r rs=>
     rw[asR]at e;cases hx:f==x with
     | true=>
       rw[hx]at e;cases e;have hxe:x=f:=(auN.mp hx).symm;refine⟨v,[],f0,g0,by rw[asR,hx],rfl,r,fun {H' t' g} kk r'=>?_⟩;rw[jM,ass hxe];exact dH.cons (fp:=g) (gp:=g0) r' (rs.mono (.refl _) fun a ha=>kk a (by simpa using ha))
     | false=>
       rw[hx]at e;obtain⟨w,f1,f2,f3,h1,h2,h3,h4⟩:=ih rs e;subst h2;refine⟨w,f0++f1,f2,f3,by rw[asR,hx];exact h1,by rw[ar7],h3,fun {H' t' g} kk r'=>?_⟩;rw[jM,ash (fun z=>by rw[z,atV]at hx;cases hx),ar7];exact .cons (r.mono (.refl _) fun a ha=>kk a (by simp[ha])) (h4 (fun a ha=>kk a (by rw[ar7];exact ar5 _ ha)) r')
theorem cO.Lj{k:CO}{kvs:CI}{gs:BS}(h:cO K CL H Z kvs gs fp)(hk:lB kvs k=some t) :
   ∃v f1 f2 f3,m5 gs k=some v/\fp=f1++(f2++f3)/\bz K CL H Z t v f2 ∧
     ∀{H':Hp} {t':T} {g:BM},(∀a∈f1++f3,H' a=H a)->bz K CL H' Z t' v g->cO K CL H' Z (Sj k t' kvs) gs (f1++(g++f3)):=by
 refine cO.ind (P:=fun kvs gs fp=>lB kvs k=some t->∃v f1 f2 f3,m5 gs k=some v/\fp=f1++(f2++f3)/\bz K CL H Z t v f2 ∧
     ∀{H':Hp} {t':T} {g:BM},(∀a∈f1++f3,H' a=H a)->bz K CL H' Z t' v g->cO K CL H' Z (Sj k t' kvs) gs (f1++(g++f3))) (fun e=>by cases e) (fun {x t0 v0 ts vs fp gp} r rr i hk=>?_) h hk
 by_cases e:x=k
 . rw[ng (p:=(x,t0)) e]at hk;cases hk;refine⟨v0,[],fp,gp,sH e,rfl,r,fun {H' t' g} ka q=>?_⟩;rw[Sj,ass e];exact(show cO K CL H' Z ((x,t')::ts) ((x,v0)::vs) (g++gp) from .cons q (rr.mono (.refl _) fun a ha=>ka a ha))
 . rw[nh (p:=(x,t0)) e]at hk;obtain⟨v,f1,f2,f3,h1,h2,h3,h4⟩:=i hk;refine⟨v,fp++f1,f2,f3,by rw[sI (p:=(x,v0)) e];exact h1,by rw[h2,ar7],h3,fun {H' t' g} ka q=>?_⟩;rw[Sj,ash e,ar7];exact .cons (r.mono (.refl _) fun a ha=>ka a (by simp[ha])) (h4 (fun a ha=>ka a (by rw[ar7];exact ar5 _ ha)) q)
theorem bz.Lj{k:T}(zh:aC Z H)(h:bz K CL H Z t v fp)(hk:t.Lj s=some k):∃w f1 f2 f3,At1 H v s w/\fp=f1++(f2++f3)/\bz K CL H Z k w f2 ∧
   ∀{H':Hp} {k':T} {g:BM},(∀c∈f1++f3,H' c=H c)->bz K CL H' Z k' w g->bz K CL H' Z (t.MA s k') v (f1++(g++f3)):=by
 cases s with
 | ix j=>
   cases h with
   | @lst a us ts g ha rs=>
     obtain⟨w,f1,f2,f3,h1,h2,h3,h4⟩:=rs.at (j:=j) (t:=k) hk;subst h2;refine⟨w,a::f1,f2,f3,⟨a,us,rfl,.inl ha,h1⟩,rfl,h3,fun {H' k' g} kk r'=>?_⟩;have q:=h4 (fun c hc=>kk c (ar9 _ hc)) r';rw[c9 h1]at q;exact .lst ((kk a ar4).trans ha) q
   | @tup a us ts g ha rs=>
     obtain⟨w,f1,f2,f3,h1,h2,h3,h4⟩:=rs.at (j:=j) (t:=k) hk;subst h2;refine⟨w,f1,f2,f3,⟨a,us,rfl,.inr (zh _ _ ha),h1⟩,rfl,h3,fun {H' k' g} kk r'=>?_⟩;have q:=h4 kk r';rw[c9 h1]at q;exact .tup ha q
   | _=>cases hk
 | fld f=>
   cases h with
   | @ins a dx c gs fs g ha rs=>
     obtain⟨w,f1,f2,f3,h1,h2,h3,h4⟩:=dH.at fs rs (f:=f) (t:=k) hk;subst h2;refine⟨w,a::f1,f2,f3,⟨a,_,dx,gs,rfl,ha,h1⟩,rfl,h3,fun {H' k' g} kk r'=>?_⟩;exact .ins ((kk a ar4).trans ha) (h4 (fun c hc=>kk c (ar9 _ hc)) r')
   | _=>cases hk
 | key x=>
   cases h with
   | @dct a gs kvs g ha rs=>
     obtain⟨w,f1,f2,f3,h1,h2,h3,h4⟩:=rs.Lj (k:=x) (t:=k) hk;subst h2;refine⟨w,a::f1,f2,f3,⟨a,gs,rfl,ha,h1⟩,rfl,h3,fun {H' k' g} kk r'=>?_⟩;exact .dct ((kk a ar4).trans ha) (h4 (fun c hc=>kk c (ar9 _ hc)) r')
   | _=>cases hk
theorem bz.focus(zh:aC Z H):∀(p:List AF) {t u:T} {v:V} {fp:BM},bz K CL H Z t v fp->T.lM p t=some u->∃w f1 f2 f3,Bp H v p w/\fp=f1++(f2++f3)/\bz K CL H Z u w f2 ∧
   ∀{H':Hp} {u':T} {g:BM},(∀c∈f1++f3,H' c=H c)->bz K CL H' Z u' w g->bz K CL H' Z (T.ni p u' t) v (f1++(g++f3))
 | [],t,u,v,fp,h,e=>by
   obtain⟨h1,h2⟩:=h.MB;cases e;exact⟨v,[],fp,[],rfl,Uf,h1,fun {H' u' g} _ r=>by rw[atN,asx];exact h2 r⟩
 | s::p,t,u,v,fp,h,e=>by
   obtain⟨h1,h2⟩:=h.MB;rw[T.lM]at e;cases hk:t.core.Lj s with
   | none=>rw[hk]at e;cases e
   | some k=>
     rw[hk]at e;obtain⟨w1,a1,a2,a3,q1,q2,q3,q4⟩:=h1.Lj zh hk;obtain⟨w,f1,f2,f3,r1,r2,r3,r4⟩:=bz.focus zh p q3 e;subst q2 r2;refine⟨w,a1++f1,f2,f3++a3,⟨w1,q1,r1⟩,by simp only[ar7],r3,fun {H' u' g} kk r'=>?_⟩;rw[T.ni,hk];have q:=h2 (q4 (k':=T.ni p u' k) (fun c hc=>kk c (by
       rcases asf.mp hc with h|h
       . simp[h]
       . simp[h])) (r4 (fun c hc=>kk c (by
       rcases asf.mp hc with h|h
       . simp[h]
       . simp[h])) r'))
     simpa only [List.append_assoc] using q
theorem aR.Cv(S:aR K CL b H Z δ σ ts vs)(ev:σ[i]? = some (some v0))(hi:δ[i]? = some (some t0))(hp:T.lM p t0=some u)(uE:Bp H v0 p w):∃f2 gp,bz K CL H Z u w f2/\aJ K CL H Z ts vs gp/\(f2++gp).Nodup ∧
   ∀{a:Addr} {o:HO} {u':T} {tl':Bn} {Mz:BN} {g Pp:BM},w=.ref a->a∈f2->ku o=false->bz K CL (upd H a o) Z u' w g->aJ K CL (upd H a o) Z tl' Mz Pp->(g++Pp).Nodup->(∀c∈g++Pp,c∈f2++gp) →
     aR K CL b (upd H a o) Z (δ.set i (some (T.ni p u' t0))) σ tl' Mz:=by
 obtain⟨fp,gp,e,r,nd,k⟩:=S.rep;obtain⟨v1,e1,e2,e3,hv,oq,rt,put,_⟩:=e.get hi;rw[ev]at hv;cases hv;obtain⟨w',f1,f2,f3,at',hf,ru,put2⟩:=rt.focus S.zh p hp;have hw:=at'.inj uE;subst hw;subst hf;subst oq;have hpm:((e1++((f1++(f2++f3))++e3))++gp).Perm ((e1++(f1++(f3++e3)))++(f2++gp)):=atP.mpr fun c=>by
   simp only[auc];omega
 have nd0:=hpm.nodup_iff.mp nd;have Li:=asX.mp nd0;refine⟨f2,gp,ru,r,Li.2.1,fun {a o u' tl' Mz g Pp} hwa ha hm hu ht UH Vl=>?_⟩;have hup:∀c∈e1++(f1++(f3++e3)),upd H a o c=H c:=fun c hc=>ak fun z=>Li.2.2 c hc a (ase _ ha) z;have q1:=put2 (H':=upd H a o) (fun c hc=>hup c (by
   rcases asf.mp hc with h|h
   . simp[h]
   . simp[h])) hu
 have q2:=put (H':=upd H a o) (.refl _) (fun c hc=>hup c (by
   rcases asf.mp hc with h|h
   . simp[h]
   . simp[h])) q1
 rw[c9 ev]at q2;have aj3:((e1++((f1++(g++f3))++e3))++Pp).Perm ((e1++(f1++(f3++e3)))++(g++Pp)):=atP.mpr fun c=>by
   simp only[auc];omega
 refine S.G4 hm k (by simp[ha]) q2 ht (aj3.nodup_iff.mpr (asX.mpr ⟨Li.1,UH,fun c hc d hd=>Li.2.2 c hc d (Vl d hd)⟩)) fun c hc=>?_;refine hpm.mem_iff.mpr ?_;rcases asf.mp (aj3.mem_iff.mp hc) with h|h
 . exact ase _ h
 . exact ar5 _ (Vl c h)
theorem aR.Wi(S:aR K CL b H Z δ σ ts vs)(ev:σ[i]? = some (some v0))(hi:δ[i]? = some (some t0))(hp:T.lM p t0=some u):∃w f2,Bp H v0 p w/\bz K CL H Z u w f2:=by
 obtain⟨fp,gp,e,r,nd,k⟩:=S.rep;obtain⟨v1,e1,e2,e3,hv,oq,rt,put,_⟩:=e.get hi;rw[ev]at hv;cases hv;obtain⟨w',f1,f2,f3,at',hf,ru,put2⟩:=rt.focus S.zh p hp;exact⟨w',f2,at',ru⟩
theorem aR.aa4(S:aR K CL b H Z δ σ (t::ts) (v::vs))(ev:σ[i]? = some (some v0))(hi:δ[i]? = some (some t0))(hp:T.lM p t0=some (.lst tl))(uE:Bp H v0 p w) :
   ∃a us,w=.ref a/\H a=some (.lst us)/\us.length=tl.length/\aR K CL b (upd H a (.lst (us++[v]))) Z (δ.set i (some (T.ni p (.lst (tl++[t])) t0))) σ ts vs:=by
 obtain⟨f2,gp,ru,rr,nd,go⟩:=S.Cv ev hi hp uE;cases ru with
 | @lst a us _ g ha rs=>
   cases rr with
   | @cons _ _ _ _ ft gr q1 q2=>
     have ne:∀c∈g++(ft++gr),c≠a:=fun c hc z=>by subst z;exact(as6.mp nd).1 hc
     have pm:((a::(g++(ft++[])))++gr).Perm ((a::g)++(ft++gr)):=atP.mpr fun c=>by simp only[auc,List.count_cons,List.count_nil];omega
     exact⟨a,us,rfl,ha,rs.length.symm,go rfl ar4 rfl (.lst aD (aJ.app (rs.mono (.refl _) fun c hc=>ak (ne c (by simp[hc]))) (.cons (q1.mono (.refl _) fun c hc=>ak (ne c (by simp[hc]))) .nil)))
       (q2.mono (.refl _) fun c hc=>ak (ne c (by simp[hc]))) (pm.nodup_iff.mpr nd) fun c hc=>pm.mem_iff.mp hc⟩
theorem aR.Wj{ds:At}(S:aR K CL b H Z δ σ ts vs)(hr:aB K CL Z ds us)(ev:σ[i]? = some (some v0))(hi:δ[i]? = some (some t0))(hp:T.lM p t0=some (.lst tl))(uE:Bp H v0 p w) :
   ∃a ws,w=.ref a/\H a=some (.lst ws)/\ws.length=tl.length/\aR K CL b (upd H a (.lst (ws++us))) Z (δ.set i (some (T.ni p (.lst (tl++ds.map T.sh)) t0))) σ ts vs:=by
 obtain⟨f2,gp,ru,rr,nd,go⟩:=S.Cv ev hi hp uE;cases ru with
 | @lst a ws _ g ha rs=>
   have ne:∀c∈g++gp,c≠a:=fun c hc z=>by subst z;exact(as6.mp nd).1 hc
   exact⟨a,ws,rfl,ha,rs.length.symm,go (g:=a::(g++[])) rfl ar4 rfl (.lst aD (aJ.app (rs.mono (.refl _) fun c hc=>ak (ne c (by simp[hc]))) (aJ.ofF hr)))
     (rr.mono (.refl _) fun c hc=>ak (ne c (by simp[hc]))) (by rw[asx];exact nd) fun c hc=>by rw[asx]at hc;exact hc⟩
theorem aR.anF(S:aR K CL b H Z δ σ ts vs)(ev:σ[i]? = some (some v0))(hi:δ[i]? = some (some t0))(hp:T.lM p t0=some (.lst (tl++[t])))(uE:Bp H v0 p w) :
   ∃a us x,w=.ref a/\H a=some (.lst (us++[x]))/\aR K CL b (upd H a (.lst us)) Z (δ.set i (some (T.ni p (.lst tl) t0))) σ (t::ts) (x::vs):=by
 obtain⟨f2,gp,ru,rr,nd,go⟩:=S.Cv ev hi hp uE;cases ru with
 | @lst a us _ g ha rs=>
   obtain⟨Mz,x,g1,g2,e1,e2,r1,r2⟩:=Ct rs;subst e1;subst e2;have ne:∀c∈(g1++g2)++gp,c≠a:=fun c hc z=>by subst z;exact(as6.mp nd).1 hc
   have pm:((a::g1)++(g2++gp)).Perm ((a::(g1++g2))++gp):=atP.mpr fun c=>by simp only[auc,List.count_cons];omega
   exact⟨a,Mz,x,rfl,ha,go rfl ar4 rfl (.lst aD (r1.mono (.refl _) fun c hc=>ak (ne c (by simp[hc]))))
     (.cons (r2.mono (.refl _) fun c hc=>ak (ne c (by simp[hc]))) (rr.mono (.refl _) fun c hc=>ak (ne c (by simp[hc])))) (pm.nodup_iff.mpr nd) fun c hc=>pm.mem_iff.mp hc⟩
theorem aR.aj4(S:aR K CL b H Z δ σ ts vs)(ev:σ[i]? = some (some v0))(hi:δ[i]? = some (some t0))(hp:T.lM p t0=some (.lst (t::tl)))(uE:Bp H v0 p w) :
   ∃a us x,w=.ref a/\H a=some (.lst (x::us))/\aR K CL b (upd H a (.lst us)) Z (δ.set i (some (T.ni p (.lst tl) t0))) σ (t::ts) (x::vs):=by
 obtain⟨f2,gp,ru,rr,nd,go⟩:=S.Cv ev hi hp uE;cases ru with
 | @lst a us _ g ha rs=>
   cases rs with
   | @cons _ x _ us g2 g1 r2 r1=>
     have ne:∀c∈(g2++g1)++gp,c≠a:=fun c hc z=>by subst z;exact(as6.mp nd).1 hc
     have pm:((a::g1)++(g2++gp)).Perm ((a::(g2++g1))++gp):=atP.mpr fun c=>by simp only[auc,List.count_cons];omega
     exact⟨a,us,x,rfl,ha,go rfl ar4 rfl (.lst aD (r1.mono (.refl _) fun c hc=>ak (ne c (by simp[hc]))))
       (.cons (r2.mono (.refl _) fun c hc=>ak (ne c (by simp[hc]))) (rr.mono (.refl _) fun c hc=>ak (ne c (by simp[hc])))) (pm.nodup_iff.mpr nd) fun c hc=>pm.mem_iff.mp hc⟩
theorem aR.aj5(S:aR K CL b H Z δ σ ts vs)(ev:σ[i]? = some (some v0))(hi:δ[i]? = some (some t0))(hp:T.lM p t0=some u)(uE:Bp H v0 p w):aR K CL b H Z (δ.set i (some (T.ni p (.sh .any) t0))) σ (u::ts) (w::vs):=by
 obtain⟨fp,gp,e,r,nd,k⟩:=S.rep;obtain⟨v1,e1,e2,e3,hv,oq,rt,put,_⟩:=e.get hi;rw[ev]at hv;cases hv;obtain⟨w',f1,f2,f3,at',hf,ru,put2⟩:=rt.focus S.zh p hp;have hw:=at'.inj uE;subst hw;subst hf;subst oq;have q2:=put (.refl _) (fun _ _=>rfl) (put2 (u':=.sh .any) (g:=[]) (fun _ _=>rfl) (.sh (.any _)));rw[c9 ev]at q2;have pm:((e1++((f1++([]++f3))++e3))++(f2++gp)).Perm ((e1++((f1++(f2++f3))++e3))++gp):=atP.mpr fun c=>by simp only[auc,List.count_nil];omega
 exact⟨⟨_,_,q2,.cons ru r,pm.nodup_iff.mpr nd,fun c hc=>k c (pm.mem_iff.mp hc)⟩,S.bh,S.zz,S.zh,S.new,S.tp,S.tab⟩
section
variable{δ1:AR}{e e0 e2:Expr}{t1:T}{tl0:Bn}{d:L3.D}{ds:At}{D:dW}{pos pa pb:Pos}{c f:Str}{eW:CU}{fs:B1}
def UI(X:Cx)(CL:BC)(b:Bx)(e:Expr)(δ:AR)(i:Nat)(p:List AF):Prop:=
 ∀(H Z:Hp) (σ:L2.St) (ts:Bn) (vs:BN) (Q:VK),aR X.K CL b H Z δ σ ts vs->(∀v0 v H' Z',aC Z Z'->aC H H'->aR X.K CL b H' Z' δ σ ts vs->σ[i]? = some (some v0)->Bp H' v0 p v->Q v H')->A5 X e σ H Q
def kT(n:Vn X i x)(h:δ[i]? = some (some t)):UI X CL b (.Name x pos) δ i []:=fun H Z σ ts vs Q S k=>by
 obtain⟨v,hv,_⟩:=S.look h;exact bP (gw n.hi n.hv n.hd n.ko) ⟨v,hv,k v v H Z (.refl _) (.refl _) S hv rfl⟩
def Cw(hc:kO X.K (CL c))(n:aI X.K (CL c) f)(h:UI X CL b e δ i p)(hi:δ[i]? = some (some t))(hg:T.lM p t=some (.ins c fs))(hl:fs.lookup f=some u)(hb:AS X e f:=by rfl) :
   UI X CL b (.Attribute e f pos) δ i (p++[.fld f]):=fun H Z σ ts vs Q S k=>
 bP (LV cP hb) (h H Z σ ts vs _ S fun v0 v H' Z' z s S' ev uE=>by
   obtain⟨w,f2,at',r⟩:=S'.Wi ev hi hg;have:=at'.inj uE;subst this;cases r with
   | @ins a dx _ gs _ g ha rs=>
     obtain⟨w,_,_,_,hw,_,_,_⟩:=dH.at fs rs hl;exact⟨a,CL c,dx,gs,w,rfl,ha,hc,n,hw,k v0 w H' Z' z s S' ev (uE.snoc ⟨a,_,dx,gs,rfl,ha,hw⟩)⟩)
def MC{z:Int}{j:Nat}(h:UI X CL b e δ i p)(hi:δ[i]? = some (some t))(hg:T.lM p t=some (.tup tl))(h2:dD X CL b e2 δ (.int z) δ)(hk:O7 tl.length z=some j)(hp:qL e2:=by exact fun _ _=>rfl) :
   UI X CL b (.Subscript e e2 pos) δ i (p++[.ix j]):=fun H Z σ ts vs Q S k=>
 bP (B6 GJ cP cP hp) (h H Z σ ts vs _ S fun v0 v H' Z' z1 s1 S' ev uE=>h2 H' Z' σ ts vs _ S' fun v2 H2 Z2 z2 s2 S2 r2=>by
   have at2:=uE.mono s2;obtain⟨w,f2,at',r⟩:=S2.Wi ev hi hg;have:=at'.inj at2;subst this;cases r with
   | @tup a us _ g ha rs=>
     have hj:j<tl.length:=(Bg hk).2.1;obtain⟨w,_,_,_,hw,_,_,_⟩:=rs.at (ar6 hj);refine⟨a,us,z,w,rfl,r2.sc rfl,se.of (S2.zh _ _ ha),?_,k v0 w H2 Z2 (z1.trans z2) (s1.trans s2) S2 ev (at2.snoc ⟨a,us,rfl,.inr (S2.zh _ _ ha),hw⟩)⟩;unfold ux;rw[← rs.length,hk];exact hw)
theorem Bq(h:UI X CL b e δ i p)(hi:δ[i]? = some (some t))(hg:T.lM p t=some (.sh d)):bO X CL b e δ (.sh d) δ:=fun H Z σ ts vs Q S k=>
 h H Z σ ts vs _ S fun v0 v H' Z' z s S' ev uE=>by
   obtain⟨w,f2,at',r⟩:=S'.Wi ev hi hg;have:=at'.inj uE;subst this;cases r with
   | sh r=>exact k _ H' Z' z s (S'.push r)
def aa5(h:UI X CL b e δ i p)(hi:δ[i]? = some (some t))(hg:T.lM p t=some u):bO X CL b e δ u (δ.set i (some (T.ni p (.sh .any) t))):=fun H Z σ ts vs Q S k=>
 h H Z σ ts vs _ S fun v0 v H' Z' z s S' ev uE=>k v H' Z' z s (S'.aj5 ev hi hg uE)
def agk(hE:UI X CL b e0 δ i p)(h0:δ[i]? = some (some t0))(hp0:T.lM p t0=some (.lst tl0))(h:bO X CL b e δ t δ1)(h1:δ1[i]? = some (some t1))(hp1:T.lM p t1=some (.lst tl))(hl:tl.length<=1000000)(k:cQ X CL b eW (δ1.set i (some (T.ni p (.lst (tl++[t])) t1))) D)
   (gy:attributeBase e0 "append" X.env (eval e0 X.env)=eval e0 X.env:=by rfl)
   (qN:AB X pb e:=by rfl)
   (hline:(pa.endLine==pb.line)=true:=by rfl) (hs:AC X e []:=by exact aZ rfl) (G0:swapsWith (.Call (.Attribute e0 "append" pa) [e] [] pb) none pos.line X.env=pure false:=by rfl) :
   cQ X CL b (.Expr (.Call (.Attribute e0 "append" pa) [e] [] pb) pos::eW) δ D:=bI fun H Z σ ts vs E S M=>
 om (wY (Fw atJ PySem.F.slot_list_append PySem.F.type_list_append yT cP (bY cP dZ hs) gy qN hline hs rfl) G0) (hE H Z σ ts vs _ S fun v0 v H0 Z0 z0 s0 S0 ev uE=>by
   obtain⟨w,f2,at',r⟩:=S0.Wi ev h0 hp0;have:=at'.inj uE;subst this;refine⟨?_,h H0 Z0 σ ts vs _ S0 fun v2 H1 Z1 z1 k1 S1=>?_⟩
   . cases r with
     | lst ha _=>exact .inl ⟨rfl,_,ou.of ha⟩
   . obtain⟨a,us,ea,ha,hu,S2⟩:=S1.aa4 ev h1 hp1 (uE.mono k1);exact⟨a,us,v2,ea,rfl,ha,by rw[hu];exact atZ hl (by rw[asD];decide),M.nx _ σ _ Z1 (z0.trans z1) S2 k⟩)
def aa6(hE:UI X CL b e0 δ i p)(h0:δ[i]? = some (some t0))(hp0:T.lM p t0=some (.lst tl0))(h:dD X CL b e δ (.lst ds) δ1)(ZM:L3.D.aT ds=true)(h1:δ1[i]? = some (some t1))(hp1:T.lM p t1=some (.lst tl))(hl:tl.length+ds.length<=1000000)(k:cQ X CL b eW (δ1.set i (some (T.ni p (.lst (tl++ds.map T.sh)) t1))) D)
   (gy:attributeBase e0 "extend" X.env (eval e0 X.env)=eval e0 X.env:=by rfl)
   (qN:AB X pb e:=by rfl)
   (hline:(pa.endLine==pb.line)=true:=by rfl) (hs:AC X e []:=by exact aZ rfl) (G0:swapsWith (.Call (.Attribute e0 "extend" pa) [e] [] pb) none pos.line X.env=pure false:=by rfl) :
   cQ X CL b (.Expr (.Call (.Attribute e0 "extend" pa) [e] [] pb) pos::eW) δ D:=bI fun H Z σ ts vs E S M=>
 om (wY (Fw atJ PySem.F.slot_list_extend PySem.F.type_list_extend aa2 cP (bY cP dZ hs) gy qN hline hs rfl) G0) (hE H Z σ ts vs _ S fun v0 v H0 Z0 z0 s0 S0 ev uE=>by
   obtain⟨w,f2,at',r⟩:=S0.Wi ev h0 hp0;have:=at'.inj uE;subst this;refine⟨?_,h H0 Z0 σ ts vs _ S0 fun v2 H1 Z1 z1 k1 S1 rr=>?_⟩
   . cases r with
     | lst ha _=>exact .inl ⟨rfl,_,ou.of ha⟩
   . cases rr with
     | lst hq rr=>
       obtain⟨a,ws,ea,ha,hu,S2⟩:=S1.Wj (aB.kB S1.tp ZM rr) ev h1 hp1 (uE.mono k1);have hz:=rr.length;exact⟨a,_,ws,_,ea,rfl,ha,hq,by rw[hu,← hz];exact aty (atZ hl (by rw[asD];decide)),M.nx _ σ _ Z1 (z0.trans z1) S2 k⟩)
def aa7(hE:UI X CL b e0 δ i p)(h:δ[i]? = some (some t0))(hp:T.lM p t0=some (.lst (tl++[t])))(gy:attributeBase e0 "pop" X.env (eval e0 X.env)=eval e0 X.env:=by rfl)(hline:(pa.endLine==pos.line)=true:=by rfl) :
   A7 X CL b (.Call (.Attribute e0 "pop" pa) [] [] pos) δ t (δ.set i (some (T.ni p (.lst tl) t0))):=fun H Z σ ts vs Q S k=>
 bP (afv atJ PySem.F.slot_list_pop PySem.F.type_list_pop afw cP gy hline) (hE H Z σ ts vs _ S fun v0 w H0 Z0 z0 s0 S0 ev uE=>by
   obtain⟨a,us,x,ea,ha,S2⟩:=S0.anF ev h hp uE;subst ea;refine⟨.inl ⟨rfl,_,.inl (.inl ha)⟩,a,us++[x],x,rfl,rfl,ha,Uf,?_⟩;rw[List.dropLast_concat];exact k x _ Z0 z0 S2)
def Wk{kj:Nat}{pc:Pos}(hE:UI X CL b e0 δ i p)(h:δ[i]? = some (some t0))(hp:T.lM p t0=some (.lst (t::tl)))(gy:attributeBase e0 "pop" X.env (eval e0 X.env)=eval e0 X.env:=by rfl)
   (qN:((backTo pos (starEach [.Constant (.int 0) kj pc] X.env)).all (fun x=>!x.1)&&(backToKw pos (keywordEach [] X.env)).all (fun x=>x.1.isSome)&&decide ([Expr.Constant (.int 0) kj pc].length+([]:EO).length+(if ([]:EO).isEmpty then 0 else 1)<30))=true:=by rfl)
   (hline:(pa.endLine==pos.line)=true:=by rfl) (hs:starEach [.Constant (.int 0) kj pc] X.env=(false,eval (.Constant (.int 0) kj pc) X.env)::starEach [] X.env:=by exact aZ rfl) :
   A7 X CL b (.Call (.Attribute e0 "pop" pa) [.Constant (.int 0) kj pc] [] pos) δ t (δ.set i (some (T.ni p (.lst tl) t0))):=fun H Z σ ts vs Q S k=>
 bP (Fw atJ PySem.F.slot_list_pop PySem.F.type_list_pop Va cP (bY Ly dZ hs) gy qN hline hs rfl) (hE H Z σ ts vs _ S fun v0 w H0 Z0 z0 s0 S0 ev uE=>by
   obtain⟨a,us,x,ea,ha,S2⟩:=S0.aj4 ev h hp uE;subst ea;refine⟨.inl ⟨rfl,_,.inl (.inl ha)⟩,a,x::us,0,0,x,rfl,rfl,ha,Wp,Wp,?_,rfl,?_⟩
   . unfold seqIndex?;simp
   . exact k x _ Z0 z0 S2)
end
theorem dH.none{m:Str}:∀{fs:B1} {gs:CA} {fp:BM},dH K CL H Z fs gs fp->fs.lookup m=none->gs.lookup m=none:=by
 intro fs
 induction fs with
 | nil=>intro gs fp r _;cases r;rfl
 | cons p fs ih=>
   intro gs fp r h;cases r with
   | cons q r=>
     rw[asR]at h ⊢;split at h
     . cases h
     . exact ih r h
section
variable{δ1:AR}{e o:Expr}{es:CS}{pos pp apos:Pos}{c m:Str}{is:Bi}{fx:BM->Prop}{al:BM->Bn}{y:Addr}{fs:B1}{A:Type}{k n:Nat}{f:Addr}{fd:FuncData}{ps:Ap}{arg:A->Bn}{Pre:A->Prop}{res:A->T}{out:A->Bn}
abbrev XK0:XK:=fun _ _ _=>True
def zg{H1 Z1:Hp}{al:Bn}{ys:BM}{ns:Bn}{Q:VK}{E:XK}(a:A)(ha1:arg a=al)(ha2:(arg a).length=n)(hp:Pre a)(hrs:res a=t)(hpu:m9 (out a) ys ns)(yO:AtS σ is ys)(FL:∀i∈is,i<δ1.length)(hlu:us.length=al.length)
   (S1:aR X.K CL b H1 Z1 δ1 σ (al.reverse++ts) (us.reverse++vs)) (kk:∀v H' Z',aC Z1 Z'->aR X.K CL b H' Z' (Mt δ1 is ns) σ (t::ts) (v::vs)->Q v H'):Sb X.K CL n arg Pre res out us H1 Q E:=by
 obtain⟨g,r,nd,S2⟩:=S1.cut (by simp[hlu]);obtain⟨g',r',pm⟩:=r.rev;have ec:zf H1 g=zf H1 g':=funext fun c=>by
   by_cases hc:c∈g
   . rw[uC hc,uC (pm.mem_iff.mpr hc)]
   . rw[jN hc,jN (fun z=>hc (pm.mem_iff.mp z))]
 rw[ec]at S2;rw[← ha1]at r';refine⟨Z1,a,g',S2.zh,S1.tp,r',pm.nodup_iff.mpr nd,ha2,hp,S1.RN,fun v H' W' fp hh ww wh nw tp rt Li own=>?_⟩;cases rt with
 | @cons _ _ _ _ f1 f2 q1 q2=>
   have Pk:(f2++(f1++[])).Perm (f1++f2):=by rw[asx];exact asL
   have S3:=S2.ad5 hh ww wh nw tp (aJ.app q2 (.cons q1 .nil)) (Pk.nodup_iff.mpr Li) fun c hc=>own c (Pk.mem_iff.mp hc);rw[ar7,ar7]at S3;have S4:=S3.aaW q2.length yO hpu FL;rw[hrs]at S4;exact kk v H' W' ww S4
inductive Recv(δ:AR)(i:Nat)(c:Str)(fs:B1):(Addr->Prop)->Prop where
 | own:δ[i]? = some (some (.ins c fs))->Recv δ i c fs (fun _=>True)
 | pin {y:Addr}:δ[i]? = some (some (.pin y (.ins c fs)))->Recv δ i c fs (fun z=>z=y)
theorem aR.recv{g:Addr->Prop}(S:aR X.K CL b H Z δ σ ts vs)(h:Recv δ i c fs g):∃y dx gs,g y/\σ[i]? = some (some (.ref y))/\H y=some (.ins (CL c) dx gs)/\(∀m,fs.lookup m=none->gs.lookup m=none)/\aR X.K CL b H Z (δ.set i none) σ (.pin y (.ins c fs)::ts) (.ref y::vs):=by
 cases h with
 | own h=>
   obtain⟨v,e,S1⟩:=S.move h;obtain⟨y,rfl,S0⟩:=S1.V1 rfl;obtain⟨fp,gp,_,r,_,_⟩:=S0.rep;cases r with
   | cons r _=>
     cases r with
     | pin r=>
       cases r with
       | ins ha rs=>exact⟨y,_,_,trivial,e,ha,fun m hm=>rs.none hm,S0⟩
 | @pin y h=>
   obtain⟨v,e,S0⟩:=S.move h;obtain⟨fp,gp,_,r,_,_⟩:=S0.rep;cases r with
   | cons r _=>
     cases r with
     | pin r=>
       cases r with
       | ins ha rs=>exact⟨y,_,_,rfl,e,ha,fun m hm=>rs.none hm,S0⟩
def Wm{pl:Sem Bool}{g:Addr->Prop}(a:Addr->BM->A)(ns:Bn)(cc:kO X.K (CL c))(hm:Meth X.K (CL c) m f)(F:dP X.prog X.w X.K X.mg X.base pZ k f fd ps (Sb X.K CL n arg Pre res out))(hr:dU k X.A)(hb:Binds X.K fd ps [])
   (nm:Vn X i x) (hi:Recv δ i c fs g) (hf:fs.lookup m=none) (h:UG X CL b (e::es) (δ.set i none) is fx al δ1)
   (ha:∀y ys,g y->ys.length=is.length->fx ys->arg (a y ys)=.pin y (.ins c fs)::al ys/\(arg (a y ys)).length=n/\Pre (a y ys)/\res (a y ys)=t/\m9 (out (a y ys)) (y::ys) ns) (FL:∀j∈i::is,j<δ1.length)
   (he:AC X e es:=by exact aZ rfl) (hpl:AL X pos es:=by rfl)
   (ht:eval (.Call (.Attribute (.Name x pp) m apos) (e::es) [] pos) X.env=(do
     let ov ← eval (.Name x pp) X.env
     standAt apos.atName
     let (f,first) ← holding [ov] (getMethod ov m pl)
     callWith pos f first (backTo pos (starEach (e::es) X.env)) (backToKw pos (keywordEach [] X.env))):=by rfl) :
   A7 X CL b (.Call (.Attribute (.Name x pp) m apos) (e::es) [] pos) δ t (Mt δ1 (i::is) ns):=fun H Z σ ts vs Q S kk=>by
 obtain⟨y,dx,gs,hy,ev,hH,hn,S0⟩:=S.recv hi;refine bP (OZ (gw nm.hi nm.hv nm.hd nm.ko) cc hm F hr hb .nil sG Jz he hpl ht) ⟨_,ev,y,dx,gs,rfl,hH,hn m hf,h H Z σ _ _ _ S0 fun ys us H1 Z1 hly yO hfx hlu z1 k1 S1=>?_⟩;rw[asx];obtain⟨h1,h2,h3,h4,h5⟩:=ha y ys hy hly hfx;refine zg (al:=.pin y (.ins c fs)::al ys) (us:=.ref y::us) (is:=i::is) (ys:=y::ys) (a y ys) h1 h2 h3 h4 h5 ⟨ev,yO⟩ FL (by simp[hlu]) ?_ fun v H' Z' z S'=>kk v H' Z' (z1.trans z) S';rw[as2,as2,ar7,ar7];exact S1
def Sl{pl:Sem Bool}{g:Addr->Prop}(a:Addr->A)(nt:T)(cc:kO X.K (CL c))(hm:Meth X.K (CL c) m f)(F:dP X.prog X.w X.K X.mg X.base pZ k f fd ps (Sb X.K CL n arg Pre res out))(hr:dU k X.A)(hb:Binds X.K fd ps [])
   (nm:Vn X i x) (hi:Recv δ i c fs g) (hf:fs.lookup m=none)
   (ha:∀y,g y->arg (a y)=[.pin y (.ins c fs)]/\(arg (a y)).length=n/\Pre (a y)/\res (a y)=t/\m9 (out (a y)) [y] [nt]) (FL:i<δ.length)
   (ht:eval (.Call (.Attribute (.Name x pp) m apos) [] [] pos) X.env=(do
     let ov ← eval (.Name x pp) X.env
     standAt apos.atName
     let (f,first) ← holding [ov] (getMethod ov m pl)
     callWith pos f first (backTo pos (starEach [] X.env)) (backToKw pos (keywordEach [] X.env))):=by rfl) :
   A7 X CL b (.Call (.Attribute (.Name x pp) m apos) [] [] pos) δ t (δ.set i (some nt)):=fun H Z σ ts vs Q S kk=>by
 obtain⟨y,dx,gs,hy,ev,hH,hn,S0⟩:=S.recv hi;refine bP (JS (E:=XK0) (gw nm.hi nm.hv nm.hd nm.ko) cc hm F hr hb .nil sG ht) ⟨_,ev,y,dx,gs,rfl,hH,hn m hf,?_⟩;obtain⟨h1,h2,h3,h4,h5⟩:=ha y hy;refine zg (E:=XK0) (al:=[.pin y (.ins c fs)]) (us:=[.ref y]) (is:=[i]) (ys:=[y]) (ns:=[nt]) (δ1:=δ.set i none) (a y) h1 h2 h3 h4 h5 ⟨ev,trivial⟩ (fun j hj=>by cases asw.mp hj;rw[at8];exact FL) rfl S0 fun v H' Z' z S'=>kk v H' Z' z ?_;have e:Mt (δ.set i none) [i] [nt]=δ.set i (some nt):=by
   show((δ.set i none).set i (some nt))=_;rw[List.set_set]
 rw[e]at S';exact S'
structure FqM(X:Cx)(CL:BC)(c m:Str)(k n:Nat){A:Type}(arg:A->Bn)(Pre:A->Prop)(res:A->T)(out:A->Bn):Prop where
 ex:∃f fd ps,Meth X.K (CL c) m f/\dP X.prog X.w X.K X.mg X.base pZ k f fd ps (Sb X.K CL n arg Pre res out)/\Binds X.K fd ps []
 room:dU k X.A
 cls:kO X.K (CL c)
def qM{pl:Sem Bool}{g:Addr->Prop}{dl:At}(a:Addr->A)(nt:T)(F:FqM X CL c m k n arg Pre res out)(nm:Vn X i x)(hi:Recv δ i c fs g)(h:GQ X CL b (e::es) (δ.set i none) (dl.map T.sh) δ1)(hp:∀y,g y->Pre (a y))(Mv:∀y,g y->res (a y)=t)(Mw:∀y,g y->m9 (out (a y)) [y] [nt])
   (hf:fs.lookup m=none:=by rfl) (Mx:∀y,g y->arg (a y)=.pin y (.ins c fs)::dl.map T.sh:=by intros;rfl) (hlen:∀y,(arg (a y)).length=n:=by intros;rfl) (FL:i<δ1.length:=by exact ar8 rfl)
   (he:AC X e es:=by exact aZ rfl) (hpl:AL X pos es:=by rfl)
   (ht:eval (.Call (.Attribute (.Name x pp) m apos) (e::es) [] pos) X.env=(do
     let ov ← eval (.Name x pp) X.env
     standAt apos.atName
     let (f,first) ← holding [ov] (getMethod ov m pl)
     callWith pos f first (backTo pos (starEach (e::es) X.env)) (backToKw pos (keywordEach [] X.env))):=by rfl) :
   A7 X CL b (.Call (.Attribute (.Name x pp) m apos) (e::es) [] pos) δ t (δ1.set i (some nt)):=by
 obtain⟨⟨f,fd,ps,M,G,bd⟩,r,cc⟩:=F;have h':UG X CL b (e::es) (δ.set i none) [] (fun _=>True) (fun _=>dl.map T.sh) δ1:=fun H Z σ ts vs Q S k=>h H Z σ ts vs Q S fun us H' Z' hl z s S'=>k [] us H' Z' rfl trivial trivial hl z s S';exact Wm (fun y _=>a y) [nt] cc M G r bd nm hi hf h' (fun y ys hy hl _=>by
   cases au9.mp hl;exact⟨Mx y hy,hlen y,hp y hy,Mv y hy,Mw y hy⟩) (fun j hj=>by cases asw.mp hj;exact FL) he hpl ht
def qM0{pl:Sem Bool}{g:Addr->Prop}(a:Addr->A)(nt:T)(F:FqM X CL c m k n arg Pre res out)(nm:Vn X i x)(hi:Recv δ i c fs g)(hp:∀y,g y->Pre (a y))(Mv:∀y,g y->res (a y)=t)(Mw:∀y,g y->m9 (out (a y)) [y] [nt])
   (hf:fs.lookup m=none:=by rfl) (Mx:∀y,g y->arg (a y)=[.pin y (.ins c fs)]:=by intros;rfl) (hlen:∀y,(arg (a y)).length=n:=by intros;rfl) (FL:i<δ.length:=by exact ar8 rfl)
   (ht:eval (.Call (.Attribute (.Name x pp) m apos) [] [] pos) X.env=(do
     let ov ← eval (.Name x pp) X.env
     standAt apos.atName
     let (f,first) ← holding [ov] (getMethod ov m pl)
     callWith pos f first (backTo pos (starEach [] X.env)) (backToKw pos (keywordEach [] X.env))):=by rfl) :
   A7 X CL b (.Call (.Attribute (.Name x pp) m apos) [] [] pos) δ t (δ.set i (some nt)):=by
 obtain⟨⟨f,fd,ps,M,G,bd⟩,r,cc⟩:=F;exact Sl a nt cc M G r bd nm hi hf (fun y hy=>⟨Mx y hy,hlen y,hp y hy,Mv y hy,Mw y hy⟩) FL ht
end
end L3
namespace L2
open PySem PySem.Spec PyProof.Rows
section
variable{X:Cx}{CX:Rr}{k:Nat}{f C:Addr}{fd:FuncData}{ps:Ap}{sp:Sp}{Aq:BN}{ds:BY}{E:XK}{x m:Str}{p pos apos:Pos}{e:Expr}{es:CS}{t:TA}
structure ad8(K:Frag)(C:Addr)(m:Str)(f:Addr):Prop where
 ga:specialIn K (.ref C) "__getattribute__" = some (some (.builtin "type.__getattribute__"))
 rd:readsIn K C (.type "type")=true
 fnd:findCls K (.ref C) (.type "type") m=some (.val (.ref f))
 kp:keepIn K (.ref f)=true
def Wn{pl:Sem Bool}(hc:ad8 X.K C m f)(F:dP X.prog X.w X.K X.mg X.base CX k f fd ps sp)(hr:dU k X.A)(hg:Gl X x)(hmg:X.mg x=some (.ref C))(hb:Binds X.K fd ps ds)(hd:Vals Aq ds)(hx:Passes CX X E)(ha:PA X (e::es) t)
   (su:AD x:=by decide) (pY:AC X e es:=by rfl) (hpl:AL X pos es:=by rfl)
   (ht:eval (.Call (.Attribute (.Name x p) m apos) (e::es) [] pos) X.env=(do
     let ov ← eval (.Name x p) X.env
     standAt apos.atName
     let (f,first) ← holding [ov] (getMethod ov m pl)
     callWith pos f first (backTo pos (starEach (e::es) X.env)) (backToKw pos (keywordEach [] X.env))):=by rfl) :
   PE X (.Call (.Attribute (.Name x p) m apos) (e::es) [] pos) (U0 sp Aq E t):=by
 intro pins s σ H Q I h;refine aul (pl:=pl) (fX (Gz (v:=.ref C) hg hmg rfl su pins s σ H (fun v H1=>v=.ref C/\H1=H) I ⟨rfl,rfl⟩) fun u s1 ⟨x,H1,I1,rx,ex,eh⟩=>?_) ht;subst ex;subst eh;obtain rfl:u=Value.ref C:=rx;refine PySem.W.method_cls I1.AY hc.ga (PySem.W.cls_value I1.AY hc.rd hc.fnd rfl ?_);have I2:=I1.tok (s1.toks+1);refine au1 (h₀:=X.base) I.ok.mod.kin hc.kp (fX (ha pos pins _ σ H1 _ I2 h) fun us s2 ⟨vs,H2,I3,r,q2⟩=>⟨I3.AY,?_⟩) pY hpl;exact B3 F hr hb hd hx I3 r q2
end
end L2
namespace L3
open PySem PySem.Spec PyProof.Rows L2
section
variable{X:Cx}{CL:BC}{b:Bx}{δ δ1:AR}{e:Expr}{es:CS}{t:T}{pos pp apos:Pos}{i:Nat}{x m:Str}{is:Bi}{fx:BM->Prop}{al:BM->Bn}{y:Addr}{A:Type}{k n:Nat}{arg:A->Bn}{Pre:A->Prop}{res:A->T}{out:A->Bn}
structure FkM(X:Cx)(CL:BC)(x m:Str)(k n:Nat){A:Type}(arg:A->Bn)(Pre:A->Prop)(res:A->T)(out:A->Bn):Prop where
 ex:∃f fd ps,ad8 X.K (CL x) m f/\dP X.prog X.w X.K X.mg X.base pZ k f fd ps (Sb X.K CL n arg Pre res out)/\X.mg x=some (.ref (CL x))/\Binds X.K fd ps []
 room:dU k X.A
def kM1{pl:Sem Bool}(a:Addr->A)(nt:T)(F:FkM X CL x m k n arg Pre res out)(hg:Gl X x)(h:UG X CL b (e::es) δ [i] fx al δ1)(hp:∀y,fx [y]->Pre (a y))(Mv:∀y,fx [y]->res (a y)=t)(Mw:∀y,fx [y]->m9 (out (a y)) [y] [nt])
   (Mx:∀y,fx [y]->arg (a y)=al [y]:=by intros;rfl) (hlen:∀y,(arg (a y)).length=n:=by intros;rfl) (FL:i<δ1.length:=by exact ar8 rfl)
   (su:AD x:=by decide) (he:AC X e es:=by exact aZ rfl) (hpl:AL X pos es:=by rfl)
   (ht:eval (.Call (.Attribute (.Name x pp) m apos) (e::es) [] pos) X.env=(do
     let ov ← eval (.Name x pp) X.env
     standAt apos.atName
     let (f,first) ← holding [ov] (getMethod ov m pl)
     callWith pos f first (backTo pos (starEach (e::es) X.env)) (backToKw pos (keywordEach [] X.env))):=by rfl) :
   A7 X CL b (.Call (.Attribute (.Name x pp) m apos) (e::es) [] pos) δ t (δ1.set i (some nt)):=fun H Z σ ts vs Q S kk=>by
 obtain⟨⟨f,fd,ps,C,G,mg,bd⟩,r⟩:=F;refine bP (Wn C G r hg mg bd .nil sG Jz su he hpl ht) (h H Z σ ts vs _ S fun ys us H1 Z1 hly yO hf hlu z1 k1 S1=>?_);rw[asx]
 match ys,hly,hf,yO,S1,hlu with
 | [y],_,hf,yO,S1,hlu=>exact zg (al:=al [y]) (is:=[i]) (ys:=[y]) (ns:=[nt]) (a y) (Mx y hf) (hlen y) (hp y hf) (Mv y hf) (Mw y hf) yO (fun j hj=>by cases asw.mp hj;exact FL) hlu S1 fun v H' Z' z S'=>kk v H' Z' (z1.trans z) S'
end
variable{CL:BC}
theorem ic.none{K:Frag}{Z:Hp}{m:Str}:∀{fs:Cs} {gs:CA},ic K CL Z fs gs->fs.lookup m=none->gs.lookup m=none:=by
 intro fs
 induction fs with
 | nil=>intro gs r _;cases r;rfl
 | cons p fs ih=>
   intro gs r h;cases r with
   | cons q r=>
     rw[asR]at h ⊢;split at h
     . cases h
     . exact ih r h
section
abbrev _root_.Cn:=List (Str×L3.D)
variable{X:Cx}{b:Bx}{δ δ1 δ2:AR}{e e1 e2 o:Expr}{es:CS}{pos apos pos':Pos}{i:Nat}{x c m:Str}{fs:Cn}{ds:At}{D:dW}{eW:CU}{A:Type}{k n:Nat}{arg:A->At}{Pre:A->Prop}{res:A->T}
def q_{pl:Sem Bool}(a:A)(F:Fq X CL c m k n arg Pre res)(ho:dD X CL b o δ (.ins c fs) δ1)(hf:fs.lookup m=none)(h:UC X CL b (e::es) δ1 ds δ2)(hab:arg a=.ins c fs::ds)(hp:Pre a)(hc:(res a).clean=true)(hn:(arg a).length=n:=by rfl)
   (he:AC X e es:=by exact aZ rfl) (hpl:AL X pos es:=by rfl)
   (ht:eval (.Call (.Attribute o m apos) (e::es) [] pos) X.env=(do
     let ov ← eval o X.env
     standAt apos.atName
     let (f,first) ← holding [ov] (getMethod ov m pl)
     callWith pos f first (backTo pos (starEach (e::es) X.env)) (backToKw pos (keywordEach [] X.env))):=by rfl) :
   bO X CL b (.Call (.Attribute o m apos) (e::es) [] pos) δ (res a) δ2:=by
 obtain⟨⟨f,fd,ps,M,G,bd⟩,r,cc⟩:=F;exact aaE a cc M G r bd ho hf h hab hn hp hc he hpl ht
def ZN{pl:Sem Bool}(a:A)(F:Fq X CL c m k n arg Pre res)(ho:dD X CL b o δ (.ins c fs) δ1)(hf:fs.lookup m=none)(hab:arg a=[.ins c fs])(hp:Pre a)(hc:(res a).clean=true)(hn:(arg a).length=n:=by rfl)
   (ht:eval (.Call (.Attribute o m apos) [] [] pos) X.env=(do
     let ov ← eval o X.env
     standAt apos.atName
     let (f,first) ← holding [ov] (getMethod ov m pl)
     callWith pos f first (backTo pos (starEach [] X.env)) (backToKw pos (keywordEach [] X.env))):=by rfl) :
   bO X CL b (.Call (.Attribute o m apos) [] [] pos) δ (res a) δ1:=by
 obtain⟨⟨f,fd,ps,M,G,bd⟩,r,cc⟩:=F;exact VF a cc M G r bd ho (fun q=>q.none hf) hab hn hp hc ht
def agm{z w:Int}(g:Gx X)(nm:Ln X i x)(hx:δ[i]? = some (some (.sh (.int z))))(h:dD X CL b e δ (.int w) δ)(k:cQ X CL b eW (δ.set i (some (.sh (.int (z+w))))) D) :
   cQ X CL b (.AugAssign (.Name x pos') .Add e pos::eW) δ D:=bI fun H Z σ ts vs E S M=>
 om (ae5 g.nd nm.hi nm.loc cP ae6 nm.hf) (by
   obtain⟨v,hv,r⟩:=S.Vk hx;cases r;refine⟨_,hv,h H Z σ ts vs _ S fun v2 H1 Z1 z1 k1 S1 r2=>?_⟩;cases r2;have hl:i<δ.length:=by
     rcases au3 i δ.length with h|h
     . exact h
     . rw[atd h]at hx;cases hx
   exact⟨z,w,rfl,rfl,M.nx _ _ H1 Z1 z1 ((S1.push (.int (z+w))).set hl) k⟩)
theorem aa8{sP:At}(h1:bO X CL b e1 δ (.lst (ds.map T.sh)) δ1)(h2:A7 X CL b e2 δ1 (.lst (sP.map T.sh)) δ2)(hz:ds.length+sP.length<=sizeLine) :
   A7 X CL b (.BinOp e1 .Add e2 pos) δ (.lst ((ds++sP).map T.sh)) δ2:=fun H Z σ ts vs Q S k=>
 bP (Am Pw cP cP) (h1 H Z σ ts vs _ S fun v1 H1 Z1 z1 k1 S1=>h2 H1 Z1 σ _ _ _ S1 fun v2 H2 Z2 z2 S2=>by
   obtain⟨fp,gp,_,r,_,_⟩:=S2.rep;cases r with
   | cons r2 r=>
     cases r with
     | cons r1 _=>
       cases r2 with
       | @lst a2 ZL _ g2 ha2 rs2=>
         cases r1 with
         | @lst a1 us1 _ g1 ha1 rs1=>
           have f1:=(aJ.toF rs1).1;have f2:=(aJ.toF rs2).1;refine⟨_,_,_,_,rfl,rfl,ou.of ha1,ou.of ha2,by rw[← f1.length,← f2.length];exact hz,fun p hp=>?_⟩;have rc:=aB.app f1 f2;obtain⟨c,S4⟩:=(aR.sM rc S2.pop.pop).sJ (g0:=[]) (by simp[rc.length,f1.length,f2.length]) hp;exact k _ _ _ (z1.trans z2) S4)
def agn{t:T}{f:Str}{a:Addr}{gs:B1}{pa pb pc:Pos}(hc:kO X.K (CL c))(n:aI X.K (CL c) f)(nm:Vn X i x)(h:A7 X CL b e δ t δ1)(h1:δ1[i]? = some (some (.pin a (.ins c gs))))(hl:gs.length<1000)
   (k:cQ X CL b eW (δ1.set i (some (.pin a (.ins c (jM f t gs))))) D) (hs:swapsWith e (some (.Attribute (.Name x pa) f pb)) pc.line X.env=pure false:=by rfl) :
   cQ X CL b (.Assign [.Attribute (.Name x pa) f pb] e pc::eW) δ D:=bI fun H Z σ ts vs E S M=>
 om (UZ (gw nm.hi nm.hv nm.hd nm.ko) cP hs) (h H Z σ ts vs _ S fun v H' Z' z S'=>by
   obtain⟨dx,ws,hv,hx,hlen,S2⟩:=S'.setField (f:=f) h1;exact⟨.ref a,hv,a,CL c,dx,ws,rfl,hx,hc,n,by rw[hlen];exact hl,M.nx _ σ _ Z' z S2 k⟩)
end
variable{δ:AR}
theorem wc{p:T}{ds:At}:Keeps (some p::δ) (p::ds.map T.sh):=fun j y t h=>by
 cases j with
 | zero=>cases h;rfl
 | succ j=>
   have h':(ds.map T.sh)[j]? = some (T.pin y t):=h;rw[asi]at h';cases e:ds[j]? with
   | none=>rw[e]at h';cases h'
   | some d=>rw[e]at h';cases h'
section
variable{X:Cx}{b:Bx}{δ1 δ2:AR}{e:Expr}{p:Bool}{pos:Pos}{D:dW}{eW a c:CU}
def TTm(X:Cx)(CL:BC)(b:Bx)(e:Expr)(δ:AR)(p:Bool)(δ':AR):Prop:=
 ∀(H Z:Hp) (σ:L2.St) (ts:Bn) (vs:BN) (Q:EN),aR X.K CL b H Z δ σ ts vs->(∀H' Z',aC Z Z'->aR X.K CL b H' Z' δ' σ ts vs->Q p H')->Vh X e σ H Q
theorem ago(h:TTm X CL b e δ p δ1)(h1:p=true->cQ X CL b a δ1 D)(h2:p=false->cQ X CL b c δ1 D):UD X CL b (.If e a c pos) δ D:=fun H Z σ ts vs E S M=>
 om (adH ptS Mb Mb) (h H Z σ ts vs _ S fun H1 Z1 z1 S1=>by
   cases p with
   | true=>exact RC (h1 rfl H1 Z1 σ ts vs E S1 (M.mono z1))
   | false=>exact RB (h2 rfl H1 Z1 σ ts vs E S1 (M.mono z1)))
def ad9(h:TTm X CL b e δ p δ1)(h1:p=true->cQ X CL b a δ1 {D with nx:=fun δ2=>cQ X CL b eW δ2 D})(h2:p=false->cQ X CL b c δ1 {D with nx:=fun δ2=>cQ X CL b eW δ2 D}):cQ X CL b (.If e a c pos::eW) δ D:=bI (ago h h1 h2)
end
def agp{α:Type}:Nat->(List α->Prop)->Prop
 | 0,P=>P []
 | n+1,P=>∀a,agp n fun r=>P (a::r)
def kG{α:Type}{n:Nat}{P:List α->Prop}(h:agp n P):∀us:List α,us.length=n->P us:=by
 intro us hl
 induction us generalizing n P with
 | nil=>subst hl;exact h
 | cons a r ih=>subst hl;exact ih (P:=fun r=>P (a::r)) (h a) rfl
abbrev oB(K:Frag)(x:Str)(f:Addr):Prop:=nsIn K mainGlobals x=some (some (.ref f))
structure FG(N P G:Ap)(sc:Scope):Prop extends d7 N P sc where
 lc:(N.all fun x=>sc.names.lookup x==some .local)=true
 gb:(G.all fun x=>sc.names.lookup x==some .globalImplicit)=true
def fG{N P G:Ap}{sc:Scope}(h:d7 N P sc:=by exact lZ)(lc:(N.all fun x=>sc.names.lookup x==some .local)=true:=by decide +kernel)(gb:(G.all fun x=>sc.names.lookup x==some .globalImplicit)=true:=by decide +kernel):FG N P G sc:=⟨h,lc,gb⟩
variable{X:Cx}{i:Nat}{x:Str}{N P G:Ap}
def gL(c:FG N P G X.env.scope)(j:Nat)(hj:N[j]? = some x:=by rfl)(hi:X.N[i]? = some x:=by rfl)(hf:X.fn x=true:=by rfl)(hd:AD x:=by decide)(hc:AE x:=by decide):Ln X i x:=mkL hi (eq_of_beq (auf.mp c.lc _ (asu hj))) hf hd hc
def gG(c:FG N P G X.env.scope)(j:Nat)(hj:G[j]? = some x:=by rfl):Gl X x:=eq_of_beq (auf.mp c.gb _ (asu hj))
def agq(P:Program)(w:World)(mg:Bz)(base:Heap){K:Frag}{h:Heap}(CL:BC)(XX:K.In h)(G:h.Ns mainGlobals mg){x qual:Str}{st:Stmt}{f:Addr}{fd:FuncData}{N ps:Ap}(k:Nat){A:Type}(arg:A->At)(Pre:A->Prop)(res:A->T)(F:kr K x qual st f fd)(S:d7 N ps (av st))(m:oB K x f)
   (hb:∀{jc:Value} {Ar:Around} {outer:Db} {s:Shared} {H:Hp} {E:XK} {b:Bx} {a:A},dU k (Ar.deeper (envOfC qual (av st) s.heap.objs.size f jc))->cj (yS pZ P w K mg base N qual (av st) f jc Ar outer s H E).Z9->Pre a →
     cQ (yS pZ P w K mg base N qual (av st) f jc Ar outer s H E).Z9 CL b (dF st) (entry N (arg a)) {nx:=fun _=>res a=.sh .non,rt:=fun t _=>t=res a})
   (q:∀(kV doc pm:Value) (an:ET) (jc ct:Value),agp ps.length fun us=>bindArgs (W.fnOf x qual (xo st) (dF st) (av st) Value.none kV doc pm an jc ct) {pos:=us}=pure (ps.zip us):=by(repeat intro _);rfl) :
   ∃f fd ps',dP P w K mg base pZ (k+1) f fd ps' (GX K CL ps.length arg Pre res)/\mg x=some (.ref f)/\keepIn K (.ref f)=true/\Binds K fd ps' []:=⟨f,fd,ps,uA F S fun _ _ _ _ _ _ _ _ r p=>hb r ⟨⟨S.nd,rfl,.never⟩,r.units⟩ p,atG XX G m,F.kp,F.binds fun a b c d e f=>kG (q a b c d e f)⟩
variable{b:Bx}{δ1 δ2:AR}{e:Expr}{es:CS}{t:T}{d:L3.D}{tl:Bn}
def TAm(X:Cx)(CL:BC)(b:Bx)(es:CS)(δ:AR)(tl:Bn)(δ':AR):Prop:=
 ∀(H Z:Hp) (σ:L2.St) (ts:Bn) (vs:BN) (Q:FA),aR X.K CL b H Z δ σ ts vs →
   (∀us H' Z',us.length=tl.length->aC Z Z'->aR X.K CL b H' Z' δ' σ (tl.reverse++ts) (us.reverse++vs)->Q us H')->RL X es σ H Q
theorem GQ.m(h:GQ X CL b es δ tl δ1):TAm X CL b es δ tl δ1:=fun H Z σ ts vs Q S k=>h H Z σ ts vs Q S fun v H' Z' l z _ S'=>k v H' Z' l z S'
def aa9:TAm X CL b [] δ [] δ:=bK.m
def Wo(h1:A7 X CL b e δ t δ1)(h2:TAm X CL b es δ1 tl δ2)(hs:AC X e es:=by exact aZ rfl):TAm X CL b (e::es) δ (t::tl) δ2:=fun H Z σ ts vs Q S k=>
 GP (bY cP Jz hs) (h1 H Z σ ts vs _ S fun v H1 Z1 z1 S1=>h2 H1 Z1 σ _ _ _ S1 fun us H2 Z2 hl z2 S2=>k (v::us) H2 Z2 (by simp[hl]) (z1.trans z2) (by
   rw[as2,as2,ar7,ar7];exact S2))
def abb(h:A7 X CL b e δ t δ1):A7 X CL b e δ (.sh t.bG) δ1:=fun H Z σ ts vs Q S k=>h H Z σ ts vs Q S fun v H1 Z1 z1 S1=>by
 obtain⟨Z2,z2,S2⟩:=S1.B8;exact k v H1 Z2 (z1.trans z2) S2
def Wq(h:A7 X CL b e δ t δ1)(q:t.bG=d):A7 X CL b e δ (.sh d) δ1:=q▸abb h
namespace Dk
variable{prog:Program}{w:World}{A:Around}{E:BB}{s:Shared}{it d:Addr}{ep:Nat}{es:Array DictEntry}{od:Obj}
def Wr{Q:BB}(hd:(d==sysModules)=false)(ho:s.heap.get? d=some od)(hT:s.TypeIs (.ref d) "dict")(sU:od.data=.dict es ep)
   (hQ:Q (.ref s.heap.objs.size) {s with heap:=s.heap.push {cls:=.type "dict_keyiterator",data:=.fields #[.ref d,.int 0 0,.int es.size 0,.int ep 0]}}):wpAny (model prog w) A (pyIter (.ref d)) Q E s:=by
 refine wpAny_pyIter_slot hT PySem.F.slot_dict_iter (atb PySem.F.slot_dict_iter hT PySem.F.entry_dict_iter ?_ (PySem.F.args_dict_iter_1 _));unfold Builtin.«dict.__iter__» Builtin.Dict.dictSlotNone;refine ar0 (ar0 (auL hT (show wpAny _ _ (pure (Value.ref d)) _ _ s from asd ?_)));show wpAny _ _ (Builtin.Dict.showsAll d >>= _) _ _ s;unfold Builtin.Dict.showsAll;rw[ash (by rw[hd];exact asr)];exact wpAny_bind (wpAny_pure (wpAny_bind (wpAny_dictEntries ho sU (wpAny_bind (wpAny_dictEpoch ho sU (wpAny_bind (wpAny_newObj_type (wpAny_pure ⟨_,rfl,"dict_keyiterator",_,⟨_,Heap.get?_push_size _ rfl,rfl⟩,PySem.F.slot_dict_keyiterator_next.lookup,by simpa [rawInt] using hQ⟩))))))))
def next_item{Q:DA}(hit:s.heap.IsKeyIter it d i es.size ep)(Ws:s.heap.get? d=some od)(Wt:od.data=.dict es ep){e:DictEntry}(hx:es[i]? = some e)
   (hQ:∀h',h'.IsKeyIter it d (i+1) es.size ep->Heap.SameBut it s.heap h'->Q (some e.key) {s with heap:=h'}):wpAny (model prog w) A (pyNext (.ref it)) Q E s:=by
 obtain⟨o,ho,hc,hd⟩:=id hit;have MD:Builtin.Dict_items.ownsTuple "dict_keyiterator" = false:=by decide
 unfold pyNext;refine ar0 (auv (ato (name:=Str.ofString "__next__") hit.typeIs atL (atb atL hit.typeIs PySem.F.entry_dict_keyiterator_next (ar0 (asd ?_)) (PySem.F.args_dict_keyiterator_next_1 _))));refine ar0 (ar0 (ar0 (aud hit.typeIs (asd (ar0 (wpAny_fieldsOf ho hd ?_))))));simp only[MD,at4,at5];show wpAny _ _ (if (Value.ref d==Value.none)=true then _ else _) _ _ s;rw[ash (show ¬ ((Value.ref d==Value.none)=true) from asr)];refine ar0 (asd (ar0 (atm Ws Wt ?_)));rw[ash Uf];refine ar0 (asd (ar0 (auo Ws Wt ?_)));rw[ash Uf];refine asd ?_;obtain⟨m7,he⟩:=aur.mp hx;simp only[show ¬ ((i:Int)<0) from by omega,at5,asT,auZ m7];refine ar0 (ar0 (aud hit.typeIs (asd (ar0 (wpAny_isOneOf_keyiter hit.typeIs ?_)))));show wpAny _ _ (setField (.ref it) 1 (rawInt ((i:Int)+1)) >>= _) _ _ s;have aaO:(s.heap.update it (Obj.mapFields (·.setIfInBounds 1 (rawInt ((i:Int)+1))))).IsKeyIter it d (i+1) es.size ep:=
   ⟨_,atX _ ho (auK (atE hd _)),(Obj.cls_mapFields ..).trans hc,by rw[atE hd];simp[rawInt]⟩
 refine ar0 (aus ho hd Uf (ar0 (atR (ar0 (wpAny_isOneOf_keyiter (s:={s with heap:=s.heap.update it (Obj.mapFields (·.setIfInBounds 1 (rawInt ((i:Int)+1))))}) aaO.typeIs ?_)))));show wpAny _ _ (pure es[i].key) _ _ _;rw[he];exact asd (asd ⟨_,rfl,asd (hQ _ aaO (atB ..))⟩)
def next_end{Q:DA}(hh:A.handled=none)(hit:s.heap.IsKeyIter it d i es.size ep)(Ws:s.heap.get? d=some od)(Wt:od.data=.dict es ep)(hx:es.size<=i)
   (hQ:∀h',Heap.ExtBut it s.heap h'->Q none {s with heap:=h'}):wpAny (model prog w) A (pyNext (.ref it)) Q E s:=by
 obtain⟨o,ho,hc,hd⟩:=id hit;have MD:Builtin.Dict_items.ownsTuple "dict_keyiterator" = false:=by decide
 unfold pyNext;refine ar0 (auv (ato (name:=Str.ofString "__next__") hit.typeIs atL (atb atL hit.typeIs PySem.F.entry_dict_keyiterator_next (ar0 (asd ?_)) (PySem.F.args_dict_keyiterator_next_1 _))));refine ar0 (ar0 (ar0 (aud hit.typeIs (asd (ar0 (wpAny_fieldsOf ho hd ?_))))));simp only[MD,at4,at5];show wpAny _ _ (if (Value.ref d==Value.none)=true then _ else _) _ _ s;rw[ash (show ¬ ((Value.ref d==Value.none)=true) from asr)];refine ar0 (asd (ar0 (atm Ws Wt ?_)));rw[ash Uf];refine ar0 (asd (ar0 (auo Ws Wt ?_)));rw[ash Uf];refine asd ?_;simp only[show ¬ ((i:Int)<0) from by omega,at5,asT,Array.getElem?_eq_none hx];refine ar0 (ar0 (aud hit.typeIs (asd ?_)));show wpAny _ _ (setField (.ref it) 0 .none >>= _) _ _ s;refine ar0 (aus ho hd Uf ?_);show wpAny _ _ (newExc (.type "StopIteration") [] >>= _) _ _ _;refine ar0 ?_;simp only[newExc,newTuple];refine ar0 (atf (ar0 (m:=firstArgMember _ _) (wpAny_of_eq (a:=Value.none) (by first|rfl|(simp only[firstArgMember];rfl)) (atf ?_ (by size_fits)))) (by size_fits));simp only[raiseNew];refine ar0 (wpAny_handled ?_);rw[show A.in1.handled=none from hh];refine ar0 (asd (wpAny_throw ?_));exact ar0 (auQ (T:="StopIteration") (b:=true) ⟨_,asM _ rfl,rfl⟩ isSubtype_stop (asd (hQ _ (((atB ..).extBut.push _).push _))))
end Dk
end L3
namespace L2
open PySem PySem.Spec PyProof.Rows
variable{X:Cx}{pins:BA}{σ:St}{H:Hp}{s:Shared}{a:Addr}{gs:BS}{o:Obj}
theorem Inv.told{u u0:HO}(I:Inv X pins σ H s)(ha:H a=some u0)(hu:eN X.prog X.w (upd H a u) s.heap a u)(ht:∀xs,u0 ≠ .tup xs)(hz:∀ob q,X.H₀ a≠some (.bG ob q))(hb:∀ps,u0 ≠ .tbl ps)(hw:∀y,u0 ≠ .own y)(hc:∀q,u0 ≠ .cod q):Inv X pins σ (upd H a u) s:=by
 have ne:∀b,H b=none->b≠a:=fun b e z=>by rw[z,ha]at e;cases e
 have n1:∀b xs,H b=some (.tup xs)->upd H a u b=some (.tup xs):=fun b xs e=>by
   rw[ak fun z=>by rw[z,ha]at e;cases e;exact ht _ rfl];exact e
 refine⟨I.ok,I.os,I.bare,⟨I.base.keep,I.base.slot,fun b ob e n hx=>?_,I.base.there,fun b xs e=>n1 b xs (I.base.BU b xs e),fun b ob q e=>?_,fun b ps e=>?_⟩,I.loc,I.cell,?_,fun x c e=>?_,fun p hp=>?_,fun b v q=>?_,I.len⟩
 . have:=I.base.free b ob e n hx;rw[ak (ne b this)];exact this
 . rw[ak fun z=>by rw[z]at e;exact hz _ _ e];exact I.base.eU b ob q e
 . obtain⟨more,q⟩:=I.base.BV b ps e;exact⟨more,by rw[ak fun z=>by rw[z,ha]at q;cases q;exact hb _ rfl];exact q⟩
 . rw[ak (ne _ I.free)];exact I.free
 . rw[ak (ne _ (I.lR x c e))];exact I.lR x c e
 . obtain⟨p1,p2,p3⟩:=I.pin p hp;exact⟨p1,by rw[ak (ne _ p2)];exact p2,p3⟩
 . by_cases e:b=a
   . subst e;rw[aD]at q;cases q;exact hu
   . rw[ak e]at q;exact(I.cW b v q).AX (fun _ _ _ e=>e) (fun c z=>by rw[ak fun z2=>by rw[z2,ha]at z;cases z;exact hw _ rfl];exact z) n1 fun c k z=>by rw[ak fun z2=>by rw[z2,ha]at z;cases z;exact hc _ rfl];exact z
theorem Inv.aj7(I:Inv X pins σ H s)(ha:H a=some (.dT gs)):∃o,s.heap.get? a=some o/\(∀ob q,X.H₀ a≠some (.bG ob q))/\Inv X pins σ (upd H a (.bG o (.dT gs))) s:=by
 have hz:∀ob q,X.H₀ a≠some (.bG ob q):=fun ob q e=>by
   have:=I.base.eU a ob q e;rw[ha]at this;cases this
 have k:=(show eN X.prog X.w H s.heap a (.dT gs) from I.cW a _ ha);obtain⟨_,_,_,_,o,es,ep,e,_⟩:=id k;refine⟨o,e,hz,I.told ha ⟨e,?_⟩ (fun _ z=>nomatch z) hz (fun _ z=>nomatch z) (fun _ z=>nomatch z) fun _ z=>nomatch z⟩;exact k.AX (fun _ _ _ e=>e) (fun c z=>by rw[ak fun z2=>by rw[z2,ha]at z;cases z];exact z) (fun c xs z=>by rw[ak fun z2=>by rw[z2,ha]at z;cases z];exact z) fun c k z=>by rw[ak fun z2=>by rw[z2,ha]at z;cases z];exact z
theorem Inv.Ho(I:Inv X pins σ H s)(ha:H a=some (.bG o (.dT gs)))(hz:∀ob q,X.H₀ a≠some (.bG ob q)):Inv X pins σ (upd H a (.dT gs)) s:=by
 obtain⟨_,k⟩:=(show eN X.prog X.w H s.heap a (.bG o (.dT gs)) from I.cW a _ ha);refine I.told ha ?_ (fun _ z=>nomatch z) hz (fun _ z=>nomatch z) (fun _ z=>nomatch z) fun _ z=>nomatch z;exact k.AX (fun _ _ _ e=>e) (fun c z=>by rw[ak fun z2=>by rw[z2,ha]at z;cases z];exact z) (fun c xs z=>by rw[ak fun z2=>by rw[z2,ha]at z;cases z];exact z) fun c k z=>by rw[ak fun z2=>by rw[z2,ha]at z;cases z];exact z
def Itd(a:Addr)(o:Obj)(gs:BS):It:=
 ⟨fun i H=>i<gs.length/\H a=some (.bG o (.dT gs)),fun i H x H'=>H'=H/\∃b k v,x=.ref b/\gs[i]? = some (k,v)/\H b=some (.tup (k.map kV)),fun i H=>gs.length<=i/\H a=some (.bG o (.dT gs))⟩
theorem Paired.nth{α β:Type}{F:α->β->Prop}{l:List α}{m:List β}(r:Paired F l m):∀{i:Nat} {x:α},l[i]? = some x->∃y,m[i]? = some y/\F x y:=by
 induction r with
 | nil=>intro i x e;simp at e
 | cons h _ ih=>
   intro i x e;cases i with
   | zero=>cases e;exact⟨_,rfl,h⟩
   | succ j=>exact ih e
def Wu{P:Program}{w:World}{K:Frag}{tg:Expr}{it:Addr}{es:Array DictEntry}{ep:Nat}(sU:o.data=.dict es ep):Turn P w K tg (Itd a o gs) [it] it (fun i h=>h.IsKeyIter it a i es.size ep) where
 mem:=by simp
 obj:=fun i h st b hb=>by
   have e:b=it:=by simpa using hb
   subst e;obtain⟨ob,e,c,d⟩:=st;exact⟨ob,e,fun v z=>by rw[d]at z;cases z⟩
 keep:=fun i h h' st k=>st.at fun ob e=>k it Uf ob e
 item:=by
   intro X hP hw hK hc i pins s σ H E I hf st hg;subst hP hw hK;obtain⟨m7,ha⟩:=hg;obtain⟨e,z,y,xs,r,o',Uy,ep',e',c,d,hes,nd⟩:=(show eN X.prog X.w H s.heap a (.bG o (.dT gs)) from I.cW a _ ha);rw[e]at e';cases e';rw[sU]at d;cases d;obtain⟨f0,f1,f2,f3,f4,f5⟩:=hf it Uf;obtain⟨q,hq,q1,q2,q3⟩:=Paired.nth r (i:=i) (x:=gs[i]) (ar6 m7);have hx:es[i]? = some (entryOfKey (tupleKind (gj X.prog X.w)) q):=by
     rw[← atY,hes,asi,hq];rfl
   refine L3.Dk.next_item st e sU hx fun h' UR sb=>?_;have I1:Inv X pins σ H {s with heap:=h'}:=I.turned (t':=s.toks) (fun b ob hb e=>(sb.2 b hb).trans e) f0 f1 f3 f4 f5;obtain⟨ob,e2,c2,d2⟩:=id UR;exact⟨_,rfl,OV (s:={s with heap:=h'}) e2 c2 d2 Wp ⟨.ref q.2.1,H,I1,rfl,⟨rfl,q.2.1,gs[i].1,gs[i].2,rfl,ar6 m7,q2⟩,UR,fun b hb=>(hf b hb).1⟩⟩
 done:=by
   intro X hP hw hK hc i pins s σ H E I hf st hg;subst hP hw hK;obtain⟨hge,ha⟩:=hg;obtain⟨e,z,y,xs,r,o',Uy,ep',e',c,d,hes,nd⟩:=(show eN X.prog X.w H s.heap a (.bG o (.dT gs)) from I.cW a _ ha);rw[e]at e';cases e';rw[sU]at d;cases d;obtain⟨f0,f1,f2,f3,f4,f5⟩:=hf it Uf;have hl:=atQ r;have hsz:es.size=xs.length:=by rw[← aue,hes,ar3]
   exact L3.Dk.next_end (I.ok.hd hc) st e sU We fun h' eb=>⟨rfl,I.turned (t':=s.toks) (fun b ob hb e=>eb b ob hb e) f0 f1 f3 f4 f5⟩
 self:=fun _ _ _ _ _ st h=>wpAny_pyIter_keyiter st h
end L2
namespace L3
open PySem PySem.Spec PyProof.Rows L2
def Conv(Z Z':Hp):Prop:=∀c o,Z c=some o->Z' c=some o\/(∃gs ob,o=.dT gs/\Z' c=some (.bG ob (.dT gs)))\/∃gs ob,o=.bG ob (.dT gs)/\Z' c=some (.dT gs)
variable{K:Frag}{CL:BC}{Z Z':Hp}{a:Addr}
theorem Conv.keep{o:HO}(e:Conv Z Z')(h:Z a=some o)(h1:∀gs,o ≠ .dT gs)(h2:∀gs ob,o ≠ .bG ob (.dT gs)):Z' a=some o:=by
 rcases e a o h with q|⟨gs,ob,q,_⟩|⟨gs,ob,q,_⟩
 . exact q
 . exact absurd q (h1 gs)
 . exact absurd q (h2 gs ob)
theorem Conv.A4{xs:BN}(e:Conv Z Z')(h:se K Z a xs):se K Z' a xs:=by
 rcases h with(h|⟨o,h⟩)|h
 . exact .inl (.inl (e.keep h (fun _ z=>nomatch z) fun _ _ z=>nomatch z))
 . exact .inl (.inr ⟨o,e.keep h (fun _ z=>nomatch z) fun _ _ z=>nomatch z⟩)
 . exact .inr h
theorem Conv.sqL{xs:BN}(e:Conv Z Z')(h:ou K Z a xs):ou K Z' a xs:=by
 rcases h with(h|⟨o,h⟩)|h
 . exact .inl (.inl (e.keep h (fun _ z=>nomatch z) fun _ _ z=>nomatch z))
 . exact .inl (.inr ⟨o,e.keep h (fun _ z=>nomatch z) fun _ _ z=>nomatch z⟩)
 . exact .inr h
theorem Conv.rd{gs:BS}(e:Conv Z Z')(h:Rd Z a (.dT gs)):Rd Z' a (.dT gs):=by
 rcases h with h|⟨o,h⟩
 . rcases e a _ h with q|⟨g,ob,q,z⟩|⟨g,ob,q,z⟩
   . exact .inl q
   . cases q;exact .inr ⟨ob,z⟩
   . cases q
 . rcases e a _ h with q|⟨g,ob,q,z⟩|⟨g,ob,q,z⟩
   . exact .inr ⟨o,q⟩
   . cases q
   . cases q;exact .inl z
variable{v:V}
theorem bq.conv(e:Conv Z Z'){d:D}(h:bq K CL Z d v):bq K CL Z' d v:=
 bq.rec (motive_1:=fun d v _=>bq K CL Z' d v) (motive_2:=fun d v _=>aB K CL Z' d v) (motive_3:=fun d v _=>ic K CL Z' d v) (motive_4:=fun d v _=>cI K CL Z' d v) (motive_5:=fun d v _=>cA K CL Z' d v)
   .non .bl .int .str .any .val (fun h _ r=>.tup (e.A4 h) r) (fun h _ r=>.lst (e.sqL h) r) (fun h _ r=>.ins (e.keep h (fun _ z=>nomatch z) fun _ _ z=>nomatch z) r) (fun h _ r=>.uz (e.keep h (fun _ z=>nomatch z) fun _ _ z=>nomatch z) r) (fun h _ r=>.dct (e.rd h) r) (fun h _ _ r q=>.lz (e.keep h (fun _ z=>nomatch z) fun _ _ z=>nomatch z) r q) .nil (fun _ _ h r=>.cons h r) .nil (fun _ _ h r=>.cons h r) .nil (fun _ _ h r=>.cons h r) .nil (fun _ _ h r=>.cons h r) h
theorem cI.conv(e:Conv Z Z'){d:Cl}{v:Cf}(h:cI K CL Z d v):cI K CL Z' d v:=
 cI.rec (motive_1:=fun d v _=>bq K CL Z' d v) (motive_2:=fun d v _=>aB K CL Z' d v) (motive_3:=fun d v _=>ic K CL Z' d v) (motive_4:=fun d v _=>cI K CL Z' d v) (motive_5:=fun d v _=>cA K CL Z' d v)
   .non .bl .int .str .any .val (fun h _ r=>.tup (e.A4 h) r) (fun h _ r=>.lst (e.sqL h) r) (fun h _ r=>.ins (e.keep h (fun _ z=>nomatch z) fun _ _ z=>nomatch z) r) (fun h _ r=>.uz (e.keep h (fun _ z=>nomatch z) fun _ _ z=>nomatch z) r) (fun h _ r=>.dct (e.rd h) r) (fun h _ _ r q=>.lz (e.keep h (fun _ z=>nomatch z) fun _ _ z=>nomatch z) r q) .nil (fun _ _ h r=>.cons h r) .nil (fun _ _ h r=>.cons h r) .nil (fun _ _ h r=>.cons h r) .nil (fun _ _ h r=>.cons h r) h
theorem aB.conv(e:Conv Z Z'){d:At}{v:BN}(h:aB K CL Z d v):aB K CL Z' d v:=
 aB.rec (motive_1:=fun d v _=>bq K CL Z' d v) (motive_2:=fun d v _=>aB K CL Z' d v) (motive_3:=fun d v _=>ic K CL Z' d v) (motive_4:=fun d v _=>cI K CL Z' d v) (motive_5:=fun d v _=>cA K CL Z' d v)
   .non .bl .int .str .any .val (fun h _ r=>.tup (e.A4 h) r) (fun h _ r=>.lst (e.sqL h) r) (fun h _ r=>.ins (e.keep h (fun _ z=>nomatch z) fun _ _ z=>nomatch z) r) (fun h _ r=>.uz (e.keep h (fun _ z=>nomatch z) fun _ _ z=>nomatch z) r) (fun h _ r=>.dct (e.rd h) r) (fun h _ _ r q=>.lz (e.keep h (fun _ z=>nomatch z) fun _ _ z=>nomatch z) r q) .nil (fun _ _ h r=>.cons h r) .nil (fun _ _ h r=>.cons h r) .nil (fun _ _ h r=>.cons h r) .nil (fun _ _ h r=>.cons h r) h
variable{H:Hp}{t:T}{fp:BM}
theorem bz.conv{H':Hp}(e:Conv Z Z')(k:∀a∈fp,H' a=H a)(h:bz K CL H Z t v fp):bz K CL H' Z' t v fp:=
 bz.rec (motive_1:=fun t v fp _=>(∀a∈fp,H' a=H a)->bz K CL H' Z' t v fp) (motive_2:=fun t v fp _=>(∀a∈fp,H' a=H a)->aJ K CL H' Z' t v fp) (motive_3:=fun t v fp _=>(∀a∈fp,H' a=H a)->dH K CL H' Z' t v fp) (motive_4:=fun t v fp _=>(∀a∈fp,H' a=H a)->cO K CL H' Z' t v fp)
   (fun h _=>.sh (h.conv e)) (fun h _ r k=>.tup (e.keep h (fun _ z=>nomatch z) fun _ _ z=>nomatch z) (r k)) (fun h _ r k=>.lst ((k _ ar4).trans h) (r fun a ha=>k a (ar9 _ ha))) (fun h _ r k=>.ins ((k _ ar4).trans h) (r fun a ha=>k a (ar9 _ ha))) (fun h f k=>.uz ((k _ ar4).trans h) (cI.conv e f)) (fun h _ r k=>.dct ((k _ ar4).trans h) (r fun a ha=>k a (ar9 _ ha))) (fun _ r k=>.pin (r k)) (fun h f g k=>.lz ((k _ ar4).trans h) (aB.conv e f) (aB.conv e g)) (fun _=>.nil) (fun _ _ h r k=>.cons (h fun a ha=>k a (ase _ ha)) (r fun a ha=>k a (ar5 _ ha))) (fun _=>.nil) (fun _ _ h r k=>.cons (h fun a ha=>k a (ase _ ha)) (r fun a ha=>k a (ar5 _ ha))) (fun _=>.nil) (fun _ _ h r k=>.cons (h fun a ha=>k a (ase _ ha)) (r fun a ha=>k a (ar5 _ ha))) h k
theorem aJ.conv{H':Hp}(e:Conv Z Z'){t:Bn}{v:BN}(k:∀a∈fp,H' a=H a)(h:aJ K CL H Z t v fp):aJ K CL H' Z' t v fp:=
 aJ.rec (motive_1:=fun t v fp _=>(∀a∈fp,H' a=H a)->bz K CL H' Z' t v fp) (motive_2:=fun t v fp _=>(∀a∈fp,H' a=H a)->aJ K CL H' Z' t v fp) (motive_3:=fun t v fp _=>(∀a∈fp,H' a=H a)->dH K CL H' Z' t v fp) (motive_4:=fun t v fp _=>(∀a∈fp,H' a=H a)->cO K CL H' Z' t v fp)
   (fun h _=>.sh (h.conv e)) (fun h _ r k=>.tup (e.keep h (fun _ z=>nomatch z) fun _ _ z=>nomatch z) (r k)) (fun h _ r k=>.lst ((k _ ar4).trans h) (r fun a ha=>k a (ar9 _ ha))) (fun h _ r k=>.ins ((k _ ar4).trans h) (r fun a ha=>k a (ar9 _ ha))) (fun h f k=>.uz ((k _ ar4).trans h) (cI.conv e f)) (fun h _ r k=>.dct ((k _ ar4).trans h) (r fun a ha=>k a (ar9 _ ha))) (fun _ r k=>.pin (r k)) (fun h f g k=>.lz ((k _ ar4).trans h) (aB.conv e f) (aB.conv e g)) (fun _=>.nil) (fun _ _ h r k=>.cons (h fun a ha=>k a (ase _ ha)) (r fun a ha=>k a (ar5 _ ha))) (fun _=>.nil) (fun _ _ h r k=>.cons (h fun a ha=>k a (ase _ ha)) (r fun a ha=>k a (ar5 _ ha))) (fun _=>.nil) (fun _ _ h r k=>.cons (h fun a ha=>k a (ase _ ha)) (r fun a ha=>k a (ar5 _ ha))) h k
variable{δ:AR}{σ:L2.St}
theorem eV.conv{H':Hp}(e:Conv Z Z')(k:∀a∈fp,H' a=H a)(r:eV K CL H Z δ σ fp):eV K CL H' Z' δ σ fp:=by
 induction r with
 | nil=>exact .nil
 | skip _ ih=>exact .skip (ih k)
 | cons r _ ih=>exact .cons (r.conv e fun a ha=>k a (ase _ ha)) (ih fun a ha=>k a (ar5 _ ha))
def anI(X:Cx)(te:TE):TI:=fun σ H R=>te σ H fun x H1=>∃a gs,x=.ref a/\((H1 a=some (.dT gs)/\∀o,(∀ob q,X.H₀ a≠some (.bG ob q))->R (Itd a o gs) (upd H1 a (.bG o (.dT gs))))\/∃o,H1 a=some (.bG o (.dT gs))/\R (Itd a o gs) H1)
variable{X:Cx}{e:Expr}
def agr{tg:Expr}{te:TE}(he:PE X e te):PI X tg e (anI X te):=by
 intro pins s σ H R I h;refine fX (he pins s σ H _ I h) fun v s1 zz=>?_;obtain⟨x,H1,I1,r1,a,gs,ex,q⟩:=zz;subst ex;cases r1;have main:∀(H2:Hp) (o:Obj),L2.Inv X pins σ H2 s1->H2 a=some (.bG o (.dT gs))->R (Itd a o gs) H2->wpAny (model X.prog X.w) X.A (pyIter (.ref a)) (PIE X pins σ tg R) X.xe s1:=fun H2 o I2 ha hR=>by
   obtain⟨e,z,y,xs,r,o',es,ep,e',c,d,hes,nd⟩:=(show eN X.prog X.w H2 s1.heap a (.bG o (.dT gs)) from I2.cW a _ ha);rw[e]at e';cases e';obtain⟨_,_,_,_,dd⟩:=Av I2.cW (.inr ⟨o,ha⟩);refine Dk.Wr y e dd.typeIs d ?_;refine⟨s1.heap.objs.size,[s1.heap.objs.size],_,_,H2,rfl,I2.kept (t':=s1.toks) fun b ob e=>asv _ e,Wu d,⟨_,asM _ rfl,rfl,rfl⟩,fun b hb=>?_,hR⟩;have e:b=s1.heap.objs.size:=by simpa using hb
   subst e;exact I2.Eh (asp _) (I2.cW.fresh (asp _))
 rcases q with⟨ha,q⟩|⟨o,ha,q⟩
 . obtain⟨o,e,hz,I2⟩:=I1.aj7 ha;exact main _ o I2 aD (q o hz)
 . exact main _ o I1 ha q
def ags(X:Cx)(E:Ends):Ends:=
 { nx:=fun σ H=>E.nx σ H\/∃a o gs,H a=some (.bG o (.dT gs))/\(∀ob q,X.H₀ a≠some (.bG ob q))/\E.nx σ (upd H a (.dT gs))
   rt:=fun v H=>E.rt v H\/∃a o gs,H a=some (.bG o (.dT gs))/\(∀ob q,X.H₀ a≠some (.bG ob q))/\E.rt v (upd H a (.dT gs))
   bk:=E.bk
   ct:=E.ct}
theorem FP{st:Stmt}{E:Ends}(h:RM X st (ags X E) σ H):RM X st E σ H:=fun pins s I=>by
 refine atc (h pins s I) (fun f s' z=>?_) fun _ _ z=>z;cases f with
 | next=>
   obtain⟨σ',H',I',q⟩:=z;rcases q with q|⟨a,o,gs,ha,hz,q⟩
   . exact⟨σ',H',I',q⟩
   . exact⟨σ',_,I'.Ho ha hz,q⟩
 | ret u=>
   obtain⟨v,σ',H',I',r,q⟩:=z;rcases q with q|⟨a,o,gs,ha,hz,q⟩
   . exact⟨v,σ',H',I',r,q⟩
   . exact⟨v,σ',_,I'.Ho ha hz,r,q⟩
 | brk=>exact z
 | cont=>exact z
def sV(b:Bx)(a:Addr)(F:HO):Bx:=⟨fun c=>if c=a/\(b.B a).isSome=true then some F else b.B c,fun c=>if c=a/\(b.Z a).isSome=true then some F else b.Z c⟩
variable{b:Bx}{ts:Bn}{vs:BN}{gs:BS}{o:Obj}
def fC{F:HO}{c:Addr}(h:c≠a):(sV b a F).B c=b.B c/\(sV b a F).Z c=b.Z c:=⟨ash fun z=>h z.1,ash fun z=>h z.1⟩
theorem aR.still(S:aR K CL b H Z δ σ ts vs)(ha:Z a=some (.dT gs))(o:Obj):aR K CL (sV b a (.bG o (.dT gs))) (upd H a (.bG o (.dT gs))) (upd Z a (.bG o (.dT gs))) δ σ ts vs:=by
 have cv:Conv Z (upd Z a (.bG o (.dT gs))):=fun c u q=>by
   by_cases e:c=a
   . subst e;rw[ha]at q;cases q;exact .inr (.inl ⟨gs,o,rfl,aD⟩)
   . exact .inl (by rw[ak e];exact q)
 obtain⟨fp,gp,e,r,nd,k⟩:=S.rep;have ne:∀c∈fp++gp,c≠a:=fun c hc z=>by
   have:=(k c hc).1;rw[z,ha]at this;cases this
 have hH:=S.zh a _ ha;refine⟨⟨fp,gp,e.conv cv fun c hc=>ak (ne c (ase _ hc)),r.conv cv fun c hc=>ak (ne c (ar5 _ hc)),nd,fun c hc=>⟨by rw[ak (ne c hc)];exact(k c hc).1,by rw[(fC (ne c hc)).1];exact(k c hc).2⟩⟩,fun c u q=>?_,fun c u q=>?_,fun c u q=>?_,fun c u q z=>?_,fun c u q im=>?_,fun x hx h0=>?_⟩
 . by_cases e:c=a
   . subst e;rw[aD];have q:(if c=c/\(b.B c).isSome=true then some _ else b.B c)=some u:=q;by_cases hs:(b.B c).isSome=true
     . rw[ass ⟨rfl,hs⟩]at q;exact q
     . rw[ash fun z=>hs z.2]at q;rw[q]at hs;exact absurd rfl hs
   . rw[(fC e).1]at q;rw[ak e];exact S.bh c u q
 . by_cases e:c=a
   . subst e;rw[aD];have q:(if c=c/\(b.Z c).isSome=true then some _ else b.Z c)=some u:=q;by_cases hs:(b.Z c).isSome=true
     . rw[ass ⟨rfl,hs⟩]at q;exact q
     . rw[ash fun z=>hs z.2]at q;rw[q]at hs;exact absurd rfl hs
   . rw[(fC e).2]at q;rw[ak e];exact S.zz c u q
 . by_cases e:c=a
   . subst e;rw[aD]at q ⊢;exact q
   . rw[ak e]at q ⊢;exact S.zh c u q
 . by_cases e:c=a
   . subst e;have z:(if c=c/\(b.Z c).isSome=true then some _ else b.Z c)=none:=z;have hz:b.Z c=none:=by
       by_cases hs:(b.Z c).isSome=true
       . rw[ass ⟨rfl,hs⟩]at z;cases z
       . rw[ash fun z=>hs z.2]at z;exact z
     have hB:=S.new c _ ha hz;show(if c=c/\(b.B c).isSome=true then some _ else b.B c)=none;rw[ash fun z=>by rw[hB]at z;exact absurd z.2 Wp];exact hB
   . rw[ak e]at q;rw[(fC e).2]at z;rw[(fC e).1];exact S.new c u q z
 . by_cases e:c=a
   . subst e;rw[aD]at q ⊢;exact q
   . rw[ak e]at q ⊢;exact S.tp c u q im
 . have q:=S.tab x hx h0;have e:CL x≠a:=fun z=>by
     have:=S.zz _ _ q;rw[z,ha]at this;cases this
   rw[(fC e).2];exact q
theorem aR.Ho(S:aR K CL (sV b a (.bG o (.dT gs))) H Z δ σ ts vs)(ha:Z a=some (.bG o (.dT gs)))(h1:∀u,b.B a=some u->u=.dT gs)(h2:∀u,b.Z a=some u->u=.dT gs)(h3:b.Z a=none->b.B a=none):aR K CL b (upd H a (.dT gs)) (upd Z a (.dT gs)) δ σ ts vs:=by
 have cv:Conv Z (upd Z a (.dT gs)):=fun c u q=>by
   by_cases e:c=a
   . subst e;rw[ha]at q;cases q;exact .inr (.inr ⟨gs,o,rfl,aD⟩)
   . exact .inl (by rw[ak e];exact q)
 obtain⟨fp,gp,e,r,nd,k⟩:=S.rep;have ne:∀c∈fp++gp,c≠a:=fun c hc z=>by
   have:=(k c hc).1;rw[z,ha]at this;cases this
 refine⟨⟨fp,gp,e.conv cv fun c hc=>ak (ne c (ase _ hc)),r.conv cv fun c hc=>ak (ne c (ar5 _ hc)),nd,fun c hc=>⟨by rw[ak (ne c hc)];exact(k c hc).1,by rw[← (fC (F:=.bG o (.dT gs)) (ne c hc)).1];exact(k c hc).2⟩⟩,fun c u q=>?_,fun c u q=>?_,fun c u q=>?_,fun c u q z=>?_,fun c u q im=>?_,fun x hx h0=>?_⟩
 . by_cases e:c=a
   . subst e;rw[aD,h1 u q]
   . rw[ak e];exact S.bh c u (by rw[(fC e).1];exact q)
 . by_cases e:c=a
   . subst e;rw[aD,h2 u q]
   . rw[ak e];exact S.zz c u (by rw[(fC e).2];exact q)
 . by_cases e:c=a
   . subst e;rw[aD]at q ⊢;exact q
   . rw[ak e]at q ⊢;exact S.zh c u q
 . by_cases e:c=a
   . subst e;exact h3 z
   . rw[ak e]at q;have:=S.new c u q (by rw[(fC e).2];exact z)
     rwa [(fC e).1]at this
 . by_cases e:c=a
   . subst e;rw[aD]at q;cases q;cases im
   . rw[ak e]at q ⊢;exact S.tp c u q im
 . have q:=S.tab x hx h0;have e:CL x≠a:=fun z=>by
     have:=S.zz _ _ q;rw[z,ha]at this;cases this
   rwa [(fC e).2]at q
theorem aR.PF(S:aR K CL b H Z δ σ ts vs)(r:bz K CL H Z t v []):aR K CL b H Z δ σ (t::ts) (v::vs):=by
 obtain⟨fp,gp,e,q,nd,k⟩:=S.rep;exact⟨⟨fp,[]++gp,e,.cons r q,nd,k⟩,S.bh,S.zz,S.zh,S.new,S.tp,S.tab⟩
section
variable{δ1:AR}{D:dW}{pos pos':Pos}{x:Str}{i:Nat}{eW body:CU}{kvs:List (CO×L3.D)}
def abf(g:Gx X)(nm:Ln X i x)(P:Ev)(h:bO X CL b e δ (.sh (.dct kvs)) δ1)(h0:P 0 δ1)(hl:∀j δ,P j δ->i<δ.length)
   (hs:∀(b':Bx) (j:Nat) (k:CO) (d:L3.D) δ,kvs[j]? = some (k,d)->P j δ->cQ X CL b' body (δ.set i (some (jD k))) {nx:=P (j+1),rt:=D.rt,bk:=fun δ2=>cQ X CL b eW δ2 D,ct:=P (j+1)}) (hd:∀δ,P kvs.length δ->cQ X CL b eW δ D)
   (hq:AN X e:=by intro _;rfl):cQ X CL b (.For (.Name x pos') e body [] pos::eW) δ D:=bI fun H Z σ ts vs E S M=>
 FP (om (GA g.xe g.calm (agr cP) (oz g.nd nm.hi nm.loc nm.hf) Mb hq) (h H Z σ ts vs _ S fun v H1 Z1 z1 k1 S1=>by
   have r:=S1.v8;cases r with
   | @dct a gs _ ha rr=>
     have Kq:kvs.length=gs.length:=rr.length;have A1:∀(j:Nat) (k:CO) (v:V),gs[j]? = some (k,v)->∃d,kvs[j]? = some (k,d):=fun j k v hj=>by
       have e1:=congrArg (·[j]?) rr.keys;simp only[asi,hj]at e1;obtain⟨p,hp,e2⟩:=asF.mp e1;have e2:p.1=k:=e2;exact⟨p.2,by rw[hp,← e2]⟩
     have abg:∀{Z2 H2:Hp} {kb:Addr} {k:CO},(∀a o,H2 a=some o->ku o=true->Z2 a=some o)->H2 kb=some (.tup (k.map kV))->bz X.K CL H2 Z2 (jD k) (.ref kb) []:=fun tp hk=>.tup (tp _ _ hk rfl) (aJ.ofF (Cq _));rcases ha with ha|⟨o,ha⟩
     . have hH:=S1.zh a _ ha;refine⟨a,gs,rfl,.inl ⟨hH,fun o hz=>?_⟩⟩;have S2:=S1.pop.still ha o;have t1:∀u,b.B a=some u->u=.dT gs:=fun u q=>by
         have:=S1.bh a u q;rw[hH]at this;exact(asE this).symm
       have t2:∀u,b.Z a=some u->u=.dT gs:=fun u q=>by
         have:=S1.zz a u q;rw[ha]at this;exact(asE this).symm
       have t3:b.Z a=none->b.B a=none:=S1.new a _ ha;have back:∀{Z2:Hp},aC (upd Z1 a (.bG o (.dT gs))) Z2->aC Z (upd Z2 a (.dT gs)):=fun {Z2} s c u q=>by
         have q1:=z1 c u q;by_cases e:c=a
         . subst e;rw[ha]at q1;cases q1;exact aD
         . rw[ak e];exact s c u (by rw[ak e];exact q1)
       refine⟨fun j m σ H2=>m=gs.length-j/\j<=gs.length/\∃Z2 δ2,aC (upd Z1 a (.bG o (.dT gs))) Z2/\aR X.K CL (sV b a (.bG o (.dT gs))) H2 Z2 δ2 σ ts vs/\P j δ2,⟨_,rfl,asU _,_,δ1,.refl _,S2,h0⟩,?_⟩;rintro j m σ2 H2 ⟨rfl,hj,Z2,δ2,s,S3,p2⟩;have za:Z2 a=some (.bG o (.dT gs)):=s a _ aD;by_cases m7:j<gs.length
       . refine .inr ⟨⟨m7,S3.zh a _ za⟩,fun σ' H'=>∃Z2 δ2,aC (upd Z1 a (.bG o (.dT gs))) Z2/\aR X.K CL (sV b a (.bG o (.dT gs))) H' Z2 δ2 σ' ts vs/\P (j+1) δ2,fun σ' H' h=>⟨gs.length-(j+1),We,rfl,m7,h⟩,fun y H' hy=>?_⟩;obtain⟨rfl,kb,k,v,rfl,hg,hk⟩:=hy;obtain⟨d,Gu⟩:=A1 j k v hg;have S4:=(S3.PF (abg S3.tp hk)).set (hl j δ2 p2);exact hs _ j k d δ2 Gu p2 _ Z2 _ ts vs _ S4 ⟨fun δ' σ' H' Z' s' S' k=>⟨Z',δ',s.trans s',S',k⟩,fun t v H' Z' δ' σ' s' S' k=>.inr ⟨a,o,gs,S'.zh a _ (s' a _ za),hz,M.rt t v _ _ δ' σ' (back (s.trans s')) (S'.Ho (s' a _ za) t1 t2 t3) k⟩,fun δ' σ' H' Z' s' S' k=>.inr ⟨a,o,gs,S'.zh a _ (s' a _ za),hz,M.nx δ' σ' _ _ (back (s.trans s')) (S'.Ho (s' a _ za) t1 t2 t3) k⟩,fun δ' σ' H' Z' s' S' k=>⟨Z',δ',s.trans s',S',k⟩⟩
       . have ej:j=gs.length:=by omega
         subst ej;exact .inl ⟨⟨asp _,S3.zh a _ za⟩,.inr ⟨a,o,gs,S3.zh a _ za,hz,M.nx δ2 σ2 _ _ (back s) (S3.Ho za t1 t2 t3) (hd δ2 (Kq▸p2))⟩⟩
     . refine⟨a,gs,rfl,.inr ⟨o,S1.zh a _ ha,?_⟩⟩;refine⟨fun j m σ H2=>m=gs.length-j/\j<=gs.length/\∃Z2 δ2,aC Z1 Z2/\aR X.K CL b H2 Z2 δ2 σ ts vs/\P j δ2,⟨_,rfl,asU _,_,δ1,.refl _,S1.pop,h0⟩,?_⟩;rintro j m σ2 H2 ⟨rfl,hj,Z2,δ2,s,S3,p2⟩;have za:Z2 a=some (.bG o (.dT gs)):=s a _ ha;by_cases m7:j<gs.length
       . refine .inr ⟨⟨m7,S3.zh a _ za⟩,fun σ' H'=>∃Z2 δ2,aC Z1 Z2/\aR X.K CL b H' Z2 δ2 σ' ts vs/\P (j+1) δ2,fun σ' H' h=>⟨gs.length-(j+1),We,rfl,m7,h⟩,fun y H' hy=>?_⟩;obtain⟨rfl,kb,k,v,rfl,hg,hk⟩:=hy;obtain⟨d,Gu⟩:=A1 j k v hg;have S4:=(S3.PF (abg S3.tp hk)).set (hl j δ2 p2);exact hs _ j k d δ2 Gu p2 _ Z2 _ ts vs _ S4 ⟨fun δ' σ' H' Z' s' S' k=>⟨Z',δ',s.trans s',S',k⟩,fun t v H' Z' δ' σ' s' S' k=>.inl (M.rt t v _ _ δ' σ' (z1.trans (s.trans s')) S' k),fun δ' σ' H' Z' s' S' k=>.inl (M.nx δ' σ' _ _ (z1.trans (s.trans s')) S' k),fun δ' σ' H' Z' s' S' k=>⟨Z',δ',s.trans s',S',k⟩⟩
       . have ej:j=gs.length:=by omega
         subst ej;exact .inl ⟨⟨asp _,S3.zh a _ za⟩,.inl (M.nx δ2 σ2 _ _ (z1.trans s) S3 (hd δ2 (Kq▸p2)))⟩))
def Hq{ks:CO}(n:Vn X i x)(h:δ[i]? = some (some (jD ks))):bO X CL b (.Name x pos) δ (jD ks) δ:=fun H Z σ ts vs Q S k=>by
 obtain⟨fp,gp,e,q,nd,kk⟩:=S.rep;obtain⟨v,f1,f2,f3,hv,oq,rt,_,_⟩:=e.get h;have h2:f2=[]:=by
   cases rt with
   | tup hz rr=>exact(aJ.toF rr).2
 subst h2;exact bP (gw n.hi n.hv n.hd n.ko) ⟨v,hv,k v H Z (.refl _) (.refl _) (S.PF rt)⟩
end
variable{t0:T}{v0 w:V}{i:Nat}{p:List AF}{kvs:CI}{k:CO}
theorem cO.fresh(rs:cO K CL H Z kvs gs fp)(hk:k∉kvs.map (·.1))(v:V):putK gs k v=gs++[(k,v)]:=by
 refine Vc v ?_;cases hx:m5 gs k with
 | none=>rfl
 | some z=>
   exfalso;refine hk ?_;rw[rs.keys];unfold m5 at hx;obtain⟨q,hf,_⟩:=asF.mp hx;have h0:=List.find?_some hf;have h1:q.1=k:=asB h0;rw[← h1];exact List.mem_map_of_mem (auY hf)
theorem aR.abh(S:aR K CL b H Z δ σ (t::ts) (v::vs))(ev:σ[i]? = some (some v0))(hi:δ[i]? = some (some t0))(hp:T.lM p t0=some (.dct kvs))(uE:Bp H v0 p w)(hk:k∉kvs.map (·.1)) :
   ∃a gs,w=.ref a/\H a=some (.dT gs)/\gs.length=kvs.length/\aR K CL b (upd H a (.dT (putK gs k v))) Z (δ.set i (some (T.ni p (.dct (kvs++[(k,t)])) t0))) σ ts vs:=by
 obtain⟨f2,gp,ru,rr,nd,go⟩:=S.Cv ev hi hp uE;cases ru with
 | @dct a gs _ g ha rs=>
   cases rr with
   | @cons _ _ _ _ ft gr q1 q2=>
     have ne:∀c∈g++(ft++gr),c≠a:=fun c hc z=>by subst z;exact(as6.mp nd).1 hc
     have pm:((a::(g++(ft++[])))++gr).Perm ((a::g)++(ft++gr)):=atP.mpr fun c=>by simp only[auc,List.count_cons,List.count_nil];omega
     refine⟨a,gs,rfl,ha,rs.length.symm,?_⟩;rw[rs.fresh hk];exact go rfl ar4 rfl (.dct aD (cO.snoc (rs.mono (.refl _) fun c hc=>ak (ne c (by simp[hc]))) (q1.mono (.refl _) fun c hc=>ak (ne c (by simp[hc])))))
       (q2.mono (.refl _) fun c hc=>ak (ne c (by simp[hc]))) (pm.nodup_iff.mpr nd) fun c hc=>pm.mem_iff.mp hc
section
variable{δ1:AR}{e0 e2:Expr}{t1:T}{D:dW}{pos ps:Pos}{eW:CU}
def abi(k:CO)(hu:X.A.units+64<cLine)(h:bO X CL b e δ t δ1)(hE:UI X CL b e0 δ1 i p)(h2:bO X CL b e2 δ1 (jD k) δ1)(h1:δ1[i]? = some (some t1))(hp1:T.lM p t1=some (.dct kvs))(hk:k∉kvs.map (·.1))(hl:kvs.length<=1000000)(kk:cQ X CL b eW (δ1.set i (some (T.ni p (.dct (kvs++[(k,t)])) t1))) D)
   (hs:swapsWith e (some (.Subscript e0 e2 ps)) pos.line X.env=pure false:=by rfl):cQ X CL b (.Assign [.Subscript e0 e2 ps] e pos::eW) δ D:=bI fun H Z σ ts vs E S M=>
 om (Pg We cP cP cP hs) (h H Z σ ts vs _ S fun v H1 Z1 z1 k1 S1=>hE H1 Z1 σ _ _ _ S1 fun v0 w H2 Z2 z2 k2 S2 ev uE=>h2 H2 Z2 σ _ _ _ S2 fun v2 H3 Z3 z3 k3 S3=>by
   obtain⟨kb,rfl,hb⟩:=S3.Hf;obtain⟨a,gs,ea,ha,hg,S4⟩:=S3.pop.abh ev h1 hp1 (uE.mono k3) hk;exact⟨a,_,ea,RG.t ha hb (by rw[hg];exact atZ hl (by rw[asD];decide)),M.nx _ σ _ Z3 (z1.trans (z2.trans z3)) S4 kk⟩)
end
section
variable{δ1:AR}{D:dW}{pos pp:Pos}
def zj{ds:At}(hm:X.mg "tuple" = none)(h:bO X CL b e δ (.sh (.tup ds)) δ1)(hg:Gl X "tuple")(hs:AC X e []:=by exact aZ rfl):bO X CL b (.Call (.Name "tuple" pp) [e] [] pos) δ (.sh (.tup ds)) δ1:=fun H Z σ ts vs Q S k=>
 bP (jB vz hg hm Ax (bY cP dZ hs) (he:=hs)) (h H Z σ ts vs _ S fun v H1 Z1 z1 k1 S1=>by
   have r:=S1.v8;cases r with
   | tup hq rr=>exact⟨_,_,rfl,.inr ⟨aC.A4 S1.zh hq,k _ H1 Z1 z1 k1 S1⟩⟩)
end
end L3
namespace L2
open PySem PySem.Spec PyProof.Rows
section
variable{prog:Program}{w:World}{K:Type}{A:Around}{E:BB}{s:Shared}[DecidableEq K]{knd:HeapKind prog w K}
def agt{nm:String}{a b:Addr}{xa xb:List (K×Addr×Value)}{Q:Bool->Shared->Prop}(ha:(a==sysModules)=false)(hb:(b==sysModules)=false)(da:s.heap.DictOfH knd a xa)(db:s.heap.DictOfH knd b xb)(hu:knd.room A)(hlen:xa.length=xb.length)
   (hits:∀x∈xa,∃(j:Nat) (q:Addr×Value),xb[j]? = some (x.1,q)/\SeqAt.EqAt A s x.2.2 q.2 true) (h:Q true s):wpAny (model prog w) A (Builtin.Dict.samePairs nm a b) Q E s:=by
 obtain⟨oa,es,ep,hoa,_,hda,hea,anJ,_⟩:=da;obtain⟨ob,Uy,ep',hob,_,su,heb,anL,hnb⟩:=db;have hsa:es.size=xa.length:=size_of_entries hea;have hsb:Uy.size=xb.length:=size_of_entries heb;unfold Builtin.Dict.samePairs Builtin.Dict.showsAll;rw[ash (show ¬ (a==sysModules)=true by rw[ha];exact asr),ash (show ¬ (b==sysModules)=true by rw[hb];exact asr)];refine ar0 (asd (ar0 (asd ?_)));refine ar0 (atm hoa hda ?_);dsimp only;refine ar0 (atm hob su ?_);rw[ash (by rw[hsa,hsb,hlen];simp)];refine ar0 (auo hoa hda ?_);refine ar0 ?_;rw[Std.Legacy.Range.forIn_eq_forIn_range'];simp only[Std.Legacy.Range.size,Nat.sub_zero,Nat.add_sub_cancel,Nat.div_one];refine wpAny_forIn_list _ (fun rest q s'=>s'=s/\q=(none,())/\∃i,rest=List.range' i (es.size-i)/\i<=es.size) _ ?_ ?_ _ _ ⟨rfl,rfl,0,Uf,asU _⟩
 . rintro x rest q s' ⟨rfl,rfl,i,hr,hi⟩;have m7:i<es.size:=by
     rcases au3 i es.size with h|h
     . exact h
     . rw[Nat.sub_eq_zero_of_le h]at hr;simp at hr
   obtain⟨rfl,aj8⟩:x=i/\rest=List.range' (i+1) (es.size-(i+1)):=by
     have e:es.size-i=(es.size-(i+1))+1:=by omega
     rw[e,List.range'_succ]at hr;injection hr with h1 h2;exact⟨h1,h2⟩
   refine ar0 (atm hoa hda ?_);obtain⟨⟨k,c,v⟩,hkv⟩:∃y,xa[x]? = some y:=⟨_,ar6 We⟩;have hex:es[x]? = some ⟨knd.hash k,.ref c,v⟩:=by rw[entry_at hea x,hkv];rfl
   rw[hex];obtain⟨j,⟨c',v'⟩,hj,he⟩:=hits _ (asu hkv);have hey:Uy[j]? = some ⟨knd.hash k,.ref c',v'⟩:=by rw[entry_at heb j,hj];rfl
   show wpAny _ _ (holding [Value.ref c,v] _ >>= _) _ _ _;refine ar0 (atR (ar0 (wpAny_dictFind_heap hu (anJ _ (asu hkv)) hob su heb anL hnb (fun Fv=>absurd hj (Fv j _)) (fun j' p' hj'=>?_))));have ej:=idxH_unique hnb hj' hj;subst ej;refine ar0 (atm hob su ?_);rw[hey];refine atR (he prog w _ _ ?_);show wpAny _ _ (if (!true)=true then _ else _) _ _ _;rw[ash Wp];refine ar0 (auo hoa hda ?_);rw[ash Uf];exact asd ⟨rfl,rfl,x+1,aj8,m7⟩
 . rintro q s' ⟨rfl,rfl,i,hr,hi⟩;exact asd h
def eqH{a b:Addr}{xa xb:List (K×Addr×Value)}{Q:BB}(ha:(a==sysModules)=false)(hb:(b==sysModules)=false)(da:s.heap.DictOfH knd a xa)(db:s.heap.DictOfH knd b xb)(hr:knd.room A.in1)(hu:A.units<cLine)(hlen:xa.length=xb.length)
   (hits:∀x∈xa,∃(j:Nat) (q:Addr×Value),xb[j]? = some (x.1,q)/\SeqAt.EqAt A.in1 s x.2.2 q.2 true) (h:Q (.bool true) s):wpAny (model prog w) A (compareOp .Eq (.ref a) (.ref b)) Q E s:=by
 refine wpAny_richCompare_same_room (op:=.Eq) da.typeIs db.typeIs PySem.F.slot_dict_eq (atb PySem.F.slot_dict_eq da.typeIs PySem.F.entry_dict_eq ?_ (PySem.F.args_dict_eq_2 _ _)) hu;show wpAny _ _ (Builtin.Dict.dictSlotArgs "__eq__" ⟨[.ref a,.ref b],[]⟩ >>= _) _ _ s;refine ar0 ?_;unfold Builtin.Dict.dictSlotArgs;refine ar0 (auL da.typeIs ?_);show wpAny _ _ (pure (Value.ref a,Value.ref b)) _ _ s;refine asd ?_;refine ar0 (auQ (T:="dict") db.typeIs PySem.F.sub_dict_dict ?_);simp only[Bool.not_true,at4,at5];refine ar0 (asd (ar0 (asd ?_)));refine ar0 (agt ha hb da db hr hlen hits ?_);refine asd ⟨_,rfl,?_,?_⟩
 . exact fun x=>nomatch x
 . simpa using h
end
end L2
namespace L3
open PySem PySem.Spec PyProof.Rows L2
variable{X:Cx}{CL:BC}{gs:BS}
def MF{H:Hp}{xs:EU}(rel:Paired (fun p q=>p.1=q.1/\H q.2.1=some (.tup (p.1.map kV))/\RelV p.2 q.2.2) gs xs){j:Nat}{y:CO×Addr×Value}(h:xs[j]? = some y):∃p,gs[j]? = some p/\p.1=y.1/\RelV p.2 y.2.2:=by
 have hl:=atQ rel;have hj:j<gs.length:=by rw[hl];exact(asl.mp h).1
 obtain⟨y',h1,h2,_,h3⟩:=Paired.nth rel (ar6 hj);rw[h]at h1;cases h1;exact⟨_,ar6 hj,h2,h3⟩
def PJ(hu:X.A.units+64<cLine):wW X (compareOp .Eq) (fun x y H Q=>∃a c ga gc,x=.ref a/\y=.ref c/\Rd H a (.dT ga)/\Rd H c (.dT gc)/\ga.length=gc.length/\(∀(j:Nat) (p:CO×V),ga[j]? = some p->∃(v':V) (d:D),gc[j]? = some (p.1,v')/\kQ 60 d/\bq X.K CL H d p.2/\bq X.K CL H d v')/\Q (.bl true) H):=by
 intro pins s σ H x y v u Q I rx ry h;obtain⟨a,c,ga,gc,rfl,rfl,ra,rc,hl,hits,q⟩:=h;cases rx;cases ry;obtain⟨_,hd,xs,rel,dd⟩:=Av I.cW ra;obtain⟨_,hd2,ys,aj9,dd2⟩:=Av I.cW rc;refine eqH hd hd2 dd dd2 (tupleKind_room_in1 We) We (by rw[← atQ rel,← atQ aj9,hl]) (fun x hx=>?_) ⟨.bl true,H,I,rfl,q⟩;obtain⟨j,hj,e⟩:=List.getElem_of_mem hx;obtain⟨p,hp,p1,p2⟩:=MF rel (j:=j) (y:=x) (by rw[ar6 hj,e]);obtain⟨v',d,hv,hdp,r1,r2⟩:=hits j p hp;obtain⟨y,hy,q1,_,q2⟩:=Paired.nth aj9 hv;obtain⟨as,s1⟩:=yW I hdp r1 p2;obtain⟨bs,s2⟩:=yW I hdp r2 q2;refine⟨j,y.2,by rw[hy,← p1];exact congrArg some (Prod.ext q1.symm rfl),?_⟩;have:=SeqAt.eqAt_reads d.toPy d.toPy X.A.in1 s _ _ as bs s1 s2 hdp.lay.1 hdp.lay.1 (by have:=hdp.lay.2;have e:X.A.in1.units=X.A.units+1:=rfl;omega)
 rwa [show PyData.eqv d.toPy d.toPy=true from iI hdp]at this
variable{b:Bx}{δ δ1 δ2:AR}{e e1 e2:Expr}{p:List AF}{pos:Pos}{i:Nat}{q:Bool}{kvs:List (CO×L3.D)}{K:Frag}{Z:Hp}
theorem cA.nth:∀{kvs:Co} {gs:BS},cA K CL Z kvs gs->∀{j:Nat} {x:CO×V},gs[j]? = some x->∃d,kvs[j]? = some (x.1,d)/\bq K CL Z d x.2:=fun {kvs gs} h=>cA.ind (P:=fun kvs gs=>∀{j:Nat} {x:CO×V},gs[j]? = some x->∃d,kvs[j]? = some (x.1,d)/\bq K CL Z d x.2) (fun {j x} e=>by simp at e) (fun {k d v _ _} r _ i {j x} e=>by
   cases j with
   | zero=>
     simp at e;subst e;exact⟨d,rfl,r⟩
   | succ j=>
     rw[List.getElem?_cons_succ]at e ⊢;exact i e) h
theorem cA.pair{ZO:BS}(r:cA K CL Z kvs gs)(r2:cA K CL Z kvs ZO)(hd:∀q∈kvs,kQ 60 q.2):gs.length=ZO.length/\∀(j:Nat) (p:CO×V),gs[j]? = some p->∃(v':V) (d:D),ZO[j]? = some (p.1,v')/\kQ 60 d/\bq K CL Z d p.2/\bq K CL Z d v':=by
 have hl:gs.length=ZO.length:=by rw[← r.length,← r2.length]
 refine⟨hl,fun j p hp=>?_⟩;obtain⟨d,h1,h2⟩:=r.nth hp;have hj:j<ZO.length:=by rw[← hl];exact(asl.mp hp).1
 obtain⟨d',h3,h4⟩:=r2.nth (ar6 hj);rw[h1]at h3;injection h3 with h3;injection h3 with h5 h6;subst h6;exact⟨ZO[j].2,d,by rw[ar6 hj,h5],hd _ (asu h1),h2,h4⟩
def abj(hu:X.A.units+64<cLine)(h1:dD X CL b e1 δ (.dct kvs) δ1)(h2:dD X CL b e2 δ1 (.dct kvs) δ2)(hd:∀q∈kvs,kQ 60 q.2):vU X CL b (.Compare e1 [.Eq] [e2] pos) δ true δ2/\bO X CL b (.Compare e1 [.Eq] [e2] pos) δ (.sh (.bl true)) δ2:=by
 constructor
 . intro H Z σ ts vs Q S k;refine El (qJ (PJ (CL:=CL) hu) cP cP (mY _)) (h1 H Z σ ts vs _ S fun v1 H1 Z1 z1 k1' S1 r1=>h2 H1 Z1 σ ts vs _ S1 fun v2 H2 Z2 z2 VA S2 r2=>?_);have r1:=r1.mono VA;cases r1 with
   | @dct a gs _ ha rr=>
     cases r2 with
     | @dct c ZO _ hc Lg=>
       obtain⟨q1,q2⟩:=rr.pair Lg hd;exact⟨a,c,gs,ZO,rfl,rfl,ha,hc,q1,q2,_,rfl,k H2 Z2 (z1.trans z2) (k1'.trans VA) S2⟩
 . intro H Z σ ts vs Q S k;refine bP (uw (PJ (CL:=CL) hu) cP cP (mY _)) (h1 H Z σ ts vs _ S fun v1 H1 Z1 z1 k1' S1 r1=>h2 H1 Z1 σ ts vs _ S1 fun v2 H2 Z2 z2 VA S2 r2=>?_);have r1:=r1.mono VA;cases r1 with
   | @dct a gs _ ha rr=>
     cases r2 with
     | @dct c ZO _ hc Lg=>
       obtain⟨q1,q2⟩:=rr.pair Lg hd;exact⟨a,c,gs,ZO,rfl,rfl,ha,hc,q1,q2,k _ H2 Z2 (z1.trans z2) (k1'.trans VA) (S2.push (.bl _))⟩
namespace Dk
variable{prog:Program}{w:World}{A:Around}{E:BB}{s:Shared}{it d:Addr}{ep:Nat}{es:Array DictEntry}{od:Obj}{ok ov:Value}
def Sn{Q:BB}(hd:(d==sysModules)=false)(hT:s.TypeIs (.ref d) "dict")(hQ:Q (.ref s.heap.objs.size) {s with heap:=s.heap.push {cls:=.type "dict_items",data:=.fields #[.ref d]}}):wpAny (model prog w) A (call (.builtin "dict.items") [.ref d]) Q E s:=by
 refine atb PySem.F.slot_dict_items hT PySem.F.entry_dict_items ?_ (PySem.F.args_dict_items_1 _);unfold Builtin.«dict.items» Builtin.Dict.noArgs;refine ar0 (ar0 (auL hT (show wpAny _ _ (pure d) _ _ s from asd ?_)));show wpAny _ _ (Builtin.Dict.showsAll d >>= _) _ _ s;unfold Builtin.Dict.showsAll;rw[ash (by rw[hd];exact asr)];exact ar0 (asd (ar0 (atf (asd ⟨_,rfl,hQ⟩))))
def MG{v:Addr}{Q:BB}(hv:s.heap.IsItemsView v d)(ho:s.heap.get? d=some od)(sU:od.data=.dict es ep)
   (hQ:Q (.ref s.heap.objs.size) {s with heap:=s.heap.push {cls:=.type "dict_itemiterator",data:=.fields #[.none,.bool false,.ref d,.int 0 0,.int es.size 0,.int ep 0,.none,.none]}}):wpAny (model prog w) A (pyIter (.ref v)) Q E s:=by
 obtain⟨ow,hov,hcv,hdv⟩:=id hv;refine wpAny_pyIter_slot hv.typeIs PySem.F.slot_dict_items_iter (atb PySem.F.slot_dict_items_iter hv.typeIs PySem.F.entry_dict_items_iter (ar0 (asd (ar0 ?_))) (PySem.F.args_dict_items_iter_1 _));unfold Builtin.Dict_items.dictOf;refine ar0 (atv hov hdv (x:=.ref d) rfl (asd (ar0 ?_)));unfold Builtin.Dict_items.newIterator;refine ar0 (atm ho sU (ar0 (auo ho sU ?_)));simp only[show Builtin.Dict_items.ownsTuple "dict_itemiterator" = true by decide,auJ];exact wpAny_newObj_type (wpAny_pure ⟨_,rfl,"dict_itemiterator",_,⟨_,Heap.get?_push_size _ rfl,rfl⟩,PySem.F.slot_dict_itemiterator_next.lookup,by simpa [rawInt,Builtin.Dict_items.ownedTupleFields] using hQ⟩) (by simp only[sizeOk,Builtin.Dict_items.ownedTupleFields,List.size_toArray,List.length_append,List.length_cons,List.length_nil,sizeLine_eq];omega)
def MH{Q:DA}(hit:IsItemIter s.heap it d i es.size ep ok ov)(Ws:s.heap.get? d=some od)(Wt:od.data=.dict es ep){e:DictEntry}(hx:es[i]? = some e)
   (hQ:∀h',IsItemIterOut h' it d (i+1) es.size ep e.key e.val s.heap.objs.size->h'.get? s.heap.objs.size=some {cls:=.type "tuple",data:=.seq #[e.key,e.val]}->(∀b o,b≠it->s.heap.get? b=some o->h'.get? b=some o)->Q (some (.ref s.heap.objs.size)) {s with heap:=h'}) :
   wpAny (model prog w) A (pyNext (.ref it)) Q E s:=by
 obtain⟨hp,g,dr,tk,os⟩:=s;have hT:Shared.TypeIs ⟨hp,g,dr,tk,os⟩ (.ref it) "dict_itemiterator":=⟨_,hit,rfl⟩;have MD:Builtin.Dict_items.ownsTuple "dict_itemiterator" = true:=by decide
 unfold pyNext;refine ar0 (auv (ato (name:=Str.ofString "__next__") hT atH (atb atH hT PySem.F.entry_dict_itemiterator_next (ar0 (asd ?_)) (PySem.F.args_dict_itemiterator_next_1 _))));refine ar0 (ar0 (ar0 (aua hT (asd (ar0 (wpAny_fieldsOf hit rfl ?_))))));simp only[MD,auJ];show wpAny _ _ (if (Value.ref d==Value.none)=true then _ else _) _ _ (⟨hp,g,dr,tk,os⟩:Shared);rw[ash (show ¬ ((Value.ref d==Value.none)=true) from asr)];refine ar0 (asd (ar0 (atm Ws Wt ?_)));rw[ash Uf];refine ar0 (asd (ar0 (auo Ws Wt ?_)));rw[ash Uf];refine asd ?_;obtain⟨m7,he⟩:=aur.mp hx;simp only[show ¬ ((i:Int)<0) from by omega,at5,asT,auZ m7];refine ar0 (ar0 (aua hT (asd (ar0 (wpAny_isOneOf_itemiter hT ?_)))));show wpAny _ _ (setField (.ref it) 3 (rawInt ((i:Int)+1)) >>= _) _ _ (⟨hp,g,dr,tk,os⟩:Shared);refine ar0 (auB hit Uf fun h₁ PK PL=>?_);have PL:Heap.SameBut it hp h₁:=PL;have PK:IsItemIter h₁ it d (i+1) es.size ep ok ov:=by
   have e:((i+1:Nat):Int)=(i:Int)+1:=by omega
   unfold IsItemIter;rw[e];simpa [rawInt] using PK
 have hT₁:Shared.TypeIs ⟨h₁,g,dr,tk,os⟩ (.ref it) "dict_itemiterator":=⟨_,PK,rfl⟩;refine ar0 (atR (ar0 (wpAny_isOneOf_itemiter hT₁ (ar0 (wpAny_isOneOf_itemiter hT₁ ?_)))));rw[he];show wpAny _ _ (Builtin.Dict_items.pairFromOwner (.ref it) 6 e.key e.val) _ _ (⟨h₁,g,dr,tk,os⟩:Shared);unfold Builtin.Dict_items.pairFromOwner;refine ar0 (wpAny_newTuple ?_);have Kr:IsItemIter (h₁.push {cls:=.type "tuple",data:=.seq #[e.key,e.val]}) it d (i+1) es.size ep ok ov:=asv _ PK;have hz₁:h₁.objs.size=hp.objs.size:=PL.1;have FL:it<hp.objs.size:=asH hit;have ht₂:(h₁.push {cls:=.type "tuple",data:=.seq #[e.key,e.val]}).get? hp.objs.size=some {cls:=.type "tuple",data:=.seq #[e.key,e.val]}:=by rw[← hz₁];exact asM _ rfl
 have hk₂:∀b o,b≠it->hp.get? b=some o->(h₁.push {cls:=.type "tuple",data:=.seq #[e.key,e.val]}).get? b=some o:=fun b o hb q=>asv _ (PL.extBut b o hb q);generalize h₁.push {cls:=.type "tuple",data:=.seq #[e.key,e.val]}=h₂ at Kr ht₂ hk₂ ⊢;show wpAny _ _ (Builtin.Dict_items.ownedTupleIsFree (.ref it) >>= _) _ _ (⟨h₂,g,dr,tk,os⟩:Shared);rw[hz₁];refine ar0 ?_;unfold Builtin.Dict_items.ownedTupleIsFree;refine ar0 (atv Kr rfl (x:=.none) rfl (asd ?_));simp only[auJ];refine ar0 (atv Kr rfl (x:=ok) rfl (ar0 (atv Kr rfl (x:=ov) rfl ?_)));refine ar0 (auB Kr Uf fun h₃ Wv Ww=>?_);have Ww:Heap.SameBut it h₂ h₃:=Ww;have Wv:IsItemIter h₃ it d (i+1) es.size ep e.key ov:=Wv;refine ar0 (auB Wv Uf fun h₄ Wx Wy=>?_);have Wy:Heap.SameBut it h₃ h₄:=Wy;have Wx:IsItemIter h₄ it d (i+1) es.size ep e.key e.val:=Wx;refine ar0 (auB Wx Uf fun h₅ Wz WB=>?_);have WB:Heap.SameBut it h₄ h₅:=WB;have Wz:IsItemIterOut h₅ it d (i+1) es.size ep e.key e.val hp.objs.size:=Wz;refine ar0 (auB Wz Uf fun h₆ WC WD=>?_);have WD:Heap.SameBut it h₅ h₆:=WD;have WC:IsItemIterOut h₆ it d (i+1) es.size ep e.key e.val hp.objs.size:=WC;have fin:∀b o,b≠it->h₂.get? b=some o->h₆.get? b=some o:=fun b o hb q=>WD.extBut b o hb (WB.extBut b o hb (Wy.extBut b o hb (Ww.extBut b o hb q)));exact ar0 (wpAny_letGo (asd (asd ⟨_,rfl,asd (hQ h₆ WC (fin _ _ (Nat.ne_of_gt FL) ht₂) fun b o hb q=>fin b o hb (hk₂ b o hb q))⟩)))
def Sq{Q:DA}(hh:A.handled=none)(hit:IsItemIter s.heap it d i es.size ep ok ov)(Ws:s.heap.get? d=some od)(Wt:od.data=.dict es ep)(hx:es.size<=i)
   (hQ:∀h',Heap.ExtBut it s.heap h'->Q none {s with heap:=h'}):wpAny (model prog w) A (pyNext (.ref it)) Q E s:=by
 have hT:s.TypeIs (.ref it) "dict_itemiterator":=⟨_,hit,rfl⟩;have MD:Builtin.Dict_items.ownsTuple "dict_itemiterator" = true:=by decide
 unfold pyNext;refine ar0 (auv (ato (name:=Str.ofString "__next__") hT atH (atb atH hT PySem.F.entry_dict_itemiterator_next (ar0 (asd ?_)) (PySem.F.args_dict_itemiterator_next_1 _))));refine ar0 (ar0 (ar0 (aua hT (asd (ar0 (wpAny_fieldsOf hit rfl ?_))))));simp only[MD,auJ];show wpAny _ _ (if (Value.ref d==Value.none)=true then _ else _) _ _ s;rw[ash (show ¬ ((Value.ref d==Value.none)=true) from asr)];refine ar0 (asd (ar0 (atm Ws Wt ?_)));rw[ash Uf];refine ar0 (asd (ar0 (auo Ws Wt ?_)));rw[ash Uf];refine asd ?_;simp only[show ¬ ((i:Int)<0) from by omega,at5,asT,Array.getElem?_eq_none hx];refine ar0 (ar0 (aua hT (asd ?_)));show wpAny _ _ (setField (.ref it) 2 .none >>= _) _ _ s;refine ar0 (aus hit rfl Uf ?_);show wpAny _ _ (newExc (.type "StopIteration") [] >>= _) _ _ _;refine ar0 ?_;simp only[newExc,newTuple];refine ar0 (atf (ar0 (m:=firstArgMember _ _) (wpAny_of_eq (a:=Value.none) (by first|rfl|(simp only[firstArgMember];rfl)) (atf ?_ (by size_fits)))) (by size_fits));simp only[raiseNew];refine ar0 (wpAny_handled ?_);rw[show A.in1.handled=none from hh];refine ar0 (asd (wpAny_throw ?_));exact ar0 (auQ (T:="StopIteration") (b:=true) ⟨_,asM _ rfl,rfl⟩ isSubtype_stop (asd (hQ _ (((atB ..).extBut.push _).push _))))
end Dk
def Iti(a:Addr)(o:Obj)(gs:BS):It:=
 ⟨fun i H=>i<gs.length/\H a=some (.bG o (.dT gs)),fun i H x H'=>∃T b k v,H T=none/\x=.ref T/\gs[i]? = some (k,v)/\H b=some (.tup (k.map kV))/\H'=upd H T (.tup [.ref b,v]),fun i H=>gs.length<=i/\H a=some (.bG o (.dT gs))⟩
def MJ{P:Program}{w:World}{elts:CS}{kk:Nat}{pt:Pos}{a it:Addr}{o:Obj}{es:Array DictEntry}{ep:Nat}(sU:o.data=.dict es ep):Turn P w K (.Tuple elts kk pt) (Iti a o gs) [it] it (fun i h=>∃ok ov,IsItemIter h it a i es.size ep ok ov) where
 mem:=by simp
 obj:=fun i h st b hb=>by
   obtain⟨ok,ov,he⟩:=st;have e:b=it:=by simpa using hb
   subst e;exact⟨_,he,fun v z=>by
     have z':Data.fields _=Data.cell v:=z;cases z'⟩
 keep:=fun i h h' st k=>by
   obtain⟨ok,ov,he⟩:=st;exact⟨ok,ov,k it Uf _ he⟩
 item:=by
   intro X hP hw hK hc i pins s σ H E I hf st hg;subst hP hw hK;obtain⟨m7,ha⟩:=hg;obtain⟨e,z,y,xs,r,o',Uy,ep',e',c,d,hes,nd⟩:=(show eN X.prog X.w H s.heap a (.bG o (.dT gs)) from I.cW a _ ha);rw[e]at e';cases e';rw[sU]at d;cases d;obtain⟨ok,ov,he⟩:=st;have fi:=hf it Uf;have hT0:H s.heap.objs.size=none:=I.cW.fresh (asp _);have fT:=I.Eh (asp s.heap.objs.size) hT0;obtain⟨q,hq,q1,q2,q3⟩:=Paired.nth r (i:=i) (x:=gs[i]) (ar6 m7);have hx:es[i]? = some (entryOfKey (tupleKind (gj X.prog X.w)) q):=by
     rw[← atY,hes,asi,hq];rfl
   refine Dk.MH he e sU hx fun h' ho hT hk=>⟨_,rfl,?_⟩;refine PySem.wpAny_letOwnedTupleGo_items ho fun h2 he2 JR=>?_;have JR:Heap.SameBut it h' h2:=JR;have eT:it<s.heap.objs.size:=asH he;have keep:∀b ob,b≠it->s.heap.get? b=some ob->h2.get? b=some ob:=fun b ob h1 q=>(JR.2 b h1).trans (hk b ob h1 q);have hT2:h2.get? s.heap.objs.size=some {cls:=.type "tuple",data:=.seq #[.ref q.2.1,q.2.2]}:=(JR.2 _ (Nat.ne_of_gt eT)).trans hT;have nH:∀b ob,H b=some ob->b≠it/\b≠s.heap.objs.size:=fun b ob q=>⟨fun z=>(by rw[z,fi.1]at q;cases q),fun z=>(by rw[z,hT0]at q;cases q)⟩;have I':L2.Inv X pins σ (upd H s.heap.objs.size (.tup [.ref q.2.1,gs[i].2])) {s with heap:=h2}:=by
     refine I.step (g':=s.gens) (d':=s.drawn) (ch:=[it,s.heap.objs.size]) (fun b hb=>?_) (fun b ob _ _ hc q _=>?_) (fun b ob _ _ hc q _=>⟨ob.slots,?_⟩) (fun b ob hc q n=>?_) (fun b ob hc q=>⟨ob,?_⟩) (fun b ys q=>?_) (fun b ob u q=>?_) (fun b ps q=>⟨#[],?_⟩) (fun m hm=>?_) (fun b ob q=>?_) I.bare
     . rcases asb.mp hb with z|hb
       . subst z;exact⟨fi.2.2.2.1,fi.2.1,fi.2.2.2.2.1,fi.2.2.2.2.2⟩
       . have z:b=s.heap.objs.size:=by simpa using hb
         subst z;exact⟨fT.2.2.2.1,fT.2.1,fT.2.2.2.2.1,fT.2.2.2.2.2⟩
     . exact keep b ob (fun z=>hc (by simp[z])) q
     . exact keep b ob (fun z=>hc (by simp[z])) q
     . rw[ak (fun z=>hc (by simp[z]))];exact n
     . exact keep b ob (fun z=>hc (by simp[z])) q
     . rw[ak (nH b _ q).2];exact q
     . rw[ak (nH b _ q).2];exact q
     . rw[ak (nH b _ q).2,q];simp
     . obtain⟨ob,es,ep,ho,r⟩:=hm;exact⟨ob,es,ep,keep _ ob (auj fi.2.1) ho,r⟩
     . by_cases hb:b=s.heap.objs.size
       . subst hb;rw[aD]at q;cases q;exact⟨aty (jC (ar8 rfl)),[.ref _,_],.cons rfl (.cons q3 .nil),⟨_,hT2,rfl,_,rfl⟩⟩
       . rw[ak hb]at q;refine(I.cW b ob q).AX (fun c v hc z=>keep c v ?_ z) (fun c z=>by rw[ak (nH c _ z).2];exact z) (fun c ys z=>by rw[ak (nH c _ z).2];exact z) fun c ys z=>by rw[ak (nH c _ z).2];exact z
         rcases hc with z|z
         . rw[z];exact(nH b _ q).1
         . exact(nH c _ z).1
   refine⟨.ref s.heap.objs.size,_,I',rfl,⟨_,q.2.1,gs[i].1,gs[i].2,hT0,rfl,ar6 m7,q2,rfl⟩,⟨_,_,he2⟩,fun b hb=>?_⟩;have z:b=it:=by simpa using hb
   subst z;rw[ak (as8 eT)];exact fi.1
 done:=by
   intro X hP hw hK hc i pins s σ H E I hf st hg;subst hP hw hK;obtain⟨hge,ha⟩:=hg;obtain⟨e,z,y,xs,r,o',Uy,ep',e',c,d,hes,nd⟩:=(show eN X.prog X.w H s.heap a (.bG o (.dT gs)) from I.cW a _ ha);rw[e]at e';cases e';rw[sU]at d;cases d;obtain⟨ok,ov,he⟩:=st;obtain⟨f0,f1,f2,f3,f4,f5⟩:=hf it Uf;have hl:=atQ r;have hsz:es.size=xs.length:=by rw[← aue,hes,ar3]
   exact Dk.Sq (I.ok.hd hc) he e sU We fun h' eb=>⟨rfl,I.turned (t':=s.toks) (fun b ob hb e=>eb b ob hb e) f0 f1 f3 f4 f5⟩
 self:=fun _ _ _ _ _ st h=>by
   obtain⟨ok,ov,he⟩:=st;exact PySem.W.kcp_self he h
def anN(X:Cx)(te:TE):TI:=fun σ H R=>te σ H fun x H1=>∃a gs,x=.ref a/\((H1 a=some (.dT gs)/\∀o,(∀ob q,X.H₀ a≠some (.bG ob q))->R (Iti a o gs) (upd H1 a (.bG o (.dT gs))))\/∃o,H1 a=some (.bG o (.dT gs))/\R (Iti a o gs) H1)
def WG{te:TE}{elts:CS}{kk:Nat}{pt apos lW:Pos}(he:PE X e te)(gy:attributeBase e "items" X.env (eval e X.env)=eval e X.env:=by rfl)(hline:(apos.endLine==lW.line)=true:=by rfl):PI X (.Tuple elts kk pt) (.Call (.Attribute e "items" apos) [] [] lW) (anN X te):=by
 intro pins s σ H R I h;refine wpAny_Call_method0_late gy hline (fX (he pins s σ H _ I h) fun v s1 zz=>?_);obtain⟨x,H1,I1,r1,a,gs,ex,q⟩:=zz;subst ex;cases r1;have main:∀(H2:Hp) (o:Obj),L2.Inv X pins σ H2 s1->H2 a=some (.bG o (.dT gs))->R (Iti a o gs) H2->wpAny (model X.prog X.w) X.A (call (.builtin "dict.items") [.ref a]) (fun v s1=>wpAny (model X.prog X.w) X.A (pyIter v) (PIE X pins σ (.Tuple elts kk pt) R) X.xe s1) X.xe s1:=fun H2 o I2 ha hR=>by
   obtain⟨e,z,y,xs,r,o',es,ep,e',c,d,hes,nd⟩:=(show eN X.prog X.w H2 s1.heap a (.bG o (.dT gs)) from I2.cW a _ ha);rw[e]at e';cases e';obtain⟨_,_,_,_,dd⟩:=Av I2.cW (.inr ⟨o,ha⟩);refine Dk.Sn y dd.typeIs (Dk.MG (s:={s1 with heap:=s1.heap.push _}) ⟨_,asM _ rfl,rfl,rfl⟩ (asv _ e) d ?_);have hz:(s1.heap.push {cls:=.type "dict_items",data:=.fields #[.ref a]}).objs.size=s1.heap.objs.size+1:=Heap.size_push ..;refine⟨s1.heap.objs.size+1,[s1.heap.objs.size+1],_,_,H2,by rw[← hz],I2.kept (t':=s1.toks) fun b ob e=>asv _ (asv _ e),MJ d,⟨.none,.none,by rw[← hz];exact asM _ rfl⟩,fun b hb=>?_,hR⟩;have e:b=s1.heap.objs.size+1:=by simpa using hb
   subst e;exact I2.Eh (avd _) (I2.cW.fresh (avd _))
 have go:wpAny (model X.prog X.w) X.A (call (.builtin "dict.items") [.ref a]) (fun v s1=>wpAny (model X.prog X.w) X.A (pyIter v) (PIE X pins σ (.Tuple elts kk pt) R) X.xe s1) X.xe s1:=by
   rcases q with⟨ha,q⟩|⟨o,ha,q⟩
   . obtain⟨o,e,hz,I2⟩:=I1.aj7 ha;exact main _ o I2 aD (q o hz)
   . exact main _ o I1 ha q
 have hr:Rd H1 a (.dT gs):=by
   rcases q with⟨ha,_⟩|⟨o,ha,_⟩
   . exact .inl ha
   . exact .inr ⟨o,ha⟩
 obtain⟨_,_,_,_,dd⟩:=Av I1.cW hr;have ZK:=dd;obtain⟨ob,Uy,ep,h1,h2,h3,h4,h5⟩:=ZK;exact⟨"dict","dict.items",PySem.F.plainAttrs_dict,PySem.F.slot_dict_items,PySem.F.type_dict_items,dd.typeIs,fun a' e'=>⟨ob,by cases e';exact h1,h2.2.1⟩,auF rfl (PySem.evalArgs_none go)⟩
theorem cA.conv{Z':Hp}(e:Conv Z Z')(h:cA X.K CL Z kvs gs):cA X.K CL Z' kvs gs:=cA.ind (P:=fun kvs gs=>cA X.K CL Z' kvs gs) .nil (fun r _ i=>.cons (r.conv e) i) h
def T.Hr:List AF->T->DO
 | [],t=>some t
 | s::p,t=>(t.core.Lj s).bind (T.Hr p)
def T.En:List AF->T->T->T
 | [],u,_=>u
 | s::p,u,t=>match t.core.Lj s with
   | some k=>t.Hl (t.core.MA s (T.En p u k))
   | none=>t
variable{H:Hp}{σ:L2.St}{ts:Bn}{vs:BN}{t u t0:T}{v:V}{y:Addr}
theorem bz.raw(zh:aC Z H):∀(p:List AF) {t u:T} {v:V} {fp:BM},bz K CL H Z t v fp->T.Hr p t=some u->∃w f2,Bp H v p w/\bz K CL H Z u w f2/\∀{u':T},bz K CL H Z u' w f2->bz K CL H Z (T.En p u' t) v fp
 | [],t,u,v,fp,h,e=>by
   cases e;exact⟨v,fp,rfl,h,fun r=>r⟩
 | s::p,t,u,v,fp,h,e=>by
   obtain⟨h1,h2⟩:=h.MB;rw[T.Hr]at e;cases hk:t.core.Lj s with
   | none=>rw[hk]at e;cases e
   | some k=>
     rw[hk]at e;obtain⟨w1,a1,a2,a3,q1,q2,q3,q4⟩:=h1.Lj zh hk;obtain⟨w,f2,r1,r3,r4⟩:=bz.raw zh p q3 e;refine⟨w,f2,⟨w1,q1,r1⟩,r3,fun {u'} r'=>?_⟩;rw[T.En,hk,q2];exact h2 (q4 (k':=T.En p u' k) (fun _ _=>rfl) (r4 r'))
theorem aR.loose(S:aR K CL b H Z δ σ ts vs)(hi:δ[i]? = some (some t0))(hg:T.Hr p t0=some (.pin y u)):aR K CL b H Z (δ.set i (some (T.En p u t0))) σ ts vs:=by
 obtain⟨fp,gp,e,r,nd,k⟩:=S.rep;obtain⟨v1,e1,e2,e3,hv,oq,rt,put,_⟩:=e.get hi;obtain⟨w,f2,at',ru,put2⟩:=rt.raw S.zh p hg;have q2:=put (.refl _) (fun _ _=>rfl) (put2 (u':=u) (by cases ru with|pin r=>exact r));rw[c9 hv]at q2;subst oq;exact⟨⟨_,gp,q2,r,nd,k⟩,S.bh,S.zz,S.zh,S.new,S.tp,S.tab⟩
theorem aR.anO(S:aR K CL b H Z δ σ ts vs)(hi:δ[i]? = some (some t))(hr:t.isRef=true):∃y,aR K CL b H Z (δ.set i (some (.pin y t))) σ ts vs:=by
 obtain⟨fp,gp,e,r,nd,k⟩:=S.rep;obtain⟨v1,e1,e2,e3,hv,oq,rt,put,_⟩:=e.get hi;have:∃y,v1=.ref y:=by
   cases rt with
   | sh r=>cases hr
   | tup r _=>cases hr
   | pin r=>cases hr
   | lz r _ _=>cases hr
   | lst r q=>exact⟨_,rfl⟩
   | ins r q=>exact⟨_,rfl⟩
   | uz r q=>exact⟨_,rfl⟩
   | dct r q=>exact⟨_,rfl⟩
 obtain⟨y,rfl⟩:=this;have q2:=put (.refl _) (fun _ _=>rfl) (bz.pin rt);rw[c9 hv]at q2;subst oq;exact⟨y,⟨_,gp,q2,r,nd,k⟩,S.bh,S.zz,S.zh,S.new,S.tp,S.tab⟩
section
variable{o:Expr}{d:L3.D}{D:dW}{apos:Pos}{m:Nat}{x c mm:Str}{eW:CU}{fs:Cn}
def agu(h:δ[i]? = some (some t))(k:∀y,cQ X CL b eW (δ.set i (some (.pin y t))) D)(hr:t.isRef=true:=by rfl):cQ X CL b eW δ D:=fun H Z σ ts vs E S M=>by
 obtain⟨y,S'⟩:=S.anO h hr;exact k y H Z σ ts vs E S' M
def WH(n:Vn X i x)(h:δ[i]? = some (some (.pin y t))):bO X CL b (.Name x pos) δ (.pin y t) (δ.set i (some (.sh (.val (.ref y))))):=fun H Z σ ts vs Q S k=>by
 have hl:i<δ.length:=by
   rcases au3 i δ.length with z|z
   . exact z
   . rw[atd z]at h;cases h
 obtain⟨v,e,S1⟩:=S.move h;have hv:v=.ref y:=by
   obtain⟨_,_,_,r,_,_⟩:=S1.rep;cases r with
   | cons r _=>cases r;rfl
 subst hv;have S2:=(S1.push (d:=.val (.ref y)) (.val _)).set (i:=i) (by rw[at8];exact hl);rw[c9 e,List.set_set]at S2;exact bP (gw n.hi n.hv n.hd n.ko) ⟨_,e,k _ H Z (.refl _) (.refl _) S2⟩
theorem Ss(n:Vn X m x)(hm:δ[m]? = some (some (.sh (.val (.ref y)))))(hi:δ[i]? = some (some t0))(hg:T.Hr p t0=some (.pin y u))(hd:u.bG=d):dD X CL b (.Name x pos) δ d δ:=fun H Z σ ts vs Q S k=>by
 obtain⟨v,hv,r⟩:=S.look hm;rw[T.bG]at r;cases r;obtain⟨fp,gp,e,rr,nd,kk⟩:=S.rep;obtain⟨v1,e1,e2,e3,hv1,oq,rt,put,_⟩:=e.get hi;obtain⟨w,f2,at',ru,_⟩:=rt.raw S.zh p hg;cases ru with
 | pin ru=>
   subst hd;exact bP (gw n.hi n.hv n.hd n.ko) ⟨_,hv,k _ H Z (.refl _) (.refl _) S (ru.bG S.zh fun _ _=>rfl)⟩
def WK(p:List AF)(h:bO X CL b e δ t δ1)(hi:δ1[i]? = some (some t0))(hg:T.Hr p t0=some (.pin y u)):bO X CL b e δ t (δ1.set i (some (T.En p u t0))):=fun H Z σ ts vs Q S k=>h H Z σ ts vs Q S fun v H1 Z1 z1 k1 S1=>k v H1 Z1 z1 k1 (S1.loose hi hg)
def aka(h:bO X CL b e δ t δ1)(q:δ1=δ2):bO X CL b e δ t δ2:=q▸h
structure FqR(X:Cx)(CL:BC)(c m:Str)(k n:Nat){A:Type}(arg:A->At)(Pre:A->Prop)(exc:A->Str):Prop where
 ex:∃f fd ps,Meth X.K (CL c) m f/\dP X.prog X.w X.K X.mg X.base (CX8 X.prog X.w) k f fd ps (spR X.K CL n arg Pre exc)/\Binds X.K fd ps []
 room:dU k X.A
 cls:kO X.K (CL c)
theorem FqR.pin{p:BA}{k n:Nat}{A:Type}{arg:A->At}{Pre:A->Prop}{exc:A->Str}(F:FqR X CL c mm k n arg Pre exc):FqR (X.pinned p) CL c mm k n arg Pre exc:=⟨F.ex,F.room,F.cls⟩
def Sv{Q:VK}{E:BB}(hx:X.xe=fun _ _=>False)(h:A5 X e σ H Q):A5 (X.wish E) e σ H Q:=fun pins s I=>
 atc (h pins s I.lI) (fun us s' ⟨vs,H',I',r,q⟩=>⟨vs,H',I'.wish E,r,q⟩) fun ev s' z=>by rw[hx]at z;exact z.elim
def abk{pl:Sem Bool}{k n:Nat}{A:Type}{arg:A->At}{Pre:A->Prop}{exc:A->Str}(a:A)(hx:X.xe=fun _ _=>False)(F:FqR X CL c mm k n arg Pre exc)(ho:dD X CL b o δ (.ins c fs) δ1)(hf:fs.lookup mm=none)(hab:arg a=[.ins c fs])(hp:Pre a)(hn:(arg a).length=n:=by rfl)
   (ht:eval (.Call (.Attribute o mm apos) [] [] pos) X.env=(do
     let ov ← eval o X.env
     standAt apos.atName
     let (f,first) ← holding [ov] (getMethod ov mm pl)
     callWith pos f first (backTo pos (starEach [] X.env)) (backToKw pos (keywordEach [] X.env))):=by rfl) :
   TRv X CL b (.Call (.Attribute o mm apos) [] [] pos) δ (exc a) δ1:=fun H Z σ ts vs S pins s I=>by
 obtain⟨f,fd,ps,M,F1,hb⟩:=F.ex;have hO:A5 X o σ H fun v H1=>∃Z1,aC Z Z1/\aR X.K CL b H1 Z1 δ1 σ ts vs/\bq X.K CL H1 (.ins c fs) v:=ho H Z σ ts vs _ S fun v H1 Z1 z1 k1 S1 r=>⟨Z1,z1,S1,r⟩;refine aul (pl:=pl) (fX (Sv hx hO pins s I) fun u s1 zz=>?_) ht;obtain⟨xv,H1,I1,rx,Z1,z1,S1,rf⟩:=zz;have rf0:=rf;cases rf with
 | @ins aa dx _ gs _ ha rff=>
   obtain rfl:u=Value.ref aa:=rx;refine qK I1 ha F.cls M (rff.none hf) ?_;refine callWith_K0 (first:=[.ref aa]) I1.AY M.kp ?_
   let E0:XK:=fun cv _ H'=>cv=.ref (CL (exc a))/\∃Z',aC Z Z'/\aR X.K CL b H' Z' δ1 σ ts vs
   have U5:spR X.K CL n arg Pre exc [.ref aa] H1 (fun _ _=>False) E0:=⟨H1,a,.refl _,fun _ _ q _=>q,by rw[hab];exact .cons rf0 .nil,hn,hp,S1.RP,fun H' Z' hh ww wh nw tp=>⟨rfl,by
     obtain⟨Z2,z2,S2⟩:=S1.grown hh S1.zh ww wh nw tp;exact⟨Z2,z1.trans z2,S2⟩⟩⟩
   have hl:[Value.ref aa].length=ps.length:=F1.len _ _ _ _ U5;have hbd:=hb s1 [.ref aa] I1.AY (by rw[asx];exact hl);rw[asx]at hbd;refine wpAny_call (codeAny_mono (F1.run X.A X.stack s1 H1 ⟨[.ref aa],[]⟩ [.ref aa] [.ref aa] (fun _ _=>False) E0 F.room I1.lI.afn hbd (.cons rfl .nil) U5) fun rr s' hq=>?_);cases rr with
   | error ev=>
     obtain⟨e1,C,a0,B,H',rfl,o1,o2,o3,o4,o5,o6,hC,Z',z',S'⟩:=hq;cases hC;exact⟨e1,a0,B,pins,σ,H1,s1,H',Z',rfl,⟨I1.lI,o1,o2,o3,o4,o5,o6⟩,z',S'⟩
   | ok fl=>
     cases fl with
     | ret u=>
       obtain⟨v,H',_,_,_,_,_,q⟩:=hq;exact q.elim
     | next=>exact False.elim hq
     | brk=>exact False.elim hq
     | cont=>exact False.elim hq
end
end L3
namespace L2
open PySem PySem.Spec PyProof.Rows
variable{prog:Program}{w:World}{A:Around}{E:BB}{s:Shared}
def xC{t sl:Addr}{items:D2}{vl vu:Value}{lo hi:CC}{Q:BB}(ht:IsTup s.heap t items)(hs:s.heap.IsSliceOf sl vl vu .none)(pl:IsPart vl lo)(pu:IsPart vu hi)
   (hw:HT.iF items.size 0 lo=0/\HT.iF items.size items.size hi=items.size) (h:Q (.ref t) s):wpAny (model prog w) A (getItem (.ref t) (.ref sl)) Q E s:=by
 obtain⟨os,UB,hcs,hds⟩:=id hs;have hTs:s.TypeIs (.ref sl) "slice":=⟨os,UB,hcs⟩;unfold getItem
 try with_reducible refine atR ?_
 first|refine ar0 (asd ?_)|skip
 refine ar0 (wpAny_sequenceKey ht.typeIs Wp ?_);refine ar0 (ato (name:=Str.ofString "__getitem__") ht.typeIs atn
   (atb atn ht.typeIs entry_tuple_getitem ?_ (args_tuple_getitem _ _)))
 show wpAny _ _ (Builtin.Tuple.tupleItemsOf (.ref t) >>= _) _ _ s;refine ar0 (tupleItemsOf_ ht ?_);refine ar0 (wpAny_typeOf hTs ?_);rw[ass Wp];refine ar0 (HT.qc hs pl pu ?_);show wpAny _ _ (if (((HT.iF items.size 0 lo:Nat):Int)==0&&(1:Int)==1&&(HT.iF items.size items.size hi-HT.iF items.size 0 lo)==items.size)=true then _ else _) _ _ s;rw[hw.1,hw.2];rw[ass Uf];unfold Builtin.Tuple.tupleIsExact;refine ar0 (ar0 (wpAny_typeOf ht.typeIs (asd ?_)));rw[ass Wp];exact ar0 (wpAny_rule (asd ⟨_,rfl,asd h⟩))
variable{X:Cx}
def anP(K:Frag):V->CC->CC->Hp->VK->Prop:=fun x lo hi H Q=>∃a xs,x=.ref a/\se K H a xs ∧
 ((HT.iF xs.length 0 lo=0/\HT.iF xs.length xs.length hi=xs.length)->Q (.ref a) H)/\(¬ (HT.iF xs.length 0 lo=0/\HT.iF xs.length xs.length hi=xs.length)->∀p,H p=none->Q (.ref p) (upd H p (.tup (GF xs lo hi))))
def abl:SlR X (anP X.K):=by
 intro pins s σ H x v vl vu lo hi sl Q I rx hs pl pu h;obtain⟨a,xs,rfl,hx,q1,q2⟩:=h;by_cases hw:HT.iF xs.length 0 lo=0/\HT.iF xs.length xs.length hi=xs.length
 . cases rx;obtain⟨its,r,ht,hz⟩:=I.tuple hx;have hlen:its.toArray.size=xs.length:=by rw[asy];exact r.length.symm
   refine⟨"tuple",_,atn.lookup,ht.typeIs,?_⟩;exact xC ht hs pl pu (by rw[hlen];exact hw) ⟨.ref a,_,I,rfl,q1 hw⟩
 . exact afq pins s σ H _ v vl vu lo hi sl Q I rx hs pl pu ⟨a,xs,rfl,hx,hw,q2 hw⟩
def Sw(hc:X.calm=true):oA X (.type "set") (fun xs H Q=>∃(p:Addr) (ns:AT),xs=[.ref p]/\ou X.K H p (ns.map V.int)/\ns.length<=1000/\∀l,H l=none->Q (.ref l) (upd H l (.ext (L3.V8 X.prog X.w l (firstMet (fun i=>ns.getD i 0) ns.length).length)))):=by
 intro pins s σ H xs us Q I r h;obtain⟨p,ns,rfl,hp,hn,q⟩:=h;obtain⟨u,rfl,ru⟩:=vals1 r;cases ru;obtain⟨its,rv,pl,hz⟩:=I.list hp;have hl:its.length=ns.length:=by rw[← rv.length,ar3]
 refine call_set_list (ns:=ns) (I.ok.hd hc) pl.isList (by simpa using L3.Km rv) (by rw[List.size_toArray,hl];unfold scanBound;omega) fun h' tk hS hk=>?_;have ek:∀b o,s.heap.get? b=some o->h'.get? b=some o:=fun b o e=>hk b o (asH e) e;have hS2:L3.V8 X.prog X.w s.heap.objs.size (firstMet (fun i=>ns.getD i 0) ns.length).length h':=by
   have e1:its.toArray.size=ns.length:=by rw[asy,hl]
   rw[e1]at hS;exact⟨_,hS⟩
 refine⟨.ref s.heap.objs.size,_,I.laid (t':=tk) (o:=.ext (L3.V8 X.prog X.w s.heap.objs.size (firstMet (fun i=>ns.getD i 0) ns.length).length)) ek (asp _) ⟨hS2,?_,?_⟩,rfl,q _ (I.cW.fresh (asp _))⟩
 . obtain⟨_,o,_,_,_,e,_⟩:=hS2;exact⟨o,e⟩
 . rintro h1 h2 ⟨S,o,es,ep,t,e,rest⟩ k;exact⟨S,o,es,ep,t,k o e,rest⟩
theorem PN(f:Nat->Int):∀k,(firstMet f k).length<=k
 | 0=>asp _
 | k+1=>by
   rw[firstMet_succ];have:=PN f k;unfold step_dedup;split
   . omega
   . rw[asa];show _+1<=_;omega
theorem Ks(f:Nat->Int):∀n,argBest (fun i j=>decide (f i > f j)) n<=n/\∀i,i<=n->f i<=f (argBest (fun i j=>decide (f i > f j)) n)
 | 0=>⟨asp _,fun i hi=>by rw[Nat.le_zero.mp hi];exact Int.le_refl _⟩
 | n+1=>by
   obtain⟨h1,h2⟩:=Ks f n;rw[argBest];split
   . rename_i h;have h:=asB h;refine⟨asp _,fun i hi=>?_⟩;rcases au3 i (n+1) with z|z
     . have:=h2 i We;omega
     . rw[show i=n+1 by omega];exact Int.le_refl _
   . rename_i h;have h:¬ f (n+1) > f (argBest (fun i j=>decide (f i > f j)) n):=of_decide_eq_false (by simpa using h);refine⟨We,fun i hi=>?_⟩;rcases au3 i (n+1) with z|z
     . exact h2 i We
     . rw[show i=n+1 by omega];omega
def Sx(hc:X.calm=true):oA X (.builtin "max") (fun xs H Q=>∃(p:Addr) (ns:AT) (m:Int),xs=[.ref p]/\ou X.K H p (ns.map V.int)/\m∈ns/\(∀x∈ns,x<=m)/\Q (.int m) H):=by
 intro pins s σ H xs us Q I r h;obtain⟨p,ns,m,rfl,hq,hm,hle,q⟩:=h;obtain⟨u,rfl,rx⟩:=vals1 r;cases rx;obtain⟨its,r',pl,hz⟩:=I.list hq;have hi:=intsAre_of r';obtain⟨xs,hx⟩:=hi.allInts.items;have hn:=hi.numsOf;have hl:=pl.isList;rw[hx]at hl;have e:its=(intItems xs).toList:=by rw[← hx]
 rw[e,nums_intItems]at hn;have hlen:xs.size=ns.length:=by rw[← hn];simp
 have Ku:0<xs.size:=by rw[hlen];exact List.length_pos_of_mem hm
 refine max_intList (I.ok.hd hc) hl Ku fun v h' tk hv hk=>⟨.int m,H,I.kept (t':=tk) hk,?_,q⟩;obtain⟨b1,b2⟩:=Ks (numAt xs) (xs.size-1);obtain⟨k,hk⟩:∃k,k=argBest (fun i j=>decide (numAt xs i > numAt xs j)) (xs.size-1):=⟨_,rfl⟩;rw[← hk]at hv b1 b2;have Kq:k<xs.size:=by omega
 have agv:∀j,numAt xs j=ns.getD j 0:=fun j=>by rw[numAt_eq,hn]
 have anQ:ns.getD k 0=m:=by
   have h1:ns.getD k 0<=m:=hle _ (by
     rw[asj,ar6 We];exact atW _)
   obtain⟨j,hj⟩:=atu.mp hm;have Se:=(asl.mp hj).1;have h2:=b2 j We;rw[agv,agv,asj,hj]at h2;have h2:m<=ns.getD k 0:=h2;omega
 have hv2:(intItems xs)[k]? = some (.int (xs[k]'Kq).1 (xs[k]'Kq).2):=by
   unfold intItems;rw[Array.getElem?_map,auZ Kq];rfl
 rw[hv2]at hv;cases hv;refine⟨(xs[k]'Kq).2,?_⟩;have:(xs[k]'Kq).1=m:=by
   rw[← anQ,← agv];unfold numAt;simp[Kq]
 rw[this]
end L2
namespace L3
open PySem PySem.Spec PyProof.Rows L2
variable{X:Cx}{CL:BC}{b:Bx}{δ δ1 δ2 δ3:AR}{e:Expr}{ds:At}{pos p2 pp pr:Pos}
theorem Cy{lo hi:Option Expr}{l h:CC}(h1:bO X CL b e δ (.sh (.tup ds)) δ1)(h2:TOv X CL b lo δ1 l δ2)(h3:TOv X CL b hi δ2 h δ3) :
   bO X CL b (.Subscript e (.Slice lo hi none p2) pos) δ (.sh (.tup (cutD ds l h))) δ3:=fun H Z σ ts vs Q S k=>by
 obtain⟨t2,po2,w2⟩:=h2;obtain⟨t3,po3,w3⟩:=h3;refine bP (B5 abl cP po2 po3) (h1 H Z σ ts vs _ S fun v H1 Z1 z1 k1 S1=>w2 H1 Z1 σ _ _ _ S1 fun H2 Z2 z2 k2 S2=>w3 H2 Z2 σ _ _ _ S2 fun H3 Z3 z3 k3 S3=>?_);have r:=S3.v8;have r0:=r;cases r with
 | @tup a us _ hq rr=>
   refine⟨a,us,rfl,aC.A4 S3.zh hq,fun hw=>?_,fun hw p hp=>?_⟩
   . have hul:us.length=ds.length:=rr.length.symm;rw[hul]at hw;have e:cutD ds l h=ds:=by unfold cutD;rw[hw.1,hw.2,List.drop_zero];exact List.take_of_length_le We
     rw[e]at k;exact k _ _ Z3 (z1.trans (z2.trans z3)) (k1.trans (k2.trans k3)) S3
   . have rc:=rr.cut l h;obtain⟨a,c,S4⟩:=(aR.sM rc S3.pop).GU (by simp[rc.length]) hp;obtain⟨Z5,z5,S5⟩:=S4.B8;rw[T.bG,kP]at S5;exact k _ _ Z5 (z1.trans (z2.trans (z3.trans (a.trans z5)))) (k1.trans (k2.trans (k3.trans c))) S5
def Cz{ns:AT}(g:Gx X)(hm:X.mg "len" = none)(hmr:X.mg "set" = none)(h:dD X CL b e δ (.lst (ns.map D.int)) δ1)(hn:ns.length<=1000)(hg:Gl X "len")(hgr:Gl X "set")(hs:AC X e []:=by exact aZ rfl) :
   bO X CL b (.Call (.Name "len" pp) [.Call (.Name "set" p2) [e] [] pr] [] pos) δ (.sh (.int (firstMet (fun i=>ns.getD i 0) ns.length).length)) δ1:=fun H Z σ ts vs Q S k=>
 bP (qb Kn hg hm PySem.boot_len (bY (jB (Sw g.calm) hgr hmr Sg (bY cP dZ hs) (he:=hs)) dZ (aZ rfl)) (he:=aZ rfl)) (h H Z σ ts vs _ S fun v H1 Z1 z1 k1 S1 r=>by
   cases r with
   | lst hq rr=>
   have eu:=zb rr;have hl:=PN (fun i=>ns.getD i 0) ns.length;generalize hN:(firstMet (fun i=>ns.getD i 0) ns.length).length=N at hl ⊢;refine⟨_,ns,rfl,by rw[← eu];exact hq,hn,fun r hr=>?_⟩;rw[hN];refine⟨r,N,rfl,aD,We,?_⟩;have same:aC H1 (upd H1 r (.ext (V8 X.prog X.w r N))):=aC.upd hr;obtain⟨Z',z',S2⟩:=S1.back (t:=.sh (.int N)) (v:=.int N) (fp:=[]) (W:=Z1) (W':=Z1) same (.refl _) (.refl _) (S1.zh.trans same) (fun a o q z=>by rw[q]at z;cases z) (fun a o q im=>by
     by_cases ha:a=r
     . subst ha;rw[aD]at q;cases q;cases im
     . rw[ak ha]at q;exact S1.tp a o q im) (.sh (.int _)) atA (fun a ha=>by cases ha) (.inl rfl)
   rw[hN]at k;exact k _ _ _ (z1.trans z') (k1.trans same) S2)
def abm{l:AT}{m:Int}(g:Gx X)(hm:X.mg "max" = none)(h:dD X CL b e δ (.lst (l.map .int)) δ1)(af5:m∈l)(hle:∀x∈l,x<=m)(hg:Gl X "max")(hs:AC X e []:=by exact aZ rfl):bO X CL b (.Call (.Name "max" pp) [e] [] pos) δ (.sh (.int m)) δ1:=fun H Z σ ts vs Q S k=>
 bP (qb (Sx g.calm) hg hm boot_max (bY cP dZ hs) (he:=hs)) (h H Z σ ts vs _ S fun v H1 Z1 z1 k1 S1 r=>by
   cases r with
   | @lst a us _ hq rr=>
     have:=zb rr;subst this;exact⟨a,l,m,rfl,hq,af5,hle,k _ H1 Z1 z1 k1 (S1.push (.int _))⟩)
instance aqK:DecidableEq D:=fun a b=>Classical.propDecidable (a=b)
inductive lU:Nat->D->Prop where
 | int (n:Nat) (i:Int):lU n (.int i)
 | str (n:Nat) (x:Str) (h:PyData.strOk x=true):lU n (.str x)
 | tup {n:Nat} {ds:At} (h:∀d∈ds,lU n d):lU (n+1) (.tup ds)
variable{n:Nat}
theorem lU.dep{d:D}(h:lU n d):kQ n d:=by
 induction h with
 | int n i=>exact .int n i
 | str n x h=>exact .str n x h
 | tup _ ih=>exact .tup ih
mutual
inductive NV(h:Heap):D->Value->Prop where
 | int (i:Int) (t:Tok):NV h (.int i) (.int i t)
 | str (x:Str) (t:Tok):NV h (.str x) (.str x t)
 | tup {a:Addr} {o:Obj} {its:D2} {m:Nat} {ds:At}:h.get? a=some o->o.cls=.type "tuple"->o.data=.seq its m->ZP h ds its.toList->NV h (.tup ds) (.ref a)
inductive ZP(h:Heap):At->BY->Prop where
 | nil:ZP h [] []
 | cons {d:D} {v:Value} {ds:At} {vs:BY}:NV h d v->ZP h ds vs->ZP h (d::ds) (v::vs)
end
variable{v:Value}
theorem NV.reads{h:Heap}{d:D}(q:NV h d v):∃as,Reads h v d.toPy as:=
 NV.rec (motive_1:=fun d v _=>∃as,Reads h v d.toPy as) (motive_2:=fun ds vs _=>∃as,ReadsAll h vs (D.eO ds) as)
   (fun i t=>by rw[D.toPy];exact⟨[],.int i t⟩) (fun x t=>by rw[D.toPy];exact⟨[],.str x t⟩)
   (fun e c dt _ ⟨as,ra⟩=>by rw[D.toPy];exact⟨as,.tuple e c dt ra⟩)
   (by rw[D.eO];exact⟨[],.nil⟩) (fun _ _ ⟨as,ra⟩ ⟨bs,rb⟩=>by rw[D.eO];exact⟨as++bs,.cons ra rb⟩) q
theorem NV.inj{h:Heap}{d:D}(q:NV h d v):∀d2,NV h d2 v->d=d2:=
 NV.rec (motive_1:=fun d v _=>∀d2,NV h d2 v->d=d2) (motive_2:=fun ds vs _=>∀d2,ZP h d2 vs->ds=d2)
   (fun i t d2 q=>by cases q;rfl) (fun x t d2 q=>by cases q;rfl)
   (fun e c dt _ ih d2 q=>by
     cases q with
     | tup e' c' dt' r'=>
       cases e.symm.trans e';cases dt.symm.trans dt';rw[ih _ r'])
   (fun d2 q=>by cases q;rfl) (fun _ _ i1 i2 d2 q=>by
     cases q with
     | cons a b=>rw[i1 _ a,i2 _ b]) q
theorem NV.keeps{h h':Heap}{d:D}{x:Addr}{o:Obj}{es:Array DictEntry}{ep:Nat}(q:NV h d v)(ho:h.get? x=some o)(hd:o.data=.dict es ep)(hs:Heap.SameBut x h h'):NV h' d v:=
 NV.rec (motive_1:=fun d v _=>NV h' d v) (motive_2:=fun ds vs _=>ZP h' ds vs) .int .str
   (fun {a} {o2} {its} {m} {ds} e c dt _ ih=>.tup ((hs.2 a fun z=>by subst z;cases ho.symm.trans e;rw[hd]at dt;cases dt).trans e) c dt ih)
   .nil (fun _ _ a b=>.cons a b) q
theorem abn{a b:D}(ha:lU n a):∀m,lU m b->Bk a b=decide (a=b):=by
 induction ha generalizing b with
 | int n i=>
   intro m hb;unfold Bk;cases hb with
   | int _ j=>
     rw[D.toPy,D.toPy,PyData.eqv];by_cases e:i=j
     . rw[e,atz rfl,atV]
     . rw[asS (fun z=>e (by injection z)),ats.mpr e]
   | str _ y _=>rw[D.toPy,D.toPy,PyData.eqv,asS (fun z=>by cases z)]
   | tup _=>rw[D.toPy,D.toPy,PyData.eqv,asS (fun z=>by cases z)]
 | str n x _=>
   intro m hb;unfold Bk;cases hb with
   | int _ j=>rw[D.toPy,D.toPy,PyData.eqv,asS (fun z=>by cases z)]
   | str _ y _=>
     rw[D.toPy,D.toPy,PyData.eqv];by_cases e:x=y
     . rw[e,atz rfl,atV]
     . rw[asS (fun z=>e (by injection z)),ats.mpr e]
   | tup _=>rw[D.toPy,D.toPy,PyData.eqv,asS (fun z=>by cases z)]
 | @tup n xs hx ih=>
   intro m hb;cases hb with
   | int _ j=>unfold Bk;rw[D.toPy,D.toPy,PyData.eqv,asS (fun z=>by cases z)]
   | str _ y _=>unfold Bk;rw[D.toPy,D.toPy,PyData.eqv,asS (fun z=>by cases z)]
   | @tup m ys hy=>
     have all:∀(xs ys:At),(∀x∈xs,∀b m,lU m b->Bk x b=decide (x=b))->(∀y∈ys,lU m y)->PyData.eqvAll (D.eO xs) (D.eO ys)=decide (xs=ys):=by
       intro xs
       induction xs with
       | nil=>
         intro ys _ _;cases ys with
         | nil=>rw[D.eO,PyData.eqvAll,atz rfl]
         | cons _ _=>rw[D.eO,D.eO,PyData.eqvAll,asS (fun z=>by cases z)]
       | cons x xs ihx=>
         intro ys h1 h2;cases ys with
         | nil=>rw[D.eO,D.eO,PyData.eqvAll,asS (fun z=>by cases z)]
         | cons y ys=>
           have e1:PyData.eqv x.toPy y.toPy=decide (x=y):=h1 x ar4 y m (h2 y ar4);rw[D.eO,D.eO,PyData.eqvAll,e1,ihx ys (fun z hz=>h1 z (ar9 _ hz)) fun z hz=>h2 z (ar9 _ hz)];by_cases e:x=y
           . subst e;by_cases e2:xs=ys
             . subst e2;simp
             . simp[e2]
           . simp[e]
     unfold Bk;rw[D.toPy,D.toPy,PyData.eqv,all xs ys (fun x hx2 b m hb=>ih x hx2 m hb) hy];by_cases e:xs=ys
     . subst e;rw[atz rfl,atz rfl]
     . rw[asS e,asS (fun z=>e (by injection z))]
mutual
def D.ZQ:D->Nat
 | .tup ds=>D.xD ds+1
 | _=>1
def D.xD:At->Nat
 | []=>0
 | d::ds=>d.ZQ+D.xD ds
end
theorem Kv(w:World):∀ds:At,D.GO w ds=ds.map (D.Rz w)
 | []=>by rw[D.GO];rfl
 | d::ds=>by rw[D.GO,Kv w ds];rfl
theorem FQ(d:D):∀ds:At,D.xD (ds++[d])=D.xD ds+d.ZQ
 | []=>by rw[atN,D.xD,D.xD,D.xD];omega
 | e::ds=>by rw[asO,D.xD,D.xD,FQ d ds];omega
variable{P:Program}{w:World}{A:Around}{E:BB}
def abo:∀(n:Nat) {A:Around} {E:BB} (hu:A.units+n<cLine) {d:D} {v:Value} {s:Shared} {Q:Int->Shared->Prop},lU n d->NV s.heap d v->Q (d.Rz w) {s with toks:=s.toks+d.ZQ}->wpAny (model P w) A (pyHash v) Q E s:=by
 intro n
 induction n with
 | zero=>
   intro A E hu d v s Q nd q k;cases q with
   | int i t=>exact wpAny_pyHash_int (by rw[D.Rz,D.ZQ]at k;exact k;intro _ z;cases z)
   | str x t=>exact wpAny_pyHash_str (by rw[D.Rz,D.ZQ]at k;exact k;intro _ z;cases z)
   | tup=>cases nd
 | succ n ih=>
   intro A E hu d v s Q nd q k;cases q with
   | int i t=>exact wpAny_pyHash_int (by rw[D.Rz,D.ZQ]at k;exact k;intro _ z;cases z)
   | str x t=>exact wpAny_pyHash_str (by rw[D.Rz,D.ZQ]at k;exact k;intro _ z;cases z)
   | @tup a o its m ds e c dt qs=>
     cases nd with
     | tup nd=>
       have ty:s.TypeIs (.ref a) "tuple":=⟨o,e,c⟩;rw[D.Rz,D.ZQ]at k;unfold pyHash
       first|unfold pyHashByItsType|skip
       first|refine ar0 (wpAny_cRoomFor_or (.inr We) (ar0 (auA ty auH.lookup ?_)))|refine ar0 (auA ty auH.lookup ?_)
       show wpAny _ A (ite ((some (Value.builtin "tuple.__hash__")==some Value.none)=true) _ _) Q E s;rw[ash (by rw[beq_builtin_none];decide)];refine ar0 (auA ty auH.lookup (ar0 (wpAny_callSpecialIfBoundUnlessNone?_slot ty auH (atb auH ty F.entry_tuple_hash ?_ (F.args_tuple_hash_1 _)))));show wpAny _ _ (Builtin.Tuple.tupleItemsOf (.ref a) >>= fun _=>_) _ _ s;refine ar0 (wpAny_tupleItemsOf e dt (ar0 ?_));rw[← Array.forIn_toList];refine wpAny_forIn_list _ (fun rest (g:Array Int) s1=>∃done left,ds=done++left/\ZP s.heap left rest/\g.toList=D.GO w done/\s1={s with toks:=s.toks+D.xD done}) _ ?_ ?_ _ _ ⟨[],ds,rfl,qs,by rw[D.GO],by rw[D.xD];rfl⟩
       . rintro x rest g s1 ⟨done,left,rfl,ql,hg,rfl⟩;cases ql with
         | @cons y _ left _ q1 ql=>
           have inv:∃WL aee,done++y::left=WL++aee/\ZP s.heap aee rest/\(g.push (y.Rz w)).toList=D.GO w WL/\({s with toks:=s.toks+D.xD done+y.ZQ}:Shared)={s with toks:=s.toks+D.xD WL}:=
             ⟨done++[y],left,Uf,ql,by rw[Kv]at hg ⊢;simp[hg],by rw[FQ,Nat.add_assoc]⟩
           refine ar0 (ih (by show A.units+1+n<cLine;omega) (s:={s with toks:=s.toks+D.xD done}) (nd y Uf) q1 ?_)
           first
             | exact asd inv
             | exact ar0 (asd (asd inv))
       . rintro g s1 ⟨done,left,rfl,ql,hg,rfl⟩;cases ql;rw[asx]at k;show wpAny _ _ (retInt (Builtin.Tuple.tupleHashOf g.toList)) _ _ _;rw[hg];refine wpAny_ret_mkInt ?_;generalize Builtin.Tuple.tupleHashOf (D.GO w done)=hv at k ⊢;show wpAny _ _ (ite ((decide (-(2:Int) ^ 63<=hv)&&decide (hv<2 ^ 63))=true) _ _) Q E _;unfold reduceHash at k;by_cases hr:(decide (-(2:Int) ^ 63<=hv)&&decide (hv<2 ^ 63))=true
         . rw[ass hr]at k ⊢;exact wpAny_pure (by simpa [Nat.add_assoc] using k)
         . rw[ash hr]at k ⊢;exact wpAny_bind (wpAny_rule (wpAny_pure (by simpa [Nat.add_assoc] using k)))
def WM:∀(n:Nat) {d:D} {v:Value} {s:Shared} {Q:Bool->Shared->Prop},lU n d->NV s.heap d v->Q true s->wpAny (model P w) A (eqIsQuiet n v) Q E s:=by
 intro n
 induction n with
 | zero=>
   intro d v s Q nd q k;cases q with
   | int i t=>rw[avc _ rfl];exact asd k
   | str x t=>rw[avc _ rfl];exact asd k
   | tup=>cases nd
 | succ n ih=>
   intro d v s Q nd q k;cases q with
   | int i t=>rw[avc _ rfl];exact asd k
   | str x t=>rw[avc _ rfl];exact asd k
   | @tup a o its m ds e c dt qs=>
     cases nd with
     | tup nd=>
       have ty:s.TypeIs (.ref a) "tuple":=⟨o,e,c⟩;unfold eqIsQuiet;refine ar0 (auA ty F.slot_tuple_eq.lookup ?_);refine ar0 (auQ ty isSubtype_tuple_tuple ?_);simp only[Bool.not_true,at4,at5];refine ar0 (wpAny_seqItems e dt (ar0 ?_));show wpAny _ A (forIn its _ _) _ _ s;rw[← Array.forIn_toList];refine wpAny_forIn_list _ (fun rest r s1=>r.1=none/\s1=s/\∃left,ZP s.heap left rest/\∀d∈left,lU n d) _ ?_ ?_ _ _ ⟨rfl,rfl,ds,qs,nd⟩
       . rintro x rest r s1 ⟨hr,rfl,left,ql,hl⟩;cases ql with
         | @cons y _ left _ q1 ql=>
           refine ar0 (ih (hl y ar4) q1 ?_);simp only[Bool.not_true,at4,at5];exact asd ⟨rfl,rfl,left,ql,fun d hd=>hl d (ar9 _ hd)⟩
       . rintro⟨r1,r2⟩ s1 ⟨hr,rfl,_⟩;simp only at hr;subst hr;exact asd k
def sW(P:Program)(w:World):HeapKind P w D where
 is:=fun h d a=>lU 8 d/\NV h d (.ref a)
 hash:=D.Rz w
 draws:=D.ZQ
 room:=fun A=>A.units+9<cLine
 inj:=fun hx hy=>hx.2.inj _ hy.2
 keeps:=fun x ho hd hs=>⟨x.1,x.2.keeps ho hd hs⟩
 pyHash:=fun hu hk h=>abo 8 We hk.1 hk.2 h
 eqBool:=fun {A E s x y a b Q} hu hx hy h=>by
   obtain⟨as,ra⟩:=hx.2.reads;obtain⟨bs,rb⟩:=hy.2.reads;have h1:=hx.1.dep.lay;have h2:=hy.1.dep.lay;have e:PyData.eqv x.toPy y.toPy=decide (x=y):=abn hx.1 8 hy.1;have:=SeqAt.eqAt_reads _ _ A s _ _ _ _ ra rb h1.1 h2.1 (by have:=h1.2;omega);rw[e]at this;exact this P w E Q h
 quiet:=fun hk h=>WM 8 hk.1 hk.2 h
variable{pins:BA}{σ:L2.St}{H:Hp}{s:Shared}
def nvD(I:L2.Inv X pins σ H s){d:D}{v:V}{u:Value}(hd:lU n d)(q:bq X.K CL H d v)(r:RelV v u):NV s.heap d u:=by
 refine bq.rec (motive_1:=fun d v _=>∀(n:Nat) (u:Value),lU n d->RelV v u->NV s.heap d u)
   (motive_2:=fun ds vs _=>∀(n:Nat) (us:BY),(∀d∈ds,lU n d)->Vals vs us->ZP s.heap ds us) (motive_3:=fun _ _ _=>True) (motive_4:=fun _ _ _=>True) (motive_5:=fun _ _ _=>True)
   (fun _ _ hd _=>by cases hd) (fun b _ _ hd _=>by cases hd) (fun i _ _ _ r=>by obtain⟨t,rfl⟩:=r;exact .int i t) (fun x _ _ _ r=>by obtain⟨t,rfl⟩:=r;exact .str x t) (fun _ _ _ hd _=>by cases hd) (fun _ _ _ hd _=>by cases hd) (fun hq _ ih n u hd r=>?tup)
   (fun _ _ _ _ _ hd _=>by cases hd) (fun _ _ _ _ _ hd _=>by cases hd) (fun _ _ _ _ _ hd _=>by cases hd) (fun _ _ _ _ _ hd _=>by cases hd) (fun _ _ _ _ _ _ _ hd _=>by cases hd)
   (fun _ _ _ r=>by cases r;exact .nil) (fun _ _ ih ihs n us h r=>?cons) trivial (fun _ _ _ _=>trivial) trivial (fun _ _ _ _=>trivial) trivial (fun _ _ _ _=>trivial) q n u hd r
 case tup=>
   cases hd with
   | tup hd=>
     cases r;obtain⟨its,rv,⟨o,e,c,k,dt⟩,_⟩:=I.tuple hq;exact .tup e c dt (by simpa using ih _ _ hd rv)
 case cons=>
   cases r with
   | cons r rs=>exact .cons (ih n _ (h _ ar4) r) (ihs n _ (fun e he=>h e (ar9 _ he)) rs)
def ZR(X:Cx)(CL:BC)(H:Hp)(a:Addr)(ds es:At)(vs us:BN):Prop:=H a=some (.ext (JY X.w a ds vs us))/\aB X.K CL H ds vs/\aB X.K CL H es us/\(∀d∈ds,lU 8 d)/\ds.Nodup
variable{a:Addr}{vs us:BN}
theorem ZR.have(I:L2.Inv X pins σ H s){ds es:At}(g:ZR X CL H a ds es vs us) :
   (a==sysModules)=false/\∃xs:Do,s.heap.DictOfH (sW X.prog X.w) a xs/\xs.map (·.1)=ds/\xs.map (fun x=>V.ref x.2.1)=vs/\Vals us (xs.map fun x=>x.2.2):=by
 obtain⟨e,r,_,hn,nd⟩:=g;obtain⟨⟨sm,xs,o,es,ep,h1,h2,h3,h4,h5,h6,h7⟩,_⟩:=I.cW a _ e;refine⟨sm,xs,⟨o,es,ep,h1,h2,h3,h4,fun x hx=>?_,by rw[h5];exact nd⟩,h5,h6,h7⟩;obtain⟨i,hi⟩:=atu.mp hx;have hd:ds[i]? = some x.1:=by rw[← h5,asi,hi];rfl
 have hv:vs[i]? = some (.ref x.2.1):=by rw[← h6,asi,hi];rfl
 obtain⟨v,hv2,rv⟩:=r.get hd;rw[hv]at hv2;cases hv2;have n8:=hn x.1 (asu hd);exact⟨n8,nvD I n8 rv rfl⟩
def aef{xs:Do}{ds:At}{k:D}{u:V}(h:xs.map (·.1)=ds)(nd:ds.Nodup)(hv:Vals us (xs.map fun x=>x.2.2))(hk:k∈ds)(hu:us[ds.idxOf k]? = some u):∃p,atKey xs k=some p/\RelV u p.2:=by
 have hi:ds[ds.idxOf k]? = some k:=by
   rw[ar6 (as3.mpr hk)];exact congrArg some (aui _)
 rw[← h,asi]at hi;obtain⟨x,hx,e⟩:=asF.mp hi;rw[h]at hx;obtain⟨y,hy,ry⟩:=Paired.nth hv hu;rw[asi,hx]at hy;cases hy;exact⟨x.2,atKey_of_get (by rw[h];exact nd) (i:=ds.idxOf k) (by rw[hx,← e]),ry⟩
def akc{xs:Do}{ds:At}{k:D}(h:xs.map (·.1)=ds)(hk:k∉ds):atKey xs k=none:=
 atKey_none_of_get fun j p hj=>hk (by rw[← h];exact asq.mpr ⟨_,asu hj,rfl⟩)
def agw{xs:Do}{ds:At}{k:D}(h:xs.map (·.1)=ds)(nd:ds.Nodup)(hk:k∈ds):∃p,atKey xs k=some p:=by
 rw[← h]at hk nd;obtain⟨x,hx,e⟩:=asq.mp hk;obtain⟨i,hi⟩:=atu.mp hx;exact⟨x.2,atKey_of_get nd (i:=i) (by rw[hi,← e])⟩
def WN{H':Hp}{h':Heap}{ds:At}(g:JY w a ds vs us h'):eN P w H' h' a (.ext (JY w a ds vs us)):=by
 refine⟨g,?_,fun h1 h2 q k=>?_⟩
 . obtain⟨_,_,o,_,_,h1,_⟩:=g;exact⟨o,h1⟩
 . obtain⟨sm,xs,o,es,ep,q1,q2⟩:=q;exact⟨sm,xs,o,es,ep,k o q1,q2⟩
def abp{h':Heap}{c:Addr}{ds:At}{xs:Do}{k:D}{u:V}{r:Value}(sm:(a==sysModules)=false)(dd:h'.DictOfH (sW P w) a (xs++[(k,c,r)]))(h:xs.map (·.1)=ds)(g:xs.map (fun x=>V.ref x.2.1)=vs)(hv:Vals us (xs.map fun x=>x.2.2))(ru:RelV u r) :
   JY w a (ds++[k]) (vs++[.ref c]) (us++[u]) h':=by
 obtain⟨o,es,ep,h1,h2,h3,h4,_,_⟩:=dd;exact⟨sm,_,o,es,ep,h1,h2,h3,h4,by rw[asn,h];rfl,by rw[asn,g];rfl,by rw[asn];exact Paired.snoc hv ru⟩
section
variable{prog:Program}{K:Type}[DecidableEq K]{knd:HeapKind prog w K}
def agx{d:Addr}{xs:List (K×Addr×Value)}{k:K}{Q:BB}(hu:knd.room A)(A1:knd.is s.heap k a)(hm:s.heap.DictOfH knd d xs)(hz:xs.length<=sizeLine)
   (q1:∀p,atKey xs k=some p->Q p.2 {s with toks:=s.toks+knd.draws k})
   (q2:atKey xs k=none->∀h',h'.DictOfH knd d (xs++[(k,a,v)])->Heap.SameBut d s.heap h'->Q v {s with heap:=h',toks:=s.toks+knd.draws k}):wpAny (model prog w) A (dictSetDefault d (.ref a) v) Q E s:=by
 obtain⟨o,es,ep,ho,hc,hd,he,his,hn⟩:=hm;unfold dictSetDefault
 try with_reducible refine atR ?_
 refine ar0 (knd.pyHash hu A1 (ar0 (wpAny_dictFind_heap (s:={s with toks:=s.toks+knd.draws k}) hu A1 ho hd he his hn (fun Fv=>?_) fun j p hj=>?_)))
 . have anR:k∉xs.map (·.1):=not_mem_keys_of_get Fv;refine ar0 (wpAny_rule (ar0 (wpAny_updateDictKeys (hz:=by rw[size_of_entries he];exact hz) (s:={s with toks:=s.toks+knd.draws k}) ho hd (asd (q2 (atKey_none_of_get Fv) _ ⟨_,_,ep+1,atX _ ho (Obj.isFreed_of_dict (Obj.data_mapDictKeys hd _)),hc.mapDictKeys _,Obj.data_mapDictKeys hd _,?_,fun x hx=>?_,?_⟩ (atB ..))))))
   . simp[he,entryOfKey]
   . rcases asf.mp hx with hx|hx
     . exact knd.keeps (his x hx) ho hd (atB ..)
     . rw[asw.mp hx];exact knd.keeps A1 ho hd (atB ..)
   . rw[asn,asX];refine⟨hn,ava _ _,fun x hx y hy e=>anR ?_⟩;have ek:y=k:=asw.mp hy;rw[← ek,← e];exact hx
 . refine ar0 (atm (s:={s with toks:=s.toks+knd.draws k}) ho hd ?_);rw[entry_at he j,hj];exact ar0 (wpAny_rule (asd (q1 p (atKey_of_get hn hj))))
def Kw(knd:HeapKind prog w K)(d a:Addr)(hd:(d==sysModules)=false)(v:Value) :
   MeetsIn prog w (Builtin.«dict.setdefault» ⟨[.ref d,.ref a,v],[]⟩) (fun A R s=>knd.room A.in1/\∃k xs,knd.is s.heap k a/\s.heap.DictOfH knd d xs/\xs.length<=sizeLine ∧
     (∀p,atKey xs k=some p->R (.ok (.ret p.2)) {s with toks:=s.toks+knd.draws k})/\(atKey xs k=none->∀h',h'.DictOfH knd d (xs++[(k,a,v)])->Heap.SameBut d s.heap h'->R (.ok (.ret v)) {s with heap:=h',toks:=s.toks+knd.draws k})):=
 .of_wp fun A R s ⟨hu,k,xs,A1,hm,hz,q1,q2⟩=>by
   unfold Builtin.«dict.setdefault» Builtin.Dict.keyAndDefault;refine ar0 (ar0 (auL hm.typeIs (show wpAny _ _ (pure (d,Value.ref a,some v)) _ _ s from asd ?_)));show wpAny _ _ (ite ((d==sysModules)=true) _ (dictSetDefault d (.ref a) v >>= fun _=>_)) _ _ s;rw[ash (by rw[hd];decide)];exact ar0 (agx hu A1 hm hz (fun p hp=>asd ⟨p.2,rfl,q1 p hp⟩) fun Fv h' dd hs=>asd ⟨v,rfl,q2 Fv h' dd hs⟩)
end
variable{o i:Expr}{es:CS}{apos lW:Pos}{td ty to:TE}{ta:TA}
def PR(h:A.units+64<cLine):(sW P w).room A.in1:=by
 show A.units+1+9<cLine;omega
def abq(h:Heap)(hb:sysModules<h.objs.size):JY w h.objs.size [] [] [] (h.push {cls:=.type "dict",data:=.dict #[]}):=
 ⟨ats.mpr (auj (as8 hb)),[],_,#[],0,asM _ rfl,⟨rfl,rfl,rfl⟩,rfl,rfl,rfl,rfl,.nil⟩
def abr:PE X (.Dict [] [] pos) (fun _ H Q=>∀p,H p=none->Q (.ref p) (upd H p (.ext (JY X.w p [] [] [])))):=fun pins s σ H Q I h=>
 wpAny_Dict_empty ⟨.ref s.heap.objs.size,_,I.laid (a:=s.heap.objs.size) (o:=.ext (JY X.w s.heap.objs.size [] [] [])) (t':=s.toks) (fun _ _ q=>asv _ q) (asp _) (WN (abq s.heap I.big)),rfl,h _ (I.cW.fresh (asp _))⟩
def IxK(X:Cx)(CL:BC)(H:Hp)(k:D)(c:Addr):Prop:=lU 8 k/\bq X.K CL H k (.ref c)
theorem IxK.is{k:D}{c:Addr}(I:L2.Inv X pins σ H s)(h:IxK X CL H k c):(sW X.prog X.w).is s.heap k c:=⟨h.1,nvD I h.1 h.2 rfl⟩
def abt(hu:X.A.units+64<cLine)(ho:PE X o td)(hi:PE X i ty)(hs:RK i):PE X (.Subscript o i pos) (fun σ H Q=>td σ H fun x H1=>ty σ H1 fun y H2=>∃a c ds es vs us k u,x=.ref a/\y=.ref c/\ZR X CL H2 a ds es vs us/\IxK X CL H2 k c/\k∈ds/\us[ds.idxOf k]? = some u/\Q u H2):=by
 intro pins s σ H Q I h;refine Pa PySem.F.slot_dict_getitem.lookup hs (fX (ho pins s σ H _ I h) fun u s1 ⟨x,H1,I1,rx,q1⟩=>fX (hi pins s1 σ H1 _ I1 q1) fun iv s2 zz=>?_);obtain⟨y,H2,I2,ry,a,c,ds,es,vs,us,k,w,ex,ey,g,hk,hm,hw,q2⟩:=zz;subst ex ey;obtain rfl:u=Value.ref a:=rx;obtain rfl:iv=Value.ref c:=ry;obtain⟨sm,xs,dd,h1,h2,h3⟩:=ZR.have I2 g;obtain⟨p,hp,ep⟩:=aef h1 g.2.2.2.2 h3 hm hw;exact⟨dd.typeIs,wpAny_getItem_heap (PR hu) (hk.is I2) dd hp ⟨w,H2,I2.tok _,ep,q2⟩⟩
def Kx:oA X (.builtin "len") (fun xs H Q=>∃a ds es vs us,xs=[.ref a]/\ZR X CL H a ds es vs us/\ds.length<=1000000/\Q (.int (ds.length:Nat)) H):=by
 intro pins s σ H xs us Q I r h;obtain⟨a,ds,es,vs,Mz,rfl,g,hl,q⟩:=h;obtain⟨u,rfl,rx⟩:=vals1 r;cases rx;obtain⟨sm,xs,dd,h1,h2,h3⟩:=ZR.have I g;have ty:=dd.typeIs;obtain⟨ob,es,ep,ho,hc,sU,he,_,_⟩:=dd;have hz:es.size=ds.length:=by rw[size_of_entries he,← h1,ar3]
 refine call_len_slot (n:=(ds.length:Nat)) ty PySem.F.slot_dict_len (fun Q' hq=>?_) We We ⟨.int (ds.length:Nat),H,I.tok _,⟨_,rfl⟩,q⟩;refine atb PySem.F.slot_dict_len ty PySem.F.entry_dict_len ?_ (PySem.F.args_dict_len_1 _);show wpAny _ _ (dictSize a >>= fun _=>_) _ _ s;unfold dictSize;refine ar0 (ar0 (atm ho sU (asd (show wpAny _ _ (Builtin.Dict.pendingCount a >>= fun _=>_) _ _ s from ar0 (wpAny_pendingCount_other sm (wpAny_ret_mkInt ?_))))));rw[hz];simpa using hq
def aeg(X:Cx)(CL:BC):V->BN->Hp->VK->Prop:=fun x xs H Q=>∃a c ds es vs us k v,x=.ref a/\xs=[.ref c,v]/\ZR X CL H a ds es vs us/\IxK X CL H k c/\ds.length<=1000000/\(∀u,k∈ds->Q u H)/\(k∉ds->Q v (upd H a (.ext (JY X.w a (ds++[k]) (vs++[.ref c]) (us++[v])))))
theorem abu(hu:X.A.units+64<cLine):MtM X "dict.setdefault" (aeg X CL):=by
 intro pins s σ H x vs v us Q I rx rv h;obtain⟨a,c,ds,es,ws,Mz,k,v',rfl,rfl,g,hk,hl,q1,q2⟩:=h;cases rx;cases rv with
 | cons r1 rv=>
   cases r1;cases rv with
   | cons r2 rv=>
     cases rv;obtain⟨sm,xs,dd,h1,h2,h3⟩:=ZR.have I g;have hz:xs.length<=sizeLine:=by rw[asD,← ar3 (f:=(·.1)),h1];omega
     refine call_meetsIn PySem.F.slot_dict_setdefault dd.typeIs PySem.F.entry_dict_setdefault (PySem.F.args_dict_setdefault_3 _ _ _) (Kw (sW X.prog X.w) a c sm _) ⟨PR hu,k,xs,hk.is I,dd,hz,fun p hp=>?_,fun Fv h' ZK hs'=>?_⟩
     . by_cases hm:k∈ds
       . have hul:Mz.length=ds.length:=by
           have e1:=atQ h3;rw[ar3]at e1;rw[e1,← h1,ar3]
         have hi:=as3.mpr hm;obtain⟨p2,Jy,ep⟩:=aef h1 g.2.2.2.2 h3 hm (ar6 We);rw[hp]at Jy;cases Jy;exact⟨_,H,I.tok _,ep,q1 _ hm⟩
       . rw[akc h1 hm]at hp;cases hp
     . by_cases hm:k∈ds
       . obtain⟨p2,Jy⟩:=agw h1 g.2.2.2.2 hm;rw[Fv]at Jy;cases Jy
       . have g2:=abp sm ZK h1 h2 h3 r2;exact⟨v',_,GN I (by rw[g.1];exact True.intro) hs' (let ⟨_,_,o,_,_,q,_⟩:=g2;⟨o,q⟩) (WN g2),r2,q2 hm⟩
def abv(hu:X.A.units+64<cLine)(ho:PE X o to)(ha:PA X (e::es) ta)
   (gy:attributeBase o "setdefault" X.env (eval o X.env)=eval o X.env:=by rfl)
   (qN:((backTo lW (starEach (e::es) X.env)).all (fun x=>!x.1)&&(backToKw lW (keywordEach [] X.env)).all (fun x=>x.1.isSome)&&decide ((e::es).length+([]:EO).length+(if ([]:EO).isEmpty then 0 else 1)<30))=true:=by rfl)
   (hline:(apos.endLine==lW.line)=true:=by rfl) (hs:AC X e es:=by rfl) (vS:AL X lW es:=by rfl) :
   PE X (.Call (.Attribute o "setdefault" apos) (e::es) [] lW) (fun σ H Q=>to σ H fun x H1=>∃a ds es vs us,x=.ref a/\ZR X CL H1 a ds es vs us/\ta σ H1 fun xs H2=>aeg X CL x xs H2 Q):=by
 intro pins s σ H Q I h;refine wpAny_Call_method_late gy qN hline rfl (fX (ho pins s σ H _ I h) fun v s1 zz=>?_);obtain⟨x,H1,I1,r1,a,ds,es0,vs,us0,rfl,g,q1⟩:=zz;have Vs:=r1;cases r1;obtain⟨sm,xs,dd,_⟩:=ZR.have I1 g;have ZK:=dd;obtain⟨ob,Uy,ep,h1,h2,h3,h4,h5⟩:=ZK;refine⟨"dict","dict.setdefault",PySem.F.plainAttrs_dict,PySem.F.slot_dict_setdefault,PySem.F.type_dict_setdefault,dd.typeIs,fun a' e'=>⟨ob,by cases e';exact h1,h2.2.1⟩,?_⟩;have hA:=ha lW pins s1 σ H1 _ I1 q1;rw[hs]at hA ⊢;refine auF (by show(false || (backTo lW (starEach es X.env)).any (·.1))=false;rw[vS]<;>rfl) (Calls.evalArgs_plain ?_);exact fX hA fun us s2 ⟨vs,H2,I2,r2,q2⟩=>abu hu pins s2 σ H2 _ vs _ us Q I2 Vs r2 q2
variable{K:Frag}{Z:Hp}{ts:Bn}{v u:V}{ds es:At}{k d:D}
theorem aB.snoc{ds:At}{d:D}(h:aB K CL Z ds vs)(q:bq K CL Z d v):aB K CL Z (ds++[d]) (vs++[v]):=
 aB.ind (P:=fun ds vs=>aB K CL Z (ds++[d]) (vs++[v])) (.cons q .nil) (fun a _ i=>.cons a i) h
theorem aR.akd{p:Addr}(S:aR K CL b H Z δ σ ts vs)(hp:H p=none):aC H (upd H p (.ext (JY w p [] [] [])))/\aR K CL b (upd H p (.ext (JY w p [] [] []))) Z δ σ (.lz w [] []::ts) (.ref p::vs):=by
 obtain⟨fp,gp,e,r,nd,k⟩:=S.rep;have zp:Z p=none:=S.zh.free hp;have sh:aC H (upd H p (.ext (JY w p [] [] []))):=aC.upd hp;have keep:∀a∈fp++gp,a≠p:=fun a ha=>by
   have:∃o,H a=some o:=by
     rcases asf.mp ha with h|h
     . exact e.there a h
     . exact r.there a h
   obtain⟨o,q⟩:=this;exact bL q hp
 refine⟨sh,⟨⟨fp,[p]++gp,e.mono (.refl _) (fun a ha=>ak (keep a (ase _ ha))),.cons (.lz aD .nil .nil) (r.mono (.refl _) fun a ha=>ak (keep a (by simp[ha]))),?_,fun a ha=>?_⟩,S.bh.trans sh,S.zz,S.zh.trans sh,S.new,fun a o q i=>?_,S.tab⟩⟩
 . refine(atq (l₁:=fp) (l₂:=gp) (a:=p)).nodup_iff.mpr (as6.mpr ⟨fun h=>keep p h rfl,nd⟩)
 . rcases asb.mp ((atq (l₁:=fp) (l₂:=gp) (a:=p)).mem_iff.mp ha) with h|h
   . subst h;exact⟨zp,S.bh.free hp⟩
   . exact k a h
 . by_cases h:a=p
   . subst h;rw[aD]at q;cases q;cases i
   . rw[ak h]at q;exact S.tp a o q i
theorem aR.ake{i:Nat}(S:aR K CL b H Z δ σ (.sh k::.sh d::ts) (v::u::vs))(hi:δ[i]? = some (some (.lz w ds es))) :
   ∃a gs hs,σ[i]? = some (some (.ref a))/\H a=some (.ext (JY w a ds gs hs))/\aB K CL Z ds gs/\aB K CL Z es hs/\aR K CL b (upd H a (.ext (JY w a (ds++[k]) (gs++[v]) (hs++[u])))) Z (δ.set i (some (.lz w (ds++[k]) (es++[d])))) σ ts vs:=by
 obtain⟨fp,gp,e,r,nd,kk⟩:=S.rep;obtain⟨v0,f1,f2,f3,hv,oq,rt,put,_⟩:=e.get hi;subst oq;cases rt with
 | @lz a _ gs hs _ _ ha rs rq=>
   cases r with
   | @cons _ _ _ _ ft gr q1 q2=>
     cases q1 with
     | sh q1=>
       cases q2 with
       | @cons _ _ _ _ ft2 gr q3 q2=>
         cases q3 with
         | sh q3=>
           have ne:∀c∈(f1++f3)++gr,c≠a:=fun c hc e=>by
             subst e;have hp:((f1++([c]++f3))++([]++([]++gr))).Perm (c::((f1++f3)++gr)):=by
               rw[atN,atN,List.singleton_append];exact(atq.append_right _)
             exact(as6.mp (hp.nodup_iff.mp nd)).1 hc
           refine⟨a,gs,hs,hv,ha,rs,rq,?_⟩;have r1:bz K CL (upd H a (.ext (JY w a (ds++[k]) (gs++[v]) (hs++[u])))) Z (.lz w (ds++[k]) (es++[d])) (.ref a) [a]:=.lz aD (rs.snoc q1) (rq.snoc q3);have e2:=put (H':=upd H a (.ext (JY w a (ds++[k]) (gs++[v]) (hs++[u])))) (.refl _) (fun c hc=>ak (ne c (by
             rcases asf.mp hc with h|h
             . simp[h]
             . simp[h]))) r1
           rw[c9 hv]at e2;exact S.G4 rfl kk Uf e2 (q2.mono (.refl _) fun c hc=>ak (ne c (by simp[hc]))) nd fun c hc=>hc
section
variable{e1 e2 e3:Expr}{ds es ks:At}{d:L3.D}{px pa:Pos}{i:Nat}{x:Str}{D:dW}
structure abw(ds:At):Prop where
 n:∀d∈ds,lU 8 d
 d:ds.Nodup
 l:ds.length<=1000000
def abx:bO X CL b (.Dict [] [] pos) δ (.lz X.w [] []) δ:=fun H Z σ ts vs Q S kk=>bP abr fun p hp=>by
 obtain⟨c,S1⟩:=S.akd hp;exact kk _ _ Z (.refl _) c S1
def aby(hu:X.A.units+64<cLine)(ok:abw ds)(h1:dD X CL b e1 δ (.lz X.w ds es) δ1)(h2:dD X CL b e2 δ1 (.tup ks) δ2)(hk:L3.D.tup ks∈ds)(hd:es[ds.idxOf (.tup ks)]? = some d)(hs:RK e2:=by exact fun _ _=>rfl):dD X CL b (.Subscript e1 e2 pos) δ d δ2:=fun H Z σ ts vs Q S kk=>
 bP (abt (CL:=CL) hu cP cP hs) (h1 H Z σ ts vs _ S fun v H1 Z1 z1 k1 S1 r1=>h2 H1 Z1 σ ts vs _ S1 fun v2 H2 Z2 z2 k2 S2 r2=>by
   cases r1 with
   | @lz a _ gs hs _ _ ha rr rq=>
     have r2':=r2;cases r2 with
     | tup hq rk=>
       obtain⟨u,hu2,ru⟩:=(rq.mono k2).get hd;exact⟨a,_,ds,es,gs,hs,.tup ks,u,rfl,rfl,⟨k2 _ _ ha,rr.mono k2,rq.mono k2,ok.n,ok.d⟩,⟨ok.n _ hk,r2'⟩,hk,hu2,kk u H2 Z2 (z1.trans z2) (k1.trans k2) S2 ru⟩)
def abz(ok:abw ds)(hm:X.mg "len" = none)(h:dD X CL b e δ (.lz X.w ds es) δ1)(hg:Gl X "len")(hs:AC X e []:=by exact aZ rfl):bO X CL b (.Call (.Name "len" pp) [e] [] pos) δ (.sh (.int (ds.length:Nat))) δ1:=fun H Z σ ts vs Q S k=>
 bP (qb (Kx (CL:=CL)) hg hm PySem.boot_len (bY cP dZ hs) (he:=hs)) (h H Z σ ts vs _ S fun v H1 Z1 z1 k1 S1 r=>by
   cases r with
   | @lz a _ gs hs _ _ ha rr rq=>exact⟨a,ds,es,gs,hs,rfl,⟨ha,rr,rq,ok.n,ok.d⟩,ok.l,k _ H1 Z1 z1 k1 (S1.push (.int _))⟩)
def abA(hu:X.A.units+64<cLine)(ok:abw ds)(n:Vn X i x)(h1:δ[i]? = some (some (.lz X.w ds es)))(h2:bO X CL b e2 δ (.sh (.tup ks)) δ)(h3:bO X CL b e3 δ (.sh d) δ)(hk:lU 8 (.tup ks))
   (gy:attributeBase (.Name x px) "setdefault" X.env (eval (.Name x px) X.env)=eval (.Name x px) X.env:=by rfl)
   (qN:((backTo pos (starEach [e2,e3] X.env)).all (fun x=>!x.1)&&(backToKw pos (keywordEach [] X.env)).all (fun x=>x.1.isSome)&&decide ([e2,e3].length+([]:EO).length+(if ([]:EO).isEmpty then 0 else 1)<30))=true:=by rfl)
   (hline:(pa.endLine==pos.line)=true:=by rfl) (hs:starEach [e2,e3] X.env=(false,eval e2 X.env)::starEach [e3] X.env:=by exact aZ rfl) (JR:AC X e3 []:=by exact aZ rfl) (vS:(backTo pos (starEach [e3] X.env)).any (·.1)=false:=by rfl) :
   A7 X CL b (.Call (.Attribute (.Name x px) "setdefault" pa) [e2,e3] [] pos) δ (.sh .any) (δ.set i (some (if L3.D.tup ks∈ds then .lz X.w ds es else .lz X.w (ds++[.tup ks]) (es++[d])))):=fun H Z σ ts vs Q S kk=>
 bP (abv (CL:=CL) hu (gw n.hi n.hv n.hd n.ko) (bY cP (bY cP dZ JR) hs) gy qN hline hs vS) (by
   obtain⟨v0,e0,r0⟩:=S.look h1;rw[T.bG]at r0;cases r0 with
   | @lz a _ gs0 ZS _ _ ha0 rr0 rq0=>
     refine⟨_,e0,a,ds,es,gs0,ZS,rfl,⟨ha0,rr0,rq0,ok.n,ok.d⟩,h2 H Z σ _ _ _ S fun v2 H2 Z2 z2 k2 S2=>h3 H2 Z2 σ _ _ _ S2 fun v3 H3 Z3 z3 k3 S3=>?_⟩;have rv:=S3.v8;have rk:=S3.pop.v8;have rk':=rk;cases rk with
     | @tup c us _ hq rr=>
       obtain⟨a2,gs,hs1,ea,ha,hg,hh,S4⟩:=((S3.pop.pop.push rv).push rk').ake h1;rw[e0]at ea;cases ea;refine⟨a,c,ds,es,gs,hs1,.tup ks,v3,rfl,rfl,⟨ha,hg.mono S3.zh,hh.mono S3.zh,ok.n,ok.d⟩,⟨hk,rk'.mono S3.zh⟩,ok.l,fun u hm=>?_,fun hm=>?_⟩
       . rw[ass hm]at kk;refine kk _ H3 Z3 (z2.trans z3) ?_;rw[c9 h1];exact S3.pop.pop.push (.any _)
       . rw[ash hm]at kk;exact kk _ _ Z3 (z2.trans z3) (S4.push (.any _)))
end
section
variable{D:dW}{px py pt pa pc:Pos}{x x2:Str}{i i2 kk:Nat}{eW body:CU}{kvs:List (CO×L3.D)}
def agy(g:Gx X)(nm:Ln X i x)(nm2:Ln X i2 x2)(P:Ev)(h:bO X CL b e δ (.sh (.dct kvs)) δ1)(h0:P 0 δ1)(hl:∀j δ,P j δ->i<δ.length/\i2<δ.length)
   (hs:∀(b':Bx) (j:Nat) (k:CO) (d:L3.D) δ,kvs[j]? = some (k,d)->P j δ->cQ X CL b' body ((δ.set i (some (jD k))).set i2 (some (.sh d))) {nx:=P (j+1),rt:=D.rt,bk:=fun δ2=>cQ X CL b eW δ2 D,ct:=P (j+1)}) (hd:∀δ,P kvs.length δ->cQ X CL b eW δ D)
   (gy:attributeBase e "items" X.env (eval e X.env)=eval e X.env:=by rfl) (hline:(pa.endLine==pc.line)=true:=by rfl)
   (h5:(assignEach [.Name x px,.Name x2 py] X.env).map (·.2)=assign (.Name x px) X.env::(assignEach [.Name x2 py] X.env).map (·.2):=by rfl) (h6:(assignEach [.Name x2 py] X.env).map (·.2)=assign (.Name x2 py) X.env::(assignEach [] X.env).map (·.2):=by rfl)
   (h7:(assignEach [.Name x px,.Name x2 py] X.env).length=2:=by rfl) (h8:(assignEach [.Name x px,.Name x2 py] X.env).findIdx? (·.1)=none:=by rfl)
   (hq:∀x,foldedSetIterable (.Call (.Attribute e "items" pa) [] [] pc) X.env x=pure x:=by intro _;rfl):cQ X CL b (.For (.Tuple [.Name x px,.Name x2 py] kk pt) (.Call (.Attribute e "items" pa) [] [] pc) body [] pos::eW) δ D:=bI fun H Z σ ts vs E S M=>
 FP (om (GA g.xe g.calm (WG cP gy hline) (UO g.calm (wZ (oz g.nd nm.hi nm.loc nm.hf) (wZ (oz g.nd nm2.hi nm2.loc nm2.hf) OU h6) h5) h7 h8) Mb hq) (h H Z σ ts vs _ S fun v H1 Z1 z1 k1 S1=>by
   have r:=S1.v8;cases r with
   | @dct a gs _ ha rr=>
     have Kq:kvs.length=gs.length:=rr.length;have abg:∀{Z2 H2:Hp} {kb:Addr} {k:CO},(∀a o,H2 a=some o->ku o=true->Z2 a=some o)->H2 kb=some (.tup (k.map kV))->bz X.K CL H2 Z2 (jD k) (.ref kb) []:=fun tp hk=>.tup (tp _ _ hk rfl) (aJ.ofF (Cq _));have step:∀{b':Bx} {Z2 H2:Hp} {σ2:L2.St} {δ2:AR} {j:Nat} {tp kb:Addr} {k:CO} {v:V},aR X.K CL b' H2 Z2 δ2 σ2 ts vs->cA X.K CL Z2 kvs gs->H2 tp=none->gs[j]? = some (k,v)->H2 kb=some (.tup (k.map kV))->P j δ2->∃d Z3,kvs[j]? = some (k,d)/\aC Z2 Z3/\aR X.K CL b' (upd H2 tp (.tup [.ref kb,v])) Z3 ((δ2.set i (some (jD k))).set i2 (some (.sh d))) ((σ2.set i (some (.ref kb))).set i2 (some v)) ts vs:=by
       intro b' Z2 H2 σ2 δ2 j tp kb k v S3 Lg hT hg hk p2;obtain⟨d,Gu,rd⟩:=Lg.nth hg;have gr:Cg Z2 H2 _ _:=Cg.tup (xs:=[.ref kb,v]) S3.zh S3.tp hT;have S4:=(((S3.grow gr).push (rd.mono gr.z)).PF (abg (S3.grow gr).tp (gr.h _ _ hk))).set (hl j δ2 p2).1;exact⟨d,_,Gu,gr.z,S4.set (by rw[at8];exact(hl j δ2 p2).2)⟩
     rcases ha with ha|⟨o,ha⟩
     . have hH:=S1.zh a _ ha;refine⟨a,gs,rfl,.inl ⟨hH,fun o hz=>?_⟩⟩;have S2:=S1.pop.still ha o;have Ka:cA X.K CL (upd Z1 a (.bG o (.dT gs))) kvs gs:=cA.conv (fun c u q=>by
         by_cases e:c=a
         . subst e;rw[ha]at q;cases q;exact .inr (.inl ⟨gs,o,rfl,aD⟩)
         . exact .inl (by rw[ak e];exact q)) rr
       have t1:∀u,b.B a=some u->u=.dT gs:=fun u q=>by
         have:=S1.bh a u q;rw[hH]at this;exact(asE this).symm
       have t2:∀u,b.Z a=some u->u=.dT gs:=fun u q=>by
         have:=S1.zz a u q;rw[ha]at this;exact(asE this).symm
       have t3:b.Z a=none->b.B a=none:=S1.new a _ ha;have back:∀{Z2:Hp},aC (upd Z1 a (.bG o (.dT gs))) Z2->aC Z (upd Z2 a (.dT gs)):=fun {Z2} s c u q=>by
         have q1:=z1 c u q;by_cases e:c=a
         . subst e;rw[ha]at q1;cases q1;exact aD
         . rw[ak e];exact s c u (by rw[ak e];exact q1)
       refine⟨fun j m σ H2=>m=gs.length-j/\j<=gs.length/\∃Z2 δ2,aC (upd Z1 a (.bG o (.dT gs))) Z2/\aR X.K CL (sV b a (.bG o (.dT gs))) H2 Z2 δ2 σ ts vs/\P j δ2,⟨_,rfl,asU _,_,δ1,.refl _,S2,h0⟩,?_⟩;rintro j m σ2 H2 ⟨rfl,hj,Z2,δ2,s,S3,p2⟩;have za:Z2 a=some (.bG o (.dT gs)):=s a _ aD;by_cases m7:j<gs.length
       . refine .inr ⟨⟨m7,S3.zh a _ za⟩,fun σ' H'=>∃Z2 δ2,aC (upd Z1 a (.bG o (.dT gs))) Z2/\aR X.K CL (sV b a (.bG o (.dT gs))) H' Z2 δ2 σ' ts vs/\P (j+1) δ2,fun σ' H' h=>⟨gs.length-(j+1),We,rfl,m7,h⟩,fun y H' hy=>?_⟩;obtain⟨tp,kb,k,v,hT,rfl,hg,hk,rfl⟩:=hy;obtain⟨d,Z3,Gu,s3,S4⟩:=step S3 (Ka.mono s) hT hg hk p2;have za3:=s3 a _ za;have s:=s.trans s3;refine⟨_,_,rfl,se.of aD,rfl,_,_,rfl,_,_,rfl,rfl,?_⟩;exact hs _ j k d δ2 Gu p2 _ Z3 _ ts vs _ S4 ⟨fun δ' σ' H' Z' s' S' k=>⟨Z',δ',s.trans s',S',k⟩,fun t v H' Z' δ' σ' s' S' k=>.inr ⟨a,o,gs,S'.zh a _ (s' a _ za3),hz,M.rt t v _ _ δ' σ' (back (s.trans s')) (S'.Ho (s' a _ za3) t1 t2 t3) k⟩,fun δ' σ' H' Z' s' S' k=>.inr ⟨a,o,gs,S'.zh a _ (s' a _ za3),hz,M.nx δ' σ' _ _ (back (s.trans s')) (S'.Ho (s' a _ za3) t1 t2 t3) k⟩,fun δ' σ' H' Z' s' S' k=>⟨Z',δ',s.trans s',S',k⟩⟩
       . have ej:j=gs.length:=by omega
         subst ej;exact .inl ⟨⟨asp _,S3.zh a _ za⟩,.inr ⟨a,o,gs,S3.zh a _ za,hz,M.nx δ2 σ2 _ _ (back s) (S3.Ho za t1 t2 t3) (hd δ2 (Kq▸p2))⟩⟩
     . refine⟨a,gs,rfl,.inr ⟨o,S1.zh a _ ha,?_⟩⟩;refine⟨fun j m σ H2=>m=gs.length-j/\j<=gs.length/\∃Z2 δ2,aC Z1 Z2/\aR X.K CL b H2 Z2 δ2 σ ts vs/\P j δ2,⟨_,rfl,asU _,_,δ1,.refl _,S1.pop,h0⟩,?_⟩;rintro j m σ2 H2 ⟨rfl,hj,Z2,δ2,s,S3,p2⟩;have za:Z2 a=some (.bG o (.dT gs)):=s a _ ha;by_cases m7:j<gs.length
       . refine .inr ⟨⟨m7,S3.zh a _ za⟩,fun σ' H'=>∃Z2 δ2,aC Z1 Z2/\aR X.K CL b H' Z2 δ2 σ' ts vs/\P (j+1) δ2,fun σ' H' h=>⟨gs.length-(j+1),We,rfl,m7,h⟩,fun y H' hy=>?_⟩;obtain⟨tp,kb,k,v,hT,rfl,hg,hk,rfl⟩:=hy;obtain⟨d,Z3,Gu,s3,S4⟩:=step S3 (rr.mono s) hT hg hk p2;have s:=s.trans s3;refine⟨_,_,rfl,se.of aD,rfl,_,_,rfl,_,_,rfl,rfl,?_⟩;exact hs _ j k d δ2 Gu p2 _ Z3 _ ts vs _ S4 ⟨fun δ' σ' H' Z' s' S' k=>⟨Z',δ',s.trans s',S',k⟩,fun t v H' Z' δ' σ' s' S' k=>.inl (M.rt t v _ _ δ' σ' (z1.trans (s.trans s')) S' k),fun δ' σ' H' Z' s' S' k=>.inl (M.nx δ' σ' _ _ (z1.trans (s.trans s')) S' k),fun δ' σ' H' Z' s' S' k=>⟨Z',δ',s.trans s',S',k⟩⟩
       . have ej:j=gs.length:=by omega
         subst ej;exact .inl ⟨⟨asp _,S3.zh a _ za⟩,.inl (M.nx δ2 σ2 _ _ (z1.trans s) S3 (hd δ2 (Kq▸p2)))⟩))
end
section
variable{x:Str}{d:D}
def ai{i:Int}{j:Nat}:dD X CL b (.Constant (.int i) j pos) δ (.int i) δ:=au lJ
def fq{j:Nat}:dD X CL b (.Constant (.str x) j pos) δ (.str x) δ:=au fY
def aG(h:Nat.ble n 1000=true:=by rfl):n<=sizeLine:=yV h
variable{α:Type}{l:List α}{u0 u1 u2 v:α}
def Hs:ux (v::l) 0=some v:=gJ (j:=0) rfl
def CB:ux (u0::v::l) 1=some v:=gJ (j:=1) rfl
def Sy:ux (u0::u1::v::l) 2=some v:=gJ (j:=2) rfl
def akf:ux (u0::u1::u2::v::l) 3=some v:=gJ (j:=3) rfl
section
variable{scope:Scope}{Nc:Ap}{C:Addr}{fp:BM}(i:Nat)
def MK(h1:Nc[i]? = some x:=by rfl)(h2:scope.names.lookup x=some .local:=by decide +kernel)(hd:AD x:=by decide)(ko:AE x:=by decide):Vn (cR X scope Nc C s H fp) i x:=Vx h1 h2 hd ko
def WO(h1:Nc[i]? = some x:=by rfl)(h2:scope.names.lookup x=some .free:=by decide +kernel)(hd:AD x:=by decide)(ko:AE x:=by decide):Vn (cR X scope Nc C s H fp) i x:=afP h1 h2 hd ko
def je(h:δ[i]? = some (some (.sh d)):=by rfl)(n:Vn (cR X scope Nc C s H fp) i x:=by exact MK _):dD (cR X scope Nc C s H fp) CL b (.Name x pos) δ d δ:=au (v_ n h)
def i7(h:δ[i]? = some (some (.sh d)):=by rfl)(n:Vn (cR X scope Nc C s H fp) i x:=by exact WO _):dD (cR X scope Nc C s H fp) CL b (.Name x pos) δ d δ:=au (v_ n h)
def sA(h2:scope.names.lookup x=some .globalImplicit:=by decide +kernel):Gl (cR X scope Nc C s H fp) x:=aay h2
end
def akg{l:Ap}{od:ET}{its:D2}{sl:EQ}(h1:X.mg x=some (.ref a))(h2:X.K.lookup a=some ⟨.type "tuple",od,.seq its n,sl⟩)(h3:its.size<=sizeLine:=by exact yV rfl)(h4:Vals (l.map V.str) its.toList:=by repeat (first|exact .nil|refine .cons ⟨_,rfl⟩ ?_)):GT X x l:=ajO h1 h2 h3 h4
abbrev qT(X:Cx)(CL:BC)(b:Bx)(st:Stmt)(N:Ap){A:Type}(arg:A->At)(Pre:A->Prop)(res:A->T):Prop:=∀ ⦃a:A⦄,Pre a->cQ X CL b (dF st) (entry N (arg a)) {nx:=fun _=>res a=.sh .non,rt:=fun zk _=>zk=res a}
end
variable{e1 e2:Expr}{es:CS}{t1 t2:T}{d1 d2:L3.D}{x:Str}
def cFm{k:Nat}{A:Type}{arg:A->At}{Pre:A->Prop}{res:A->T}(a:A)(F:Fc X CL x k n arg Pre res)(hg:Gl X x)(h:TAm X CL b (e::es) δ ((arg a).map T.sh) δ1)(hp:Pre a)(hn:(arg a).length=n:=by rfl)
   (su:AD x:=by decide) (he:AC X e es:=by exact aZ rfl) (hpl:AL X pos es:=by rfl) :
   A7 X CL b (.Call (.Name x pp) (e::es) [] pos) δ (res a) δ1:=fun H Z σ ts vs Q S kk=>by
 obtain⟨f,fd,ps,F1,hm,hk,hb⟩:=F.ex;exact bP (GD F1 F.room hg hm hk hb .nil sG Jz su he hpl) (h H Z σ ts vs _ S fun us H1 Z1 hl z1 S1=>by
   rw[asx];have hl':us.length=(arg a).length:=by rw[hl,ar3]
   have S2:=S1.drops (by simp[hl']);refine⟨Z1,a,S1.zh,S1.tp,S1.Pn hl',hn,hp,S1.RN,fun v H' W' fp hh ww wh nw tp rt nd own=>?_⟩;obtain⟨Z',z',S'⟩:=S2.back hh (.refl _) ww wh nw tp rt nd own (.inl rfl);exact kk v H' Z' (z1.trans z') S')
def PV(hu:X.A.units+64<cLine)(h1:A7 X CL b e1 δ t1 δ1)(f1:t1.bG=d1)(h2:A7 X CL b e2 δ1 t2 δ2)(f2:t2.bG=d2)(k1:kQ 60 d1)(k2:kQ 60 d2):TTm X CL b (.Compare e1 [.NotEq] [e2] pos) δ (!Bk d1 d2) δ2:=fun H Z σ ts vs Q S k=>
 El (qJ (Vz hu) cP cP (mY _)) (h1 H Z σ ts vs _ S fun v1 H1 Z1 z1 S1=>h2 H1 Z1 σ _ _ _ S1 fun v2 H2 Z2 z2 S2=>by
   have r2:=S2.view;have r1:=S2.pop.view;rw[f1]at r1;rw[f2]at r2;exact⟨d1,d2,r1,r2,k1,k2,_,rfl,k H2 Z2 (z1.trans z2) S2.pop.pop⟩)
end L3
namespace Law
open PySem L2 L3
def top(i:Nat):Stmt:=PySem.Challenge.pw_moodtree_k61_whole_least_runs_alike.main.body.getD i (.Pass ⟨0,0,0,0⟩)
def chF:Nat->AT->Int->AT
 | 0,_,_=>[]
 | n+1,es,k=>if k=-1 then [] else k::chF n es (es.getD k.toNat 0)
def chM(es:AT)(m:Int):AT:=chF (es.length+1) es (es.getD m.toNat 0)
def fM(ds:At):T.bG (.lst (ds.map T.sh))=.lst ds:=by rw[T.bG,kP]
def nj(l:AT):(T.lst ((l.map D.int).map T.sh)).clean=true:=by rw[kF];exact sO _
def WQ(FT:Int->Bool)(es:AT)(a b t:Int):Prop:=
 (t=-1/\∀x∈chM es a,x∈chM es b->FT x=false)\/(t∈chM es a/\t∈chM es b/\FT t=true/\∀x∈chM es a,x∈chM es b->FT x=true->x=t\/x∈chM es t)
theorem WQ.symm{FT:Int->Bool}{es:AT}{a b t:Int}(h:WQ FT es a b t):WQ FT es b a t:=by
 rcases h with⟨e,h⟩|⟨h1,h2,h3,h4⟩
 . exact .inl ⟨e,fun x hx hy=>h x hy hx⟩
 . exact .inr ⟨h2,h1,h3,fun x hx hy=>h4 x hy hx⟩
def bJ{ds:At}(h:D.aT ds=true):(T.lst (ds.map T.sh)).clean=true:=by
 rw[kF]
 induction ds with
 | nil=>rfl
 | cons d ds ih=>
   rw[D.aT,asI]at h;rw[asA,T.cM,ih h.2,T.clean,h.1];rfl
def bE(ns:AT)(k:Int):Int:=if k<ns.length then ns.getD k.toNat 0 else 0
def Sz:Bi:=(List.range 26).map (· + 97)++(List.range 10).map (· + 48)
def WR:("abcdefghijklmnopqrstuvwxyz0123456789":Str).cps.toList=Sz:=by decide +kernel
def A8(k:Int):Str:=⟨#[Sz.getD k.toNat 0]⟩
def agA:∀n∈Sz,n<1114112:=by decide +kernel
def WT(k:Int):PyData.strOk (A8 k)=true:=by
 unfold PyData.strOk A8;have:Sz.getD k.toNat 0<1114112:=by
   rw[asj];cases e:Sz[k.toNat]? with
   | none=>decide
   | some n=>exact agA n (asu e)
 simpa [List.getD_eq_getElem?_getD] using this
def abB(m:Int):Int:=(m*48271+11) % 2147483647
def nk(p:Int×Str):Nat->Int×Str
 | 0=>p
 | n+1=>(abB (nk p n).1,(nk p n).2++A8 (abB (nk p n).1 % 36))
def nm0(c:Int):Int×Str:=(c / 12 % 10 ^ (9:Int).toNat,A8 (c / 12 % 10 ^ (9:Int).toNat % 26))
theorem WU(p:Int×Str)(n:Nat):(nk p n).2.length=p.2.length+n:=by
 induction n with
 | zero=>rfl
 | succ n ih=>
   show((nk p n).2++A8 _).length=_;rw[str_len,ih];show _+1=_;omega
theorem akh(p:Int×Str)(h:PyData.strOk p.2=true)(n:Nat):PyData.strOk (nk p n).2=true:=by
 induction n with
 | zero=>exact h
 | succ n ih=>exact Mp _ _ ih (WT _)
def ZT(c:Int):Str:=(nk (nm0 c) (c % 12).toNat).2
def PX(c:Int):(ZT c).length<=12:=by
 unfold ZT;rw[WU];have h1:=asP c (show(12:Int)≠0 by decide);have h2:=asQ c (show(0:Int)<12 by decide);show 1+(c % 12).toNat<=12;omega
def w13:Ap:=["all","and","box","call","do","far","if","in","leaf","near","on","one","open"]
def w6:Ap:=["out","put","say","shut","then","to"]
def jf(c:Int):Str:=if ZT c∈w13 then ZT c++"0" else if ZT c∈w6 then ZT c++"0" else ZT c
def xE(c:Int):PyData.strOk (jf c)=true:=by
 have hb:PyData.strOk (ZT c)=true:=akh _ (WT _) _;have h0:PyData.strOk ("0":Str)=true:=by decide +kernel
 unfold jf;split
 . exact Mp _ _ hb h0
 . split
   . exact Mp _ _ hb h0
   . exact hb
abbrev St3:=AT×AT×AT
inductive J where
 | out (m:Int)|Ck (m:Int)|keep (m p q:Int)|put (x p q:Int)|WV (w:Str) (ds:At)
def J.w:J->Str
 | .out _=>"out"
 | .Ck _=>"in"
 | .keep _ _ _=>"keep"
 | .put _ _ _=>"put"
 | .WV w _=>w
def J.ds:J->At
 | .out m=>[.int m]
 | .Ck m=>[.int m]
 | .keep m p q=>[.int m,.int p,.int q]
 | .put x p q=>[.int x,.int p,.int q]
 | .WV _ ds=>ds
def J.d(r:J):D:=.tup (.str r.w::r.ds)
def abC:Ap:=["sign","way","call","say","rest"]
def WW(d:D):Prop:=(∃i,d=.int i)\/∃x,d=.str x
def J.ok(s:St3):J->Prop
 | .keep m _ _=>0<=m/\m<s.2.1.length
 | .put x _ _=>0<=x/\x<s.2.2.length
 | .WV w ds=>w∈abC/\ds.length<=3/\∀d∈ds,WW d
 | _=>True
def CD(back:Bool)(r:J)(bs:AT):AT:=match r with
 | .put x p q=>bs.set x.toNat (if back then p else q)
 | _=>bs
variable{s:St3}
theorem J.alZ{r:J}(h:r.ok s):r.ds.length<=3/\∀d∈r.ds,WW d:=by
 cases r with
 | WV w ds=>exact h.2
 | out m=>exact⟨ar8 rfl,fun d hd=>by simp only[J.ds,asb,aso,as7]at hd;exact .inl ⟨_,hd⟩⟩
 | Ck m=>exact⟨ar8 rfl,fun d hd=>by simp only[J.ds,asb,aso,as7]at hd;exact .inl ⟨_,hd⟩⟩
 | keep m p q=>exact⟨ar8 rfl,fun d hd=>by
     simp only[J.ds,asb,aso,as7]at hd;rcases hd with h|h|h<;>exact .inl ⟨_,h⟩⟩
 | put m p q=>exact⟨ar8 rfl,fun d hd=>by
     simp only[J.ds,asb,aso,as7]at hd;rcases hd with h|h|h<;>exact .inl ⟨_,h⟩⟩
def Right(n:Nat)(s:St3):J->Prop
 | .out m=>m∈s.1
 | .Ck m=>m∉s.1/\0<=m/\m<n
 | .keep m p _=>0<=m/\m<s.2.1.length/\s.2.1.getD m.toNat 0=p
 | .put x p _=>0<=x/\x<s.2.2.length/\s.2.2.getD x.toNat 0=p
 | .WV w ds=>w∈abC/\ds.length<=3/\∀d∈ds,WW d
variable{n:Nat}
theorem Right.ok{r:J}(h:Right n s r):r.ok s:=by
 cases r with
 | out m=>trivial
 | Ck m=>trivial
 | keep m p q=>exact⟨h.1,h.2.1⟩
 | put m p q=>exact⟨h.1,h.2.1⟩
 | WV w ds=>exact h
def J.WX:J->Bool
 | .put _ _ _=>true
 | _=>false
def agB{w:Str}(h:w∈abC):¬ w="put" /\ ¬ w="keep" /\ ¬ w="in" /\ ¬ w="out":=by
 have:∀w∈abC,¬ w="put" /\ ¬ w="keep" /\ ¬ w="in" /\ ¬ w="out":=by decide +kernel
 exact this w h
theorem aki{r:J}(h:r.ok s):decide (r.w="put")=r.WX:=by
 cases r with
 | WV w ds=>exact asS (agB h.1).1
 | _=>first|exact decide_eq_true rfl|(refine decide_eq_false ?_;dsimp only [J.w];decide +kernel)
def akj(r:J):ux (D.str r.w::r.ds) 0=some (.str r.w):=gJ (j:=0) rfl
def WY(back:Bool)(r:J)(l:AT):(CD back r l).length=l.length:=by
 cases r<;>first|rfl|exact at8
def fZ(bx mo:Int)(bs:AT):Int:=if bx=-1 then mo else bs.getD bx.toNat 0+mo
inductive fz where
 | put (x b m:Int)
 | call (s:Str)
 | say (s:Str) (b m:Int)
def fz.w:fz->Str
 | .put _ _ _=>"put"
 | .call _=>"call"
 | .say _ _ _=>"say"
def fz.ds:fz->At
 | .put x b m=>[.int x,.tup [.int b,.int m]]
 | .call s=>[.str s]
 | .say s b m=>[.str s,.tup [.int b,.int m]]
def fz.d(q:fz):D:=.tup (.str q.w::q.ds)
def tOk(bs:AT)(b:Int):Prop:=b=-1\/(0<=b/\b<bs.length)
def fz.ok(bs:AT):fz->Prop
 | .put x b _=>(0<=x/\x<bs.length)/\tOk bs b
 | .call _=>True
 | .say _ b _=>tOk bs b
def fz.row(bs:AT):fz->J
 | .put x b m=>.put x (bs.getD x.toNat 0) (fZ b m bs)
 | .call s=>.WV "call" [.str s]
 | .say s b m=>.WV "say" [.str s,.int (fZ b m bs)]
theorem SD{q:fz}(h:q.ok s.2.2):Right n s (q.row s.2.2):=by
 cases q with
 | put x b m=>exact⟨h.1.1,h.1.2,rfl⟩
 | call s=>exact⟨Wl,by show 1<=3;decide,fun d hd=>by simp only[asb,aso,as7]at hd;exact .inr ⟨_,hd⟩⟩
 | say s b m=>exact⟨Wl,by show 2<=3;decide,fun d hd=>by
     simp only[asb,aso,as7]at hd;rcases hd with e|e
     . exact .inr ⟨_,e⟩
     . exact .inl ⟨_,e⟩⟩
variable{bs:AT}
def agC{q:fz}(h:q.ok bs):∃o m,(q.row bs).ok (o,m,bs):=⟨[],[],(SD (n:=0) (s:=([],[],bs)) h).ok⟩
def Br(bs:AT)(q:fz):(q.row bs).d.kB=true:=by cases q<;>rfl
def xF(q:fz):q.d.kB=true:=by cases q<;>rfl
def ZU(bs:AT)(q:fz):AT:=CD false (q.row bs) bs
def PY(bs:AT)(q:fz):(ZU bs q).length=bs.length:=WY ..
theorem WZ(qs:List fz):∀bs:AT,(qs.foldl ZU bs).length=bs.length:=by
 induction qs with
 | nil=>intro bs;rfl
 | cons q qs ih=>intro bs;rw[aum,ih,PY]
def qj:List fz->AT->List J
 | [],_=>[]
 | q::qs,bs=>q.row bs::qj qs (ZU bs q)
def FU:fz->Option Str
 | .call s=>some s
 | _=>none
def oZ(qs:List fz):Ap:=qs.filterMap FU
theorem W0(qs:List fz)(q:fz):∀bs:AT,qj (qs++[q]) bs=qj qs bs++[q.row (qs.foldl ZU bs)]:=by
 induction qs with
 | nil=>intro bs;rfl
 | cons p qs ih=>intro bs;rw[asO,qj,ih,qj,aum,asO]
theorem W2(qs:List fz):∀bs:AT,(qj qs bs).length=qs.length:=by
 induction qs with
 | nil=>intro bs;rfl
 | cons p qs ih=>intro bs;rw[qj,asN,ih,asN]
theorem PZ{b2:AT}(h:b2.length=bs.length)(q:fz)(hq:q.ok bs):q.ok b2:=by
 cases q with
 | put x b m=>
   have hq:(0<=x/\x<bs.length)/\tOk bs b:=hq;show(0<=x/\x<b2.length)/\tOk b2 b;unfold tOk at hq ⊢;rw[h];exact hq
 | call s=>trivial
 | say s b m=>
   have hq:tOk bs b:=hq;show tOk b2 b;unfold tOk at hq ⊢;rw[h];exact hq
variable{α:Type}
def kH{l:List α}{j:Nat}{x:α}(h:l[j]? = some x):l.take (j+1)=l.take j++[x]:=by rw[as9,h];rfl
inductive It where
 | out (m:Int)|keep (m p q:Int)|way (i:Int)|Ck (m:Int)|dQ (q:fz)
def It.sj:It->J
 | .out m=>.out m
 | .keep m p q=>.keep m p q
 | .way i=>.WV "way" [.int i]
 | .Ck m=>.Ck m
 | .dQ q=>.WV q.w q.ds
def It.d(x:It):D:=x.sj.d
def It.j(bs:AT):It->J
 | .dQ q=>q.row bs
 | x=>x.sj
def It.ok(bs:AT):It->Prop
 | .dQ q=>q.ok bs
 | _=>True
def It.af(bs:AT):It->AT
 | .dQ q=>ZU bs q
 | _=>bs
def It.call:It->Option Str
 | .dQ q=>FU q
 | _=>none
def It.told:It->Bool
 | .dQ _=>true
 | _=>false
def cN:Ap:=["out","keep","way","in"]
theorem Bs(x:It):decide (x.sj.w∈cN)=!x.told:=by
 cases x with
 | dQ q=>
   cases q with
   | put x b m=>show decide (("put":Str)∈cN)=false;decide +kernel
   | call s=>show decide (("call":Str)∈cN)=false;decide +kernel
   | say s b m=>show decide (("say":Str)∈cN)=false;decide +kernel
 | out m=>show decide (("out":Str)∈cN)=true;decide +kernel
 | keep m p q=>show decide (("keep":Str)∈cN)=true;decide +kernel
 | way i=>show decide (("way":Str)∈cN)=true;decide +kernel
 | Ck m=>show decide (("in":Str)∈cN)=true;decide +kernel
theorem Ht(x:It):x.d.kB=true:=by
 cases x with
 | dQ q=>exact xF q
 | _=>rfl
theorem W3(bs:AT)(x:It):(x.j bs).d.kB=true:=by
 cases x with
 | dQ q=>exact Br bs q
 | _=>rfl
theorem SG(bs:AT)(x:It):(x.af bs).length=bs.length:=by
 cases x with
 | dQ q=>exact PY bs q
 | _=>rfl
abbrev _root_.Cc:=List It
theorem qU(xs:Cc):∀bs:AT,(xs.foldl It.af bs).length=bs.length:=by
 induction xs with
 | nil=>intro bs;rfl
 | cons x xs ih=>intro bs;rw[aum,ih,SG]
def sX:Cc->AT->List J
 | [],_=>[]
 | x::xs,bs=>x.j bs::sX xs (x.af bs)
def aV(xs:Cc):Ap:=xs.filterMap It.call
theorem abE(xs:Cc)(ys:Cc):∀bs:AT,sX (xs++ys) bs=sX xs bs++sX ys (xs.foldl It.af bs):=by
 induction xs with
 | nil=>intro bs;rfl
 | cons p xs ih=>intro bs;rw[asO,sX,ih,sX,aum,asO]
theorem xG(xs:Cc):∀bs:AT,(sX xs bs).length=xs.length:=by
 induction xs with
 | nil=>intro bs;rfl
 | cons p xs ih=>intro bs;rw[sX,asN,ih,asN]
theorem Hu(xs:Cc):∀bs:AT,D.aT ((sX xs bs).map J.d)=true:=by
 induction xs with
 | nil=>intro bs;rfl
 | cons x xs ih=>intro bs;rw[sX,asA,D.aT,W3,ih];rfl
theorem SJ(qs:List fz):∀bs:AT,D.aT ((qj qs bs).map J.d)=true:=by
 induction qs with
 | nil=>intro bs;rfl
 | cons q qs ih=>intro bs;rw[qj,asA,D.aT,Br,ih];rfl
def Ky(xs:Cc)(x:It):aV (xs++[x])=aV xs++x.call.toList:=by
 unfold aV;rw[List.filterMap_append];congr 1
theorem abF{b2:AT}(h:b2.length=bs.length)(x:It)(hx:x.ok bs):x.ok b2:=by
 cases x with
 | dQ q=>exact PZ h q hx
 | _=>trivial
theorem qV:∀{ds:At},D.aT ds=true->T.cM (ds.map T.sh)=true
 | [],_=>rfl
 | d::ds,h=>by
   rw[D.aT,asI]at h;rw[asA,T.cM,qV h.2,T.clean,h.1];rfl
def ML{l1 l2 l3:At}(h1:D.aT l1=true)(h2:D.aT l2=true)(h3:D.aT l3=true):(T.tup [.lst (l1.map T.sh),.lst (l2.map T.sh),.lst (l3.map T.sh)]).clean=true:=by
 rw[T.clean,T.cM,T.cM,T.cM,T.cM,kF,kF,kF,qV h1,qV h2,qV h3];rfl
def MN(bs bs2:AT)(q:fz):(T.tup [.lst ((bs2.map D.int).map T.sh),.sh (q.row bs).d]).clean=true:=by
 rw[T.clean,T.cM,T.cM,T.cM,T.clean,T.clean,sO,Br];rfl
variable{d:D}
def aeh{ds:At}:ux (d::ds) 0=some d:=gJ (j:=0) rfl
def oE:Ap:=["out","keep","way","in"]
def J.told(r:J):Bool:=!decide (r.w∈oE)
theorem abG(bs:AT)(x:It):(x.j bs).told=x.told:=by
 cases x with
 | dQ q=>
   cases q with
   | put x b m=>show(!decide (("put":Str)∈oE))=true;decide +kernel
   | call s=>show(!decide (("call":Str)∈oE))=true;decide +kernel
   | say s b m=>show(!decide (("say":Str)∈oE))=true;decide +kernel
 | out m=>show(!decide (("out":Str)∈oE))=false;decide +kernel
 | keep m p q=>show(!decide (("keep":Str)∈oE))=false;decide +kernel
 | way i=>show(!decide (("way":Str)∈oE))=false;decide +kernel
 | Ck m=>show(!decide (("in":Str)∈oE))=false;decide +kernel
theorem xH:∀(xs:Cc) (bs:AT),(xs.filter It.told).foldl It.af bs=xs.foldl It.af bs
 | [],_=>rfl
 | x::xs,bs=>by
   rw[aum,aut];cases x with
   | dQ q=>rw[ass (show It.told (.dQ q)=true from rfl),aum];exact xH xs _
   | _=>exact xH xs bs
theorem Hv:∀(xs:Cc) (bs:AT),sX (xs.filter It.told) bs=(sX xs bs).filter J.told
 | [],_=>rfl
 | x::xs,bs=>by
   rw[sX,aut,aut,abG];cases x with
   | dQ q=>rw[ass (show It.told (.dQ q)=true from rfl),ass (show It.told (.dQ q)=true from rfl),sX];exact congrArg _ (Hv xs _)
   | _=>exact Hv xs bs
theorem qW:∀(xs:Cc),aV (xs.filter It.told)=aV xs
 | []=>rfl
 | x::xs=>by
   unfold aV;rw[aut];cases x with
   | dQ q=>
     rw[ass (show It.told (.dQ q)=true from rfl),ati,ati];have:=qW xs;unfold aV at this;rw[this]
   | _=>exact qW xs
def trB(m:Nat)(p:Int):Int:=p % ((m:Int)+1)-1
def trC(m:Nat)(p:Int):Int:=p / ((m:Int)+1) / 3
def trM(m:Nat)(p:Int):Int:=if p / ((m:Int)+1) % 3=0 then trC m p % (2*10 ^ (9:Int).toNat+1)-10 ^ (9:Int).toNat else trC m p % 7-3
def trP(m:Nat)(p:Int):Int:=if p / ((m:Int)+1) % 3=0 then trC m p / (2*10 ^ (9:Int).toNat+1) else trC m p / 7
def wN(k:Int):Str:=("w":Str)++(toString k:Str)
def pcI(m:Nat)(hs:Ap)(p:Int):It:=
 if p % 9<4 then([.out 1,.keep 0 (-1) 2,.way (p / 9 % 5),.Ck 2]:Cc).getD (p % 9).toNat (.out 1)
 else if p % 9<6/\0<m then .dQ (.put (p / 9 % (m:Int)) (trB m (p / 9 / (m:Int))) (trM m (p / 9 / (m:Int))))
 else if p % 9<8 then .dQ (.say (wN (p / 9 % 3)) (trB m (p / 9 / 3)) (trM m (p / 9 / 3)))
 else .dQ (.call (hs.getD (p / 9 % (hs.length:Int)).toNat Str.empty))
def pcP(m:Nat)(hs:Ap)(p:Int):Int:=
 if p % 9<4 then p / 9 / 5
 else if p % 9<6/\0<m then trP m (p / 9 / (m:Int))
 else if p % 9<8 then trP m (p / 9 / 3)
 else p / 9 / (hs.length:Int)
def scR(m:Nat)(hs:Ap)(p:Int):Nat->Int
 | 0=>p
 | j+1=>pcP m hs (scR m hs p j)
def scI(m:Nat)(hs:Ap)(p:Int):Cc:=(List.range (p % 4).toNat).map fun j=>pcI m hs (scR m hs (p / 4) j)
def scP(m:Nat)(hs:Ap)(p:Int):Int:=scR m hs (p / 4) (p % 4).toNat
abbrev agD:=Str×Int×Int×Int×Int
def mkL:Ap:=["<","<=","=","!="]
def akO(m:Nat)(p:Int):agD:=(mkL.getD (p % 4).toNat Str.empty,trB m (p / 4),trM m (p / 4),trB m (trP m (p / 4)),trM m (trP m (p / 4)))
def akP(m:Nat)(p:Int):Int:=trP m (trP m (p / 4))
def akR(m:Nat)(p:Int):Nat->Int
 | 0=>p
 | j+1=>akP m (akR m p j)
def akL(m:Nat)(p:Int)(n:Nat):List agD:=(List.range n).map fun j=>akO m (akR m p j)
abbrev MP:=List agD×Cc×Int
def rwN(p:Int):Nat:=(1+p % 2).toNat
def rwQ(m:Nat)(p:Int):Int:=akR m (p / 2) (rwN p)
def rwO(m:Nat)(hs:Ap)(f:Nat)(p:Int):MP:=(akL m (p / 2) (rwN p),scI m hs (rwQ m p),scP m hs (rwQ m p) % (f:Int))
def rwP(m:Nat)(hs:Ap)(f:Nat)(p:Int):Int:=scP m hs (rwQ m p) / (f:Int)
def rwR(m:Nat)(hs:Ap)(f:Nat)(p:Int):Nat->Int
 | 0=>p
 | j+1=>rwP m hs f (rwR m hs f p j)
def rwL(m:Nat)(hs:Ap)(f:Nat)(p:Int)(n:Nat):List MP:=(List.range n).map fun j=>rwO m hs f (rwR m hs f p j)
def rwE(m:Nat)(hs:Ap)(f:Nat)(p:Int):MP:=([],scI m hs p,scP m hs p % (f:Int))
def tbR(m:Nat)(hs:Ap)(f:Nat)(c:Int):List MP:=
 rwL m hs f (c % 10 ^ (64:Int).toNat / 3) (c % 10 ^ (64:Int).toNat % 3).toNat++[rwE m hs f (rwR m hs f (c % 10 ^ (64:Int).toNat / 3) (c % 10 ^ (64:Int).toNat % 3).toNat)]
abbrev bT:=CO
def kyR(hs:Ap)(a k:Nat):bT:=[.inl (a:Int),.inr (hs.getD k Str.empty)]
def dcR(s:AT)(m:Nat)(hs:Ap)(f a k:Nat):List MP:=tbR m hs f (bE s (4+2*(a:Int)+(k:Int)))
def dcI(s:AT)(m:Nat)(hs:Ap)(f a n:Nat):List (bT×List MP):=(List.range n).map fun k=>(kyR hs a k,dcR s m hs f a k)
def dcO(s:AT)(m:Nat)(hs:Ap)(f n:Nat):List (bT×List MP):=(List.range n).flatMap fun a=>dcI s m hs f a hs.length
variable{m f a:Nat}{hs:Ap}
def abH{s:AT}:(dcI s m hs f a n).length=n:=by unfold dcI;rw[ar3,asz]
def W4{s:AT}:dcO s m hs f (n+1)=dcO s m hs f n++dcI s m hs f n hs.length:=by
 unfold dcO;rw[atw,auV];simp
theorem abI{s:AT}{m:Nat}{hs:Ap}{f:Nat}:∀n,(dcO s m hs f n).length=n*hs.length
 | 0=>by simp[dcO]
 | n+1=>by rw[W4,asa,abH,abI n,Nat.succ_mul]
def isLt(c:Nat):Bool:=decide (97<=c)&&decide (c<=122)
def akl(c:Nat):Bool:=decide (48<=c)&&decide (c<=57)
def al4(c:Nat):ad4 ⟨#[c]⟩ "abcdefghijklmnopqrstuvwxyz0123456789" = (isLt c || akl c):=by
 unfold ad4;rw[PySem.StrLaws.found_one];have e:("abcdefghijklmnopqrstuvwxyz0123456789":Str).cps.toList=(List.range 26).map (· + 97)++(List.range 10).map (· + 48):=by decide +kernel
 rw[e];apply auX.mpr;simp only[isLt,akl,decide_eq_true_eq,asI,Bool.or_eq_true,asf,asq,as4];constructor
 . rintro(⟨a,h,rfl⟩|⟨a,h,rfl⟩)<;>omega
 . intro h;rcases h with h|h
   . exact .inl ⟨c-97,We,We⟩
   . exact .inr ⟨c-48,We,We⟩
inductive LkA
 | anZ (x:Str) (m:Int)
 | num (mk:Str) (a1 c1 a2 c2:Int)
def an0:LkA->Prop
 | .anZ x _=>x∈(["open","shut"]:Ap)
 | .num mk _ _ _ _=>¬ mk∈(["open","shut"]:Ap)
def aq6:D->D
 | .tup [_,_,_,d,_,_]=>d
 | d=>d
inductive DdG
 | put (i a c:Int)
 | say (w x:Str) (a c:Int)
 | call (x:Str)
structure LgW where
 src:Int
 sign:Str
 al:List LkA
 dl:List DdG
 tgt:Int
 mode:Str
def LgW.ok(w:LgW):Prop:=w.sign.length<=1000/\∀q∈w.al,an0 q
variable{bs hs bg pr:At}{R:D}{TR:T}
def A9(bs hs bg pr:At)(R:D):Cn:=[("boxes",.lst bs),("signs",.lst hs),("begin",.tup bg),("flats",.lst pr),("rows",R)]
def vq(bs hs bg pr:At)(t:T):B1:=[("boxes",.lst (bs.map T.sh)),("signs",.lst (hs.map T.sh)),("begin",.sh (.tup bg)),("flats",.lst (pr.map T.sh)),("rows",t)]
def sY:List.lookup ("boxes":Str) (A9 bs hs bg pr R)=some (.lst bs):=by
 unfold A9;rw[ig]
def jE:List.lookup ("signs":Str) (A9 bs hs bg pr R)=some (.lst hs):=by
 unfold A9;rw[aS Wl,ig]
def sZ:List.lookup ("begin":Str) (A9 bs hs bg pr R)=some (.tup bg):=by
 unfold A9;rw[aS Wl,aS Wl,ig]
def tu:List.lookup ("flats":Str) (A9 bs hs bg pr R)=some (.lst pr):=by
 unfold A9;rw[aS Wl,aS Wl,aS Wl,ig]
def nq:List.lookup ("rows":Str) (A9 bs hs bg pr R)=some R:=by
 unfold A9;rw[aS Wl,aS Wl,aS Wl,aS Wl,ig]
def zl:List.lookup ("rows":Str) (vq bs hs bg pr TR)=some TR:=by
 unfold vq;rw[aS Wl,aS Wl,aS Wl,aS Wl,ig]
def W5{t2:T}:jM "rows" t2 (vq bs hs bg pr TR)=vq bs hs bg pr t2:=by
 unfold vq;rw[aW Wl,aW Wl,aW Wl,aW Wl,uB]
def SK{y:Addr}{l:List (bT×T)}{t2:T}:T.ni [.fld "rows"] t2 (.pin y (.ins "Table" (vq bs hs bg pr (.dct l))))=.pin y (.ins "Table" (vq bs hs bg pr t2)):=by
 have hk:(T.core (.pin y (.ins "Table" (vq bs hs bg pr (.dct l))))).Lj (.fld "rows")=some (.dct l):=zl (bs:=bs) (hs:=hs) (bg:=bg) (pr:=pr);rw[T.ni,hk];show T.pin y (.ins "Table" (jM "rows" t2 (vq bs hs bg pr (.dct l))))=_;rw[W5]
def cy(kvs:List (bT×At)):List (bT×T):=kvs.map fun q=>(q.1,T.lst (q.2.map T.sh))
def iK(kvs:List (bT×At)):List (bT×D):=kvs.map fun q=>(q.1,D.lst q.2)
def xJ(bs hs bg pr:At)(kvs:List (bT×At)):B1:=vq bs hs bg pr (.dct (cy kvs))
def eX(bs hs bg pr:At)(kvs:List (bT×At)):D:=.ins "Table" (A9 bs hs bg pr (.dct (iK kvs)))
theorem uF(kvs:List (bT×At)):T.Ek (cy kvs)=iK kvs:=by
 induction kvs with
 | nil=>show T.Ek []=[];rw[T.Ek]
 | cons q r ih=>
   show T.Ek ((q.1,T.lst (q.2.map T.sh))::cy r)=(q.1,D.lst q.2)::iK r;rw[T.Ek,fM,ih]
def Kz(bs hs bg pr:At)(kvs:List (bT×At)):T.bG (.ins "Table" (xJ bs hs bg pr kvs))=eX bs hs bg pr kvs:=by
 unfold xJ vq eX A9;rw[T.bG,T.oj,T.oj,T.oj,T.oj,T.oj,T.oj,fM,fM,fM,T.bG,T.bG,uF]
theorem AG{kvs:List (bT×At)}(h:∀q∈kvs,D.aT q.2=true):T.qO (cy kvs)=true:=by
 induction kvs with
 | nil=>show T.qO []=true;rw[T.qO]
 | cons q r ih=>
   show T.qO ((q.1,T.lst (q.2.map T.sh))::cy r)=true;rw[T.qO,bJ (h q ar4),ih fun p hp=>h p (ar9 _ hp)];rfl
def qX{kvs:List (bT×At)}(h1:D.aT bs=true)(h2:D.aT hs=true)(h3:D.aT bg=true)(h4:D.aT pr=true)(h5:∀q∈kvs,D.aT q.2=true):T.kC (xJ bs hs bg pr kvs)=true:=by
 unfold xJ vq;rw[T.kC,T.kC,T.kC,T.kC,T.kC,T.kC,bJ h1,bJ h2,bJ h4,T.clean,T.clean,D.kB,h3,AG h5];rfl
variable{j:Nat}{k:bT}
theorem P0{l:List (bT×α)}(nd:(l.map (·.1)).Nodup){x:α}(h:l[j]? = some (k,x)):lB l k=some x:=by
 induction l generalizing j with
 | nil=>simp at h
 | cons p l ih=>
   rw[asA,as6]at nd;cases j with
   | zero=>
     simp at h;subst h;exact ng rfl
   | succ j=>
     have h:l[j]? = some (k,x):=h;rw[nh (p:=p) fun e=>nd.1 (by rw[e];exact asq.mpr ⟨(k,x),asu h,rfl⟩)];exact ih nd.2 h
def MQ(kvs:List (bT×At)):(iK kvs).map (·.1)=kvs.map (·.1):=by
 unfold iK;rw[asC];rfl
def qY(kvs:List (bT×At)):(cy kvs).map (·.1)=kvs.map (·.1):=by
 unfold cy;rw[asC];rfl
def mx1(c s:Int):Int:=(c % 2147483647+s)*48271 % 2147483647
def wg(c s:Int):Int:=mx1 c s*mx1 c s % 2147483629
def akn(c s:Int):0<=mx1 c s/\mx1 c s<2147483647:=⟨asP _ Wp,asQ _ Wp⟩
def jO(c:Int):Int:=if c % 2=0 then c / 2 % 9-4 else if c % 4=1 then c / 4*48271 % (10 ^ 30-1) else -(c / 4*48271 % (10 ^ 30-1))
def ako(c:Int):(jf c).length<=13:=by
 have hb:=PX c;have h0:("0":Str).length=1:=by decide +kernel
 unfold jf;split
 . rw[str_len];omega
 . split
   . rw[str_len];omega
   . omega
def abJ:Ap:=["<","<=","=","!="]
def tbG(c:Int)(m:Nat):Int:=c % ((m:Int)+1)-1
def tmG(c:Int)(m:Nat):Int:=jO (c / ((m:Int)+1))
def akG(c:Int)(m:Nat):D:=.tup [.str (abJ.getD (wg c 31 % 4).toNat Str.empty),.tup [.int (tbG (c / 3) m),.int (tmG (c / 3) m)],.tup [.int (tbG (c / 7+2) m),.int (tmG (c / 7+2) m)]]
def zm(c:Int)(m:Nat)(hh:Ap):fz:=if c % 5=1 then .call ((hh++[jf (c / 5)]).getD (c / 5 % ((hh.length:Int)+1)).toNat Str.empty) else if c % 5=2\/m=0 then .say (jf (c / 5)) (tbG (c / 5 / 7) m) (tmG (c / 5 / 7) m) else .put (c / 5 % m) (tbG (c / 5 / m) m) (tmG (c / 5 / m) m)
def Ba(s:AT):Str:=Txt.slice (jf (bE s 0 / 2)) none (some 10)
def m37(s:AT):Int:=wg (bE s 0) 37
def wj(s:AT):Ap:=[Ba s++"1",Ba s++"12",Ba s++"2"]
def nn7(s:AT):Nat:=[2,3,1,3,2,3,1,0].getD (m37 s % 8).toNat 0
def W6(s:AT):Nat:=(m37 s / 8 % 3).toNat
def jg(s:AT):Ap:=((wj s).drop (W6 s)++(wj s).take (W6 s)).take (nn7 s)
def zo{l:List α}{k:Nat}{z:Int}(hz:z=(k:Int)):cutD l none (some z)=l.take k:=by
 subst hz;unfold cutD;have e1:HT.iF l.length 0 none=0:=rfl;have e2:HT.iF l.length l.length (some (k:Int))=min k l.length:=by
   unfold HT.iF;simp;intro hk;omega
 rw[e1,e2];simp[List.take_eq_take_iff]
def xK{l:List α}{k:Nat}{z:Int}(hz:z=(k:Int)):cutD l (some z) none=l.drop k:=by
 subst hz;unfold cutD;have e1:HT.iF l.length l.length none=l.length:=rfl;have e2:HT.iF l.length 0 (some (k:Int))=min k l.length:=by
   unfold HT.iF;simp;intro hk;omega
 rw[e1,e2];rcases Nat.le_total k l.length with z|z
 . rw[Nat.min_eq_left z];exact List.take_of_length_le (by rw[atU];omega)
 . rw[Nat.min_eq_right z,List.drop_of_length_le z,List.drop_of_length_le (asp _),List.take_nil]
abbrev F7:=At×Cc
def zq(r:F7):D:=.tup [.tup r.1,.tup (r.2.map It.d)]
def SM(s:AT):Int:=if (s.length:Int) > 1 then(s.length:Int) else 1
def agF(s:AT):1<=SM s:=by unfold SM;split<;>omega
def ZV(s:AT)(p t:Nat):Int:=bE s (((p:Int)*3+(t:Int)) % SM s)
def KC(s:AT)(p t:Nat):Int:=wg (ZV s p t) (41+(p:Int)*7+(t:Int))
def asG(c x:Int)(m k:Nat):At:=(List.range (1+x / 4 % 2).toNat).map fun(a:Nat)=>akG (c / ((a:Int)+2)+5*(k:Int)) m
def dsG(c x:Int)(p m:Nat)(hh:Ap)(k:Nat):Cc:=(List.range (x / 8 % 3).toNat).map fun(a:Nat)=>.dQ (zm (c / ((a:Int)+1)+3*(k:Int)+(p:Int)) m hh)
def fr1(s:AT)(p t m:Nat)(hh:Ap)(n:Nat):List F7:=(List.range n).map fun(k:Nat)=>(asG (ZV s p t) (KC s p t) m k,dsG (ZV s p t) (KC s p t) p m hh k)
def fr2(s:AT)(p t m:Nat)(hh:Ap)(cl:Bool):List F7:=if (cl || decide (KC s p t / 24 % 2=0))=true then [([],[It.dQ (zm (ZV s p t+(p:Int)) m hh)].take (KC s p t / 48 % 2).toNat)] else []
def P1(s:AT)(p t m:Nat)(hh:Ap)(cl:Bool):List F7:=fr1 s p t m hh (KC s p t % 4).toNat++fr2 s p t m hh cl
def P4(s:AT)(p t m:Nat)(hh:Ap)(cl:Bool):(P1 s p t m hh cl).length<=4:=by
 unfold P1 fr1 fr2;have h0:=asP (KC s p t) (b:=4) Wp;have h1:=asQ (KC s p t) (b:=4) Wp;rw[asa,ar3,asz];split
 . show _+1<=4;omega
 . show _+0<=4;omega
def xM(s:AT)(p t m:Nat)(hh:Ap):0<(P1 s p t m hh true).length:=by
 unfold P1 fr2;rw[ass Uf,asa];show 0<_+1;omega
def P5(c x:Int)(m k:Nat):D.aT (asG c x m k)=true:=gC (fun _=>rfl) _
def cZ(l:Cc):D.aT (l.map It.d)=true:=gC Ht _
def W7(r:F7)(h:D.aT r.1=true):(zq r).kB=true:=by
 show(D.aT r.1&&(D.aT (r.2.map It.d)&&true))=true;rw[h,cZ];rfl
def kI{f:Nat->D}{g:D->T}(n:Int)(hg:∀k:Nat,g (.int (0+(k:Int)))=T.sh (f k)):((cS 0 n.toNat).filter fun _=>true).map g=((List.range n.toNat).map f).map T.sh:=by
 rw[iH];unfold cS;rw[asC,asC];exact atk fun k _=>hg k
def jP(h:d∈cS 0 n):∃k:Nat,k<n/\d=.int (k:Int):=by
 obtain⟨k,hk,rfl⟩:=asq.mp h;exact⟨k,as4.mp hk,by rw[atg]⟩
def abL{f:Nat->F7}(n:Nat):(((List.range (n+1)).map f).map zq).map T.sh=(((List.range n).map f).map zq).map T.sh++[T.sh (zq (f n))]:=by rw[atw,asn,asn,asn];rfl
variable{p t:Nat}{hh:Ap}
def Bt{s:AT}{cl:Bool}:∀r∈P1 s p t m hh cl,D.aT r.1=true:=fun r hr=>by
 rcases asf.mp hr with z|z
 . obtain⟨k,_,rfl⟩:=asq.mp z;exact P5 ..
 . unfold fr2 at z;split at z
   . rw[asw.mp z];rfl
   . cases z
def Hw(s:AT):Bool:=decide (wg (bE s 0) 47 % 2=0)
def SN(t:Nat):It:=.dQ (.say "odd0" (-1) (t:Nat))
def vt(t:Nat):D:=.tup [.str "!=",.tup [.int (-1),.int (t:Nat)],.tup [.int (-1),.int (t:Nat)]]
def qZ:F7:=([],[])
def SQ(t:Nat)(r:List F7):List F7:=r.set (r.length-1) ((r.getD (r.length-1) qZ).1,(r.getD (r.length-1) qZ).2++[SN t])
def zu(t:Nat)(r:List F7):List F7:=if 1<r.length then r.set 0 (vt t::(r.getD 0 qZ).1,(r.getD 0 qZ).2) else([vt t],[])::r
def oi(s:AT)(p t m:Nat)(hh:Ap)(cl:Bool):List F7:=if Hw s=true then P1 s 0 t m hh true else P1 s p t m hh cl
def wX(s:AT)(p t m:Nat)(hh:Ap)(cl:Bool):List F7:=if (Hw s&&decide (p=0))=true then SQ t (oi s p t m hh cl) else oi s p t m hh cl
def Bu(s:AT)(p t m:Nat)(hh:Ap)(cl:Bool):List F7:=if (Hw s&&decide (p=1))=true then zu t (wX s p t m hh cl) else wX s p t m hh cl
def Lk(s:AT)(m:Nat)(hh:Ap)(cl:Bool)(n:Nat):List (List F7):=(List.range n).map fun(i:Nat)=>Bu s (i / 3) (i % 3) m hh cl
def AH(r:List F7):T:=.lst ((r.map zq).map T.sh)
def Bv{s:AT}{cl:Bool}:∀r∈oi s p t m hh cl,D.aT r.1=true:=by
 unfold oi;split
 . exact Bt
 . exact Bt
def Hx(s:AT)(p t m:Nat)(hh:Ap)(cl:Bool):(oi s p t m hh cl).length<=4:=by
 unfold oi;split
 . exact P4 ..
 . exact P4 ..
def xN{s:AT}{cl:Bool}:∀r∈wX s p t m hh cl,D.aT r.1=true:=fun r hr=>by
 unfold wX at hr;split at hr
 . rename_i ha;have ha:=(asI _ _▸ha).1;rcases ath hr with z|z
   . exact Bv r z
   . rw[z];have hp:0<(oi s p t m hh cl).length:=by unfold oi;rw[ass ha];exact xM ..
     show D.aT ((oi s p t m hh cl).getD ((oi s p t m hh cl).length-1) qZ).1=true;rw[asj,ar6 We];exact Bv _ (atW _)
 . exact Bv r hr
def P6(s:AT)(p t m:Nat)(hh:Ap)(cl:Bool):(wX s p t m hh cl).length<=4:=by
 unfold wX SQ;split
 . rw[at8];exact Hx ..
 . exact Hx ..
def P7(s:AT)(p t m:Nat)(hh:Ap)(cl:Bool):(Bu s p t m hh cl).length<=5:=by
 have:=P6 s p t m hh cl;unfold Bu zu;split
 . split
   . rw[at8];omega
   . rw[asN];omega
 . omega
def Hy{s:AT}{cl:Bool}:∀r∈Bu s p t m hh cl,D.aT r.1=true:=fun r hr=>by
 unfold Bu zu at hr;split at hr
 . split at hr
   . rename_i hl;rcases ath hr with z|z
     . exact xN r z
     . rw[z];show(true&&D.aT ((wX s p t m hh cl).getD 0 qZ).1)=true;rw[asj,ar6 We];rw[Bool.true_and];exact xN _ (atW _)
   . rcases asb.mp hr with z|z
     . rw[z];rfl
     . exact xN r z
 . exact xN r hr
def W8(s:AT)(m:Nat)(hh:Ap)(cl:Bool)(p t:Nat)(ht:t<3):(Lk s m hh cl (3*p+t+1)).map AH=(Lk s m hh cl (3*p+t)).map AH++[AH (Bu s p t m hh cl)]:=by
 unfold Lk;rw[atw,asn,asn];show _++[AH (Bu s ((3*p+t) / 3) ((3*p+t) % 3) m hh cl)]=_;rw[show(3*p+t) / 3=p by omega,show(3*p+t) % 3=t by omega]
def CF{f:α->D}{l:List α}(h:∀x∈l,(f x).kB=true):D.aT (l.map f)=true:=jL fun d hd=>by
 obtain⟨x,hx,rfl⟩:=asq.mp hd;exact h x hx
def P8(h:0<n):O7 n (-1)=some (n-1):=by
 unfold O7;simp only[show ¬ (0:Int) <= -1 by decide,at5];rw[ass We];congr 1;omega
def agI{l:List α}(h:0<l.length):ux l (-1)=l[l.length-1]?:=by
 unfold ux;rw[P8 h];rfl
def zx{r:List F7}(h:∀q∈r,D.aT q.1=true):(AH r).clean=true:=bJ (CF fun q hq=>W7 q (h q hq))
def W9(r:List F7):T.bG (AH r)=.lst (r.map zq):=fM _
def Sm7(n:Nat)(r:F7):Prop:=r.1.length<=n/\r.2.length<=n
def Xa{s:AT}{cl:Bool}:∀r∈P1 s p t m hh cl,Sm7 2 r:=fun r hr=>by
 have a0:=asP (KC s p t / 4) (b:=2) Wp;have a1:=asQ (KC s p t / 4) (b:=2) Wp;have d0:=asP (KC s p t / 8) (b:=3) Wp;have d1:=asQ (KC s p t / 8) (b:=3) Wp;rcases asf.mp hr with z|z
 . obtain⟨k,_,rfl⟩:=asq.mp z;refine⟨?_,?_⟩
   . show(asG _ _ _ _).length<=2;unfold asG;rw[ar3,asz];omega
   . show(dsG _ _ _ _ _ _).length<=2;unfold dsG;rw[ar3,asz];omega
 . unfold fr2 at z;split at z
   . rw[asw.mp z];refine⟨asU _,?_⟩;show(List.take _ _).length<=2;rw[asK];show min _ 1<=2;omega
   . cases z
def sC{l:List α}{k:Nat}{z:α}(h:k<l.length):l.getD k z∈l:=by
 rw[asj,ar6 h];exact atW _
def MR{s:AT}{cl:Bool}:∀r∈oi s p t m hh cl,Sm7 2 r:=by
 unfold oi;split
 . exact Xa
 . exact Xa
def MS{s:AT}{cl:Bool}:∀r∈wX s p t m hh cl,Sm7 3 r:=fun r hr=>by
 have up:∀r∈oi s p t m hh cl,Sm7 3 r:=fun r hr=>by
   obtain⟨a,b⟩:=MR r hr;exact⟨We,We⟩
 unfold wX at hr;split at hr
 . rename_i ha;have ha:=(asI _ _▸ha).1;rcases ath hr with z|z
   . exact up r z
   . rw[z];have hp:0<(oi s p t m hh cl).length:=by unfold oi;rw[ass ha];exact xM ..
     obtain⟨a,b⟩:Sm7 2 ((oi s p t m hh cl).getD ((oi s p t m hh cl).length-1) qZ):=MR (s:=s) (p:=p) (t:=t) (m:=m) (hh:=hh) (cl:=cl) _ (sC (l:=oi s p t m hh cl) (k:=(oi s p t m hh cl).length-1) (z:=qZ) We);refine⟨by show((oi s p t m hh cl).getD ((oi s p t m hh cl).length-1) qZ).1.length<=3;omega,?_⟩;show(((oi s p t m hh cl).getD ((oi s p t m hh cl).length-1) qZ).2++[SN t]).length<=3;rw[asa];show _+1<=3;omega
 . exact up r hr
def MT{s:AT}{cl:Bool}:∀r∈Bu s p t m hh cl,Sm7 4 r:=fun r hr=>by
 have up:∀r∈wX s p t m hh cl,Sm7 4 r:=fun r hr=>by
   obtain⟨a,b⟩:=MS r hr;exact⟨We,We⟩
 unfold Bu zu at hr;split at hr
 . split at hr
   . rename_i hl;rcases ath hr with z|z
     . exact up r z
     . rw[z];obtain⟨a,b⟩:Sm7 3 ((wX s p t m hh cl).getD 0 qZ):=MS (s:=s) (p:=p) (t:=t) (m:=m) (hh:=hh) (cl:=cl) _ (sC (l:=wX s p t m hh cl) (k:=0) (z:=qZ) We);refine⟨?_,by show((wX s p t m hh cl).getD 0 qZ).2.length<=4;omega⟩;show(vt t::((wX s p t m hh cl).getD 0 qZ).1).length<=4;rw[asN];omega
   . rcases asb.mp hr with z|z
     . rw[z];exact⟨by show 1<=4;decide,by show 0<=4;decide⟩
     . exact up r z
 . exact up r hr
def fu(ks:Bi):AT:=ks.map fun(k:Nat)=>(k:Int)
def vv(ks:Bi):Nat:=ks.foldr max 0
variable{ks:Bi}
theorem P9{x:Nat}(h:x∈ks):x<=vv ks:=by
 induction ks with
 | nil=>cases h
 | cons y ks ih=>
   show x<=max y (vv ks);rcases asb.mp h with rfl|h
   . omega
   . have:=ih h;omega
theorem KD(h:ks≠[]):vv ks∈ks:=by
 induction ks with
 | nil=>exact absurd rfl h
 | cons y ks ih=>
   show max y (vv ks)∈_;by_cases e:ks=[]
   . subst e;rw[show vv []=0 from rfl,Nat.max_zero];exact ar4
   . rcases Nat.le_total y (vv ks) with z|z
     . rw[Nat.max_eq_right z];exact ar9 _ (ih e)
     . rw[Nat.max_eq_left z];exact ar4
def an2(h:ks≠[]):((vv ks:Nat):Int)∈fu ks/\∀x∈fu ks,x<=((vv ks:Nat):Int):=
 ⟨asq.mpr ⟨_,KD h,rfl⟩,fun x hx=>by
   obtain⟨k,hk,rfl⟩:=asq.mp hx;have:=P9 hk;omega⟩
def tE(h:f<ks.length):ux ((fu ks).map D.int) (f:Nat)=some (.int (ks.getD f 0:Nat)):=by
 refine gJ (j:=f) ?_;unfold fu;rw[asi,asi,ar6 h,asj,ar6 h];rfl
def nw7(s:AT)(ks:Bi)(f t r:Nat):Int:=if Hw s=true then(((ks.getD f 0:Nat):Int)+([1,0,2]:AT).getD (((t:Int)+(r:Int)) % 3).toNat 0) % (((vv ks:Nat):Int)+1) else wg (bE s (((ks.getD f 0:Nat):Int)+(t:Int)+(r:Int))) 53 % (((vv ks:Nat):Int)+1)
def ZW(ks:Bi)(w:Int):Bi:=(List.range ks.length).filter fun(k:Nat)=>decide (((ks.getD k 0:Nat):Int)=w)
def SR(ks:Bi)(w:Int):Bi:=if ZW ks w=[] then List.range ks.length else ZW ks w
def Qa(ks:Bi)(w:Int)(h:0<ks.length):0<(SR ks w).length:=by
 unfold SR;split
 . rw[asz];exact h
 . rename_i e;exact List.length_pos_iff.mpr e
def agJ(ks:Bi)(w:Int):∀k∈SR ks w,k<ks.length:=fun k hk=>by
 unfold SR at hk;split at hk
 . exact as4.mp hk
 . exact as4.mp (ata.mp hk).1
def SV(s:AT)(ks:Bi)(f t r:Nat):Nat:=(SR ks (nw7 s ks f t r)).getD (wg (bE s (f:Nat)) (59+(t:Int)*5+(r:Int)) % ((SR ks (nw7 s ks f t r)).length:Int)).toNat 0
def Xb{x:Int}(h:0<n):0<=x % (n:Int)/\(x % (n:Int)).toNat<n:=by
 have h0:=asP x (b:=(n:Int)) We;have h1:=asQ x (b:=(n:Int)) We;exact⟨h0,We⟩
def agK(s:AT)(ks:Bi)(f t r:Nat)(h:0<ks.length):SV s ks f t r<ks.length:=agJ ks (nw7 s ks f t r) _ (sC (Xb (Qa ks _ h)).2)
abbrev R7:=At×Cc×Nat
def AI(r:R7):D:=.tup [.tup r.1,.tup (r.2.1.map It.d),.int (r.2.2:Nat)]
def Lp(l:Cc)(f n to:Nat):Cc:=if f % 3=0 then l else [It.out ((f:Int)+1),.keep 0 (-1) ((f:Int)+1)]++l.take 1++[It.way (n:Nat)]++l.drop 1++[It.Ck ((to:Int)+1)]
def at7(s:AT)(a:Nat):Nat:=if wg (bE s 0) 71 % 4=0 then a % 3 else a
def mm7(s:AT)(a m:Nat):Int:=wg (bE s (at7 s a:Nat)) 73 % ((m:Int)+1)-1
def Xc(s:AT)(a m:Nat):D:=.tup [if at7 s a % 3=1 then .tup [.int 0,.int ((at7 s a:Int)+1),.int ((m:Int)+1)] else .tup [.int 0,.int ((at7 s a:Int)+1)],.tup (.int (mm7 s a m)::List.replicate m (.int (-1)))]
variable{x:Str}
def CG{y z:Str}(h:x++y=x++z):y=z:=by
 have h1:x.cps++y.cps=x.cps++z.cps:=congrArg Str.cps h;have h2:y.cps=z.cps:=by
   apply Array.ext';have:=congrArg Array.toList h1;rw[Array.toList_append,Array.toList_append]at this;exact List.append_cancel_left this
 cases y;cases z;cases h2;rfl
def abO(s:AT):(wj s).Nodup:=by
 unfold wj;have e1:Ba s++"1" ≠ Ba s++"12":=fun z=>absurd (CG z) Wl;have e2:Ba s++"1" ≠ Ba s++"2":=fun z=>absurd (CG z) Wl;have e3:Ba s++"12" ≠ Ba s++"2":=fun z=>absurd (CG z) Wl;simp[e1,e2,e3]
def MV(s:AT):(jg s).Nodup:=by
 unfold jg;refine List.Nodup.sublist (List.take_sublist _ _) ?_;have h:=abO s;rw[← atl (W6 s) (wj s)]at h;exact(asL.nodup_iff).mp h
def Bw(s:AT):(jg s).length<=3:=by
 unfold jg;have h3:(wj s).length=3:=rfl;rw[asK,asa,atU,asK,h3];omega
def xO(a:Nat)(x:Str):bT:=[.inl (a:Int),.inr x]
variable{c:Nat}
def By{y:Str}(h:xO a x=xO c y):a=c/\x=y:=by
 unfold xO at h;injection h with h1 h2;injection h1 with h1;injection h2 with h2 _;injection h2 with h2;exact⟨We,h2⟩
def fW(R:List (bT×List R7)):List (bT×At):=R.map fun q=>(q.1,q.2.map AI)
def xP(R:List (bT×List R7)):(fW R).map (·.1)=R.map (·.1):=by
 unfold fW;rw[asC];rfl
def Xd(s:AT)(ks:Bi)(f t:Nat)(fs:List F7)(n:Nat):List R7:=(List.range n).map fun(i:Nat)=>((fs.getD i qZ).1,Lp (fs.getD i qZ).2 f i (SV s ks f t i),SV s ks f t i)
def RX(s:AT)(ks:Bi)(f t:Nat)(fs:List F7):List R7:=Xd s ks f t fs fs.length
def Xe(s:AT)(ks:Bi)(f t:Nat)(fs:List F7)(n:Nat):((Xd s ks f t fs (n+1)).map AI).map T.sh=((Xd s ks f t fs n).map AI).map T.sh++[T.sh (AI ((fs.getD n qZ).1,Lp (fs.getD n qZ).2 f n (SV s ks f t n),SV s ks f t n))]:=by
 unfold Xd;rw[atw,asn,asn,asn];rfl
def FW(s:AT)(ks:Bi)(hs:Ap)(FF:List (List F7))(n:Nat):List (bT×List R7):=(List.range n).map fun(i:Nat)=>(xO (i / hs.length) (hs.getD (i % hs.length) Str.empty),RX s ks (i / hs.length) (i % hs.length) (FF.getD (ks.getD (i / hs.length) 0*3+i % hs.length) []))
def dv7{H:Nat}(h:t<H):(j*H+t) / H=j/\(j*H+t) % H=t:=by
 have hp:0<H:=by omega
 constructor
 . rw[Nat.mul_comm,Nat.mul_add_div hp,Nat.div_eq_of_lt h,Nat.add_zero]
 . rw[Nat.mul_comm,Nat.mul_add_mod,Nat.mod_eq_of_lt h]
def Xf(s:AT)(ks:Bi)(hs:Ap)(FF:List (List F7))(h:t<hs.length):FW s ks hs FF (j*hs.length+t+1)=FW s ks hs FF (j*hs.length+t)++[(xO j (hs.getD t Str.empty),RX s ks j t (FF.getD (ks.getD j 0*3+t) []))]:=by
 unfold FW;rw[atw,asn,au4,(dv7 h).1,(dv7 h).2]
variable{i:Nat}
def getD_inj{hs:Ap}(nd:hs.Nodup)(hi:i<hs.length)(hj:j<hs.length)(e:hs.getD i Str.empty=hs.getD j Str.empty):i=j:=by
 rw[asj,asj,ar6 hi,ar6 hj]at e;exact(List.getElem?_inj hi nd).mp (by rw[ar6 hi,ar6 hj];exact congrArg some e)
def abP(s:AT)(ks:Bi){hs:Ap}(FF:List (List F7))(nd:hs.Nodup)(h:t<hs.length):xO j (hs.getD t Str.empty)∉(FW s ks hs FF (j*hs.length+t)).map (·.1):=fun hm=>by
 unfold FW at hm;rw[asC]at hm;obtain⟨i,hi,e⟩:=asq.mp hm;have hi:=as4.mp hi;obtain⟨e1,e2⟩:=By e;have e3:=getD_inj nd (Nat.mod_lt i We) h e2;have e1:i / hs.length=j:=e1;have e3:i % hs.length=t:=e3;have:=auC i hs.length;rw[e1,e3,Nat.mul_comm]at this;omega
def n7(s:AT)(q:Nat):Nat:=max 1 (min s.length q)
def bN7(k:Nat):Str:=("box":Str)++(toString (k:Int):Str)
abbrev _root_.Da:=List (Str×Int)
def xQ(s:AT):Da:=(List.range (s.length % 4)).map fun(k:Nat)=>(bN7 k,jO (bE s ((k:Int)+2)))
def gI(x:Str×Int):D:=.tup [.str x.1,.int x.2]
def Qc(s:AT):(xQ s).length=s.length % 4:=by unfold xQ;rw[ar3,asz]
def Qd:∀k:Nat,k<4->((bN7 k).length=4/\PyData.strOk (bN7 k)=true)/\((toString (k:Int):Str).length=1/\(k:Int).natAbs.log2<1920):=by decide +kernel
def CH(s:AT):Nat:=(1+wg (bE s 0) 43 % 6).toNat
def Xg(s:AT):1<=CH s/\CH s<=6/\((CH s:Nat):Int)=1+wg (bE s 0) 43 % 6:=by
 unfold CH;have h0:=asP (wg (bE s 0) 43) (b:=6) Wp;have h1:=asQ (wg (bE s 0) 43) (b:=6) Wp;omega
def qk(s:AT)(q:Nat):Bi:=(List.range (n7 s q)).map fun(k:Nat)=>(wg (bE s (k:Nat)) 61 % ((CH s:Nat):Int)).toNat
def Hz(s:AT)(q:Nat):(qk s q).length=n7 s q:=by unfold qk;rw[ar3,asz]
def MX(s:AT)(q:Nat):∀k∈qk s q,k<CH s:=fun k hk=>by
 obtain⟨i,_,rfl⟩:=asq.mp hk;exact(Xb (by have:=Xg s;omega)).2
def JC(s:AT)(cl:Bool):List (List F7):=Lk s (xQ s).length (jg s) cl (3*CH s)
def SW(s:AT)(q:Nat)(cl:Bool):List (bT×List R7):=FW s (qk s q) (jg s) (JC s cl) (n7 s q*(jg s).length)
def pr7(s:AT)(q:Nat):At:=(List.range (n7 s q)).map fun(k:Nat)=>Xc s k (n7 s q)
def ZX(s:AT):Cc:=[.Ck 0,.Ck 1,.dQ (zm (bE s 1) (xQ s).length (jg s))]
def pt7(bs:Da)(hs:Ap)(bg:Cc)(pr:At)(R:List (bT×List R7)):T:=.lst [.lst ((bs.map gI).map T.sh),.lst ((hs.map .str).map T.sh),.sh (.tup (bg.map It.d)),.lst (pr.map T.sh),.dct (cy (fW R))]
def pd7(bs:Da)(hs:Ap)(bg:Cc)(pr:At)(R:List (bT×List R7)):D:=.lst [.lst (bs.map gI),.lst (hs.map .str),.tup (bg.map It.d),.lst pr,.dct (iK (fW R))]
def abQ(bs:Da)(hs:Ap)(bg:Cc)(pr:At)(R:List (bT×List R7)):(pt7 bs hs bg pr R).bG=pd7 bs hs bg pr R:=by
 unfold pt7 pd7;rw[T.bG,T.eU,T.eU,T.eU,T.eU,T.eU,T.eU,fM,fM,fM,T.bG,T.bG,uF]
def MY{s:AT}{cl:Bool}{k:Nat}(h:k<3*CH s):(JC s cl)[k]? = some (Bu s (k / 3) (k % 3) (xQ s).length (jg s) cl):=by
 unfold JC Lk;rw[asi,ar6 (by rw[asz];exact h),List.getElem_range];rfl
def fzF(FF:List (List F7)):At:=FF.map fun r=>.lst (r.map zq)
def abS(FF:List (List F7)):(T.lst (FF.map AH)).bG=.lst (fzF FF):=by
 rw[T.bG];congr 1
 induction FF with
 | nil=>show T.eU []=[];rw[T.eU]
 | cons r FF ih=>show T.eU (AH r::FF.map AH)=.lst (r.map zq)::fzF FF;rw[T.eU,W9,ih]
theorem Qe:∀{ts:Bn},(∀t∈ts,t.clean=true)->T.cM ts=true
 | [],_=>by rw[T.cM]
 | t::ts,h=>by rw[T.cM,h t ar4,Qe fun u hu=>h u (ar9 _ hu)];rfl
def Qf(s:AT)(a m:Nat):(Xc s a m).kB=true:=by
 unfold Xc;have h2:D.aT (D.int (mm7 s a m)::List.replicate m (.int (-1)))=true:=jL fun d hd=>by
   rcases asb.mp hd with rfl|hd
   . rfl
   . rw[au5 hd];rfl
 rw[D.kB,D.aT,D.aT,D.aT,D.kB,h2];split<;>rfl
section
variable{β:Type}[DecidableEq α][DecidableEq β]
def unq(l:List α):List α:=l.foldl (fun acc d=>if d∈acc then acc else acc++[d]) []
def cX(l:List α):Bi:=l.map fun d=>(unq l).idxOf d
def fN(l:List α)(d:α):unq (l++[d])=if d∈unq l then unq l else unq l++[d]:=by
 unfold unq;rw[List.foldl_append];rfl
def snoc_ind{P:List α->Prop}(h0:P [])(h1:∀l d,P l->P (l++[d]))(l:List α):P l:=by
 rw[← List.reverse_reverse l]
 induction l.reverse with
 | nil=>exact h0
 | cons d l ih=>rw[as2];exact h1 _ _ ih
theorem c5{d:α}{l:List α}:d∈unq l↔d∈l:=by
 induction l using snoc_ind with
 | h0=>exact Iff.rfl
 | h1 l e ih=>
   rw[fN];by_cases he:e∈unq l
   . rw[ass he,asf,asw];constructor
     . exact fun z=>.inl (ih.mp z)
     . rintro(z|rfl)
       . exact ih.mpr z
       . exact he
   . rw[ash he,asf,asf,ih]
theorem Xh(l:List α):(unq l).Nodup:=by
 induction l using snoc_ind with
 | h0=>exact atA
 | h1 l e ih=>
   rw[fN];split
   . exact ih
   . rename_i he;rw[asX];refine⟨ih,ava _ _,fun x hx y hy z=>he ?_⟩;rw[← asw.mp hy,← z];exact hx
theorem Qg(l:List α):(unq l).length<=l.length:=by
 induction l using snoc_ind with
 | h0=>exact asp _
 | h1 l e ih=>
   rw[fN];split
   . rw[asa];omega
   . rw[asa,asa];show _+1<=_+1;omega
theorem abT(l m:List α):∃r,unq (l++m)=unq l++r:=by
 induction m using snoc_ind with
 | h0=>exact⟨[],by rw[asx,asx]⟩
 | h1 m e ih=>
   obtain⟨r,hr⟩:=ih;rw[← ar7,fN];split
   . exact⟨r,hr⟩
   . exact⟨r++[e],by rw[hr,ar7]⟩
def Xi{l m:List α}{d:α}(h:d∈l):(unq (l++m)).idxOf d=(unq l).idxOf d:=by
 obtain⟨r,hr⟩:=abT l m;rw[hr];rw[atM,ass (c5.mpr h)]
theorem Qh{l:List α}(h:l≠[]):0<(unq l).length:=by
 cases l with
 | nil=>exact absurd rfl h
 | cons d l=>exact List.length_pos_of_mem (c5.mpr ar4)
def Bb(l:List α)(m:List β):Prop:=l.length=m.length/\∀(i j:Nat) (a b:α) (c d:β),l[i]? = some a->l[j]? = some b->m[i]? = some c->m[j]? = some d->a=b->c=d
theorem Bb.pre{l:List α}{m:List β}{x:α}{y:β}(h:Bb (l++[x]) (m++[y])):Bb l m:=by
 obtain⟨h1,h2⟩:=h;have hl:l.length=m.length:=by simpa using h1
 refine⟨hl,fun i j a b c d ha hb hc hd e=>h2 i j a b c d ?_ ?_ ?_ ?_ e⟩
 . rw[as1 (asl.mp ha).1];exact ha
 . rw[as1 (asl.mp hb).1];exact hb
 . rw[as1 (asl.mp hc).1];exact hc
 . rw[as1 (asl.mp hd).1];exact hd
theorem Bb.last{l:List α}{m:List β}{x:α}{y:β}(h:Bb (l++[x]) (m++[y]))(hx:x∈l):y∈m:=by
 have hl:l.length=m.length:=by simpa using h.1
 obtain⟨i,hi⟩:=atu.mp hx;have il:=(asl.mp hi).1;obtain⟨c,hc⟩:∃c,m[i]? = some c:=⟨_,ar6 We⟩;have:=h.2 i l.length x x c y (by rw[as1 il];exact hi) Uf (by rw[as1 We];exact hc) (by rw[hl];simp) rfl;subst this;exact asu hc
def FY{P:List α->List β->Prop}(h0:P [] [])(h1:∀l m d e,l.length=m.length->P l m->P (l++[d]) (m++[e])):∀(l:List α) (m:List β),l.length=m.length->P l m:=by
 intro l
 induction l using snoc_ind with
 | h0=>
   intro m hm;cases m with
   | nil=>exact h0
   | cons _ _=>simp at hm
 | h1 l d ih=>
   intro m hm;rcases List.eq_nil_or_concat m with rfl|⟨m,e,rfl⟩
   . simp at hm
   . rw[List.concat_eq_append]at hm ⊢;have hl:l.length=m.length:=by simpa using hm
     exact h1 l m d e hl (ih m hl)
theorem Bb.cnt{l:List α}{m:List β}(h:Bb l m):(unq m).length<=(unq l).length/\((unq m).length=(unq l).length->Bb m l):=by
 have hl:=h.1
 revert h
 refine FY (P:=fun(l:List α) (m:List β)=>Bb l m->(unq m).length<=(unq l).length/\((unq m).length=(unq l).length->Bb m l)) (fun _=>⟨asp _,fun _=>⟨rfl,fun i j a b c d ha=>by simp at ha⟩⟩) (fun l m x y hl ih h=>?_) l m hl;obtain⟨c1,c2⟩:=ih h.pre;rw[fN,fN];have ext:Bb m l->(y∈m->x∈l/\∀(i:Nat) b c,m[i]? = some b->l[i]? = some c->b=y->c=x)->Bb (m++[y]) (l++[x]):=fun p q=>by
   have at_:∀{γ:Type} {n:List γ} {z w:γ} {i:Nat},(n++[z])[i]? = some w->(i<n.length/\n[i]? = some w)\/(i=n.length/\w=z):=fun {γ n z w i} e=>by
     rcases Nat.lt_trichotomy i n.length with k|k|k
     . rw[as1 k]at e;exact .inl ⟨k,e⟩
     . subst k;simp at e;exact .inr ⟨rfl,e.symm⟩
     . rw[atd (by rw[asa];show n.length+1<=i;omega)]at e;cases e
   refine⟨by simp[hl],fun i j a b c d ha hb hc hd e=>?_⟩;rcases at_ ha with⟨i1,pa⟩|⟨i1,pa⟩<;>rcases at_ hb with⟨j1,pb⟩|⟨j1,pb⟩<;>rcases at_ hc with⟨i2,pc⟩|⟨i2,pc⟩<;>rcases at_ hd with⟨j2,pd⟩|⟨j2,pd⟩<;>try omega
   . exact p.2 i j a b c d pa pb pc pd e
   . rw[pd];exact(q ((e.trans pb)▸asu pa)).2 i a c pa pc (e.trans pb)
   . rw[pc];exact((q ((e.symm.trans pa)▸asu pb)).2 j b d pb pd (e.symm.trans pa)).symm
   . rw[pc,pd]
 by_cases hx:x∈l
 . have hy:=h.last hx;rw[ass (c5.mpr hx),ass (c5.mpr hy)];refine⟨c1,fun e=>ext (c2 e) fun _=>⟨hx,fun i b c hb hc eb=>?_⟩⟩;obtain⟨k,hk⟩:=atu.mp hx;have kl:=(asl.mp hk).1;have hm:m[k]? = some y:=by
     obtain⟨z,hz⟩:∃z,m[k]? = some z:=⟨_,ar6 We⟩;have:=h.2 k l.length x x z y (by rw[as1 kl];exact hk) Uf (by rw[as1 We];exact hz) (by rw[hl];simp) rfl;rw[hz,this]
   exact(c2 e).2 i k b y c x hb hm hc hk eb
 . rw[ash fun z=>hx (c5.mp z)];by_cases hy:y∈m
   . rw[ass (c5.mpr hy),asa];exact⟨We,fun e=>by have:(unq m).length=(unq l).length+1:=e;omega⟩
   . rw[ash fun z=>hy (c5.mp z),asa,asa];exact⟨by show _+1<=_+1;omega,fun e=>ext (c2 (by have:(unq m).length+1=(unq l).length+1:=e;omega)) fun z=>absurd z hy⟩
theorem Bb.num{l:List α}{m:List β}(h:Bb l m)(g:Bb m l):cX l=cX m/\(unq l).length=(unq m).length:=by
 have hl:=h.1
 revert h g
 refine FY (P:=fun(l:List α) (m:List β)=>Bb l m->Bb m l->cX l=cX m/\(unq l).length=(unq m).length) (fun _ _=>⟨rfl,rfl⟩) (fun l m x y hl ih h g=>?_) l m hl;obtain⟨e1,e2⟩:=ih h.pre g.pre;have en:∀{γ:Type} [DecidableEq γ] (n:List γ) (z:γ),cX (n++[z])=cX n++[(unq (n++[z])).idxOf z]:=fun n z=>by
   unfold cX;rw[asn];congr 1;exact atk fun d hd=>Xi hd
 have hin:x∈l↔y∈m:=⟨h.last,g.last⟩;rw[en,en,e1,fN,fN];by_cases hx:x∈l
 . have hy:=hin.mp hx;rw[ass (c5.mpr hx),ass (c5.mpr hy)];refine⟨?_,e2⟩;obtain⟨k,hk⟩:=atu.mp hx;have kl:=(asl.mp hk).1;have hm:m[k]? = some y:=by
     obtain⟨z,hz⟩:∃z,m[k]? = some z:=⟨_,ar6 We⟩;have:=h.2 k l.length x x z y (by rw[as1 kl];exact hk) Uf (by rw[as1 We];exact hz) (by rw[hl];simp) rfl;rw[hz,this]
   have e3:(cX l)[k]? = (cX m)[k]?:=by rw[e1]
   unfold cX at e3;rw[asi,asi,hk,hm]at e3;have e4:(unq l).idxOf x=(unq m).idxOf y:=asE e3;rw[e4]
 . have hy:y∉m:=fun z=>hx (hin.mpr z);rw[ash fun z=>hx (c5.mp z),ash fun z=>hy (c5.mp z)];refine⟨?_,by rw[asa,asa,e2];rfl⟩;rw[atM,atM,ash fun z=>hx (c5.mp z),ash fun z=>hy (c5.mp z),e2,auR,auR]
def HB(l:List α):Bb l (cX l)/\Bb (cX l) l:=by
 have key:∀{i:Nat} {a:α} {c:Nat},l[i]? = some a->(cX l)[i]? = some c->c=(unq l).idxOf a:=fun {i a c} ha hc=>by
   unfold cX at hc;rw[asi,ha]at hc;exact(asE hc).symm
 have hl:l.length=(cX l).length:=by unfold cX;rw[ar3]
 refine⟨⟨hl,fun i j a b c d ha hb hc hd e=>?_⟩,⟨hl.symm,fun i j a b c d ha hb hc hd e=>?_⟩⟩
 . rw[key ha hc,key hb hd,e]
 . rw[key hc ha,key hd hb]at e;have hc':=c5.mpr (asu hc);have Gu:=c5.mpr (asu hd);have g1:(unq l)[(unq l).idxOf c]? = some c:=by rw[ar6 (as3.mpr hc')];exact congrArg some (aui _)
   have g2:(unq l)[(unq l).idxOf d]? = some d:=by rw[ar6 (as3.mpr Gu)];exact congrArg some (aui _)
   rw[e,g2]at g1;exact(asE g1).symm
def Xj{l:List α}(h:c∈cX l):c<(unq l).length:=by
 unfold cX at h;obtain⟨d,hd,rfl⟩:=asq.mp h;exact as3.mpr (c5.mpr hd)
def Qi{l:List α}(h:c<(unq l).length):c∈cX l:=by
 unfold cX;refine asq.mpr ⟨(unq l)[c],c5.mp (atW h),?_⟩;exact(List.getElem_inj (Xh l)).mp (aui (as3.mpr (atW h)))
def uG(l:List α):cX (cX l)=cX l/\(unq (cX l)).length=(unq l).length:=(HB l).2.num (HB l).1
def BD(l:List α):(cX l).length=l.length:=by unfold cX;rw[ar3]
end
variable{β:Type}
def abU{f:Nat->α}{g:Nat->β}(h:∀a,a<n->∀b,b<n->f a=f b->g a=g b):Bb ((List.range n).map f) ((List.range n).map g):=by
 have at_:∀{γ:Type} {k:Nat->γ} {i:Nat} {c:γ},((List.range n).map k)[i]? = some c->i<n/\c=k i:=fun {γ k i c} e=>by
   have hi:=(asl.mp e).1;rw[ar3,asz]at hi;rw[asi,atj hi]at e;exact⟨hi,(asE e).symm⟩
 refine⟨by rw[ar3,ar3],fun i j a b c d ha hb hc hd e=>?_⟩;obtain⟨i1,rfl⟩:=at_ ha;obtain⟨j1,rfl⟩:=at_ hb;obtain⟨_,rfl⟩:=at_ hc;obtain⟨_,rfl⟩:=at_ hd;exact h i i1 j j1 e
variable{b:Nat}
theorem Bb.map{f:Nat->α}{g:Nat->β}(h:Bb ((List.range n).map f) ((List.range n).map g))(ha:a<n)(hb:b<n)(e:f a=f b):g a=g b:=by
 have at_:∀{γ:Type} (k:Nat->γ) {i:Nat},i<n->((List.range n).map k)[i]? = some (k i):=fun k i hi=>by rw[asi,atj hi];rfl
 exact h.2 a b _ _ _ _ (at_ f ha) (at_ f hb) (at_ g ha) (at_ g hb) e
variable{F:Bi}
def KG(h:F.length=n):F=(List.range n).map fun a=>F.getD a 0:=by
 apply auG;intro i;by_cases hi:i<n
 . rw[asi,atj hi];show F[i]? = some (F.getD i 0);rw[asj,ar6 We];rfl
 . rw[atd We,atd (by rw[ar3,asz];omega)]
def cn(F:Bi):Nat:=(unq F).length
section
variable[DecidableEq α][DecidableEq β]{f:Nat->α}
def MZ(ha:a<n)(hb:b<n):(cX ((List.range n).map f)).getD a 0=(cX ((List.range n).map f)).getD b 0↔f a=f b:=by
 have h:=HB ((List.range n).map f);have e:=KG (F:=cX ((List.range n).map f)) (n:=n) (by rw[BD,ar3,asz]);have h1:=h.1;have h2:=h.2;rw[e]at h1 h2;exact⟨fun z=>h2.map ha hb z,fun z=>h1.map ha hb z⟩
def Xk(hF:F.length=n)(hn:cX F=F)(h:∀a,a<n->∀b,b<n->f a=f b->F.getD a 0=F.getD b 0):cn F<=cn (cX ((List.range n).map f))/\(cn F=cn (cX ((List.range n).map f))->cX ((List.range n).map f)=F):=by
 have p:Bb ((List.range n).map f) F:=by rw[KG hF];exact abU h
 unfold cn;rw[(uG _).2];refine⟨p.cnt.1,fun e=>?_⟩;rw[(p.num (p.cnt.2 e)).1,hn]
def Qj(l:List α)(h:l.length<=n):cn (cX l)<=n:=by
 unfold cn;rw[(uG l).2];exact asV (Qg l) h
def Xl{l:List α}(h:l≠[]):0<cn (cX l):=by
 unfold cn;rw[(uG l).2];exact Qh h
def Xm{l:List α}(h:l≠[]):vv (cX l)+1=cn (cX l):=by
 have hp:=Qh h;unfold cn;rw[(uG l).2];have h1:vv (cX l)∈cX l:=KD fun z=>by
   have:=BD l;rw[z]at this;exact h (au9.mp this.symm)
 have h2:=Xj h1;have h3:=P9 (Qi (l:=l) (c:=(unq l).length-1) We);omega
end
section
variable(R:List (bT×List R7))(hs:Ap)
def qa(a:Nat)(x:Str):List R7:=(lB R (xO a x)).getD []
def Lq(r:R7):D:=.tup [.tup r.1,.tup ((r.2.1.filter It.told).map It.d)]
def lkS(a:Nat)(x:Str):D:=.tup ((qa R a x).map Lq)
def Bc(a:Nat):At:=hs.map (lkS R a)
def JD(F:Bi)(a:Nat):Bi:=hs.flatMap fun x=>(qa R a x).map fun r=>F.getD r.2.2 0
def Lr(F:Bi)(a:Nat):At:=[.int (F.getD a 0:Nat),.tup ((fu (JD R hs F a)).map .int)]
def kLt(F:Bi)(a:Nat):At:=[.int (F.getD a 0:Nat),.tup (Bc R hs a),.tup ((fu (JD R hs F a)).map .int)]
variable(n:Nat)
def iE:Nat->Bi
 | 0=>cX ((List.range n).map fun(a:Nat)=>D.tup (Bc R hs a))
 | k+1=>cX ((List.range n).map fun(a:Nat)=>D.tup (Lr R hs (iE k) a))
def lit:Nat->Bi
 | 0=>List.replicate n 0
 | k+1=>cX ((List.range n).map fun(a:Nat)=>D.tup (kLt R hs (lit k) a))
variable{R hs n}
theorem q8(k:Nat):(iE R hs n k).length=n:=by
 cases k with
 | zero=>rw[iE,BD,ar3,asz]
 | succ k=>rw[iE,BD,ar3,asz]
theorem uH(k:Nat):cX (iE R hs n k)=iE R hs n k:=by
 cases k with
 | zero=>rw[iE];exact(uG _).1
 | succ k=>rw[iE];exact(uG _).1
def abV{a b:Bi}(h:(fu a).map D.int=(fu b).map D.int):a=b:=by
 unfold fu at h;rw[asC,asC]at h;refine List.map_inj_right (fun x y e=>?_) |>.mp h
 have e:D.int (x:Int)=.int (y:Int):=e;injection e with e;omega
def HC(h:D.tup (Lr R hs F a)=.tup (Lr R hs F b)):F.getD a 0=F.getD b 0/\JD R hs F a=JD R hs F b:=by
 unfold Lr at h;injection h with h;injection h with h1 h;injection h with h2 _;injection h1 with h1;injection h2 with h2;exact⟨We,abV h2⟩
theorem Xn(k:Nat)(ha:a<n)(hb:b<n)(h:(iE R hs n k).getD a 0=(iE R hs n k).getD b 0):Bc R hs a=Bc R hs b:=by
 induction k with
 | zero=>
   rw[iE]at h;have:=(MZ ha hb).mp h;injection this
 | succ k ih=>
   rw[iE]at h;exact ih (HC ((MZ ha hb).mp h)).1
def abW(h:Bc R hs a=Bc R hs b):∀x∈hs,(qa R a x).map Lq=(qa R b x).map Lq:=fun x hx=>by
 unfold Bc at h;have:=List.map_inj_left.mp h x hx;unfold lkS at this;injection this
def CJ(k:Nat):cn (iE R hs n k)<=cn (iE R hs n (k+1))/\(cn (iE R hs n k)=cn (iE R hs n (k+1))->iE R hs n (k+1)=iE R hs n k):=by
 rw[iE];exact Xk (q8 k) (uH k) fun a _ b _ h=>(HC h).1
theorem CK{k:Nat}(h:iE R hs n (k+1)=iE R hs n k)(m:Nat):iE R hs n (k+m)=iE R hs n k:=by
 induction m with
 | zero=>rfl
 | succ m ih=>rw[show k+(m+1)=(k+m)+1 by omega,iE,ih,← iE,h]
def Xo(hn:1<=n)(k:Nat):1<=cn (iE R hs n k)/\cn (iE R hs n k)<=n/\vv (iE R hs n k)+1=cn (iE R hs n k):=by
 have ne:∀{γ:Type} (f:Nat->γ),(List.range n).map f≠[]:=fun f z=>by
   have:=congrArg List.length z;rw[ar3,asz]at this;have:n=0:=this;omega
 cases k with
 | zero=>rw[iE];exact⟨Xl (ne _),Qj _ (by rw[ar3,asz];exact asp _),Xm (ne _)⟩
 | succ k=>rw[iE];exact⟨Xl (ne _),Qj _ (by rw[ar3,asz];exact asp _),Xm (ne _)⟩
def mh(R:List (bT×List R7))(hs:Ap)(n:Nat):Bi:=iE R hs n n
def agM{k:Nat}(hk:k+1<=n)(h:cn (iE R hs n (k+1))<=cn (iE R hs n k)):iE R hs n (k+1)=mh R hs n:=by
 have h1:=CJ (R:=R) (hs:=hs) (n:=n) k;have e:=h1.2 We;have h2:=CK e (n-k);unfold mh;rw[e,← h2,show k+(n-k)=n by omega]
def M0(hn:1<=n):iE R hs n (n+1)=mh R hs n:=by
 have key:∀j,(∃k,k<j/\cn (iE R hs n (k+1))<=cn (iE R hs n k))\/j+1<=cn (iE R hs n j):=by
   intro j
   induction j with
   | zero=>exact .inr (Xo hn 0).1
   | succ j ih=>
     rcases ih with⟨k,h1,h2⟩|h
     . exact .inl ⟨k,We,h2⟩
     . by_cases e:cn (iE R hs n (j+1))<=cn (iE R hs n j)
       . exact .inl ⟨j,We,e⟩
       . exact .inr We
 rcases key n with⟨k,h1,h2⟩|h
 . have e:=(CJ (R:=R) (hs:=hs) (n:=n) k).2 (by have:=(CJ (R:=R) (hs:=hs) (n:=n) k).1;omega);unfold mh;rw[← show k+(n+1-k)=n+1 by omega,CK e,← CK e (n-k),show k+(n-k)=n by omega]
 . have:=(Xo (R:=R) (hs:=hs) hn n).2.1;omega
def fin_same(hn:1<=n)(ha:a<n)(hb:b<n)(h:(mh R hs n).getD a 0=(mh R hs n).getD b 0):Bc R hs a=Bc R hs b/\JD R hs (mh R hs n) a=JD R hs (mh R hs n) b:=by
 refine⟨Xn n ha hb h,?_⟩;have e:=M0 (R:=R) (hs:=hs) hn;rw[← e,iE]at h;exact(HC ((MZ ha hb).mp h)).2
end
structure Xp(n:Nat)(r:R7):Prop where
 a:r.2.2<n
 b:D.aT r.1=true
 c:∀d∈r.1,lU 2 d
 d:∀x∈r.2.1,lU 2 x.d
 e:r.2.1.length<=1000
structure FZ(R:List (bT×List R7))(hs:Ap)(n:Nat):Prop where
 a:∀i,i<n->∀x∈hs,∃l,lB R (xO i x)=some l
 b:∀q∈R,q.2.length<=100/\∀r∈q.2,Xp n r
 c:(R.map (·.1)).Nodup
 d:R.length<=1000
 e:hs.length<=3
 f:1<=n/\n<=100
 g:∀x∈hs,PyData.strOk x=true
theorem Qk{R:List (bT×α)}{l:α}(h:lB R k=some l):(k,l)∈R:=by
 induction R with
 | nil=>cases h
 | cons p R ih=>
   by_cases e:p.1=k
   . rw[ng e]at h;cases h;rw[← e];exact ar4
   . rw[nh e]at h;exact ar9 _ (ih h)
variable{R:List (bT×List R7)}{hs:Ap}
theorem FZ.row(h:FZ R hs n)(hi:i<n)(hx:x∈hs):lB R (xO i x)=some (qa R i x)/\(qa R i x).length<=100/\∀r∈qa R i x,Xp n r:=by
 obtain⟨l,hl⟩:=h.a i hi x hx;have e:qa R i x=l:=by unfold qa;rw[hl];rfl
 rw[e];exact⟨hl,h.b _ (Qk hl)⟩
theorem BE{l:List R7}(h:lB R k=some l):lB (iK (fW R)) k=some (.lst (l.map AI)):=by
 induction R with
 | nil=>cases h
 | cons p R ih=>
   by_cases e:p.1=k
   . rw[ng e]at h;cases h;exact ng (p:=(p.1,D.lst (p.2.map AI))) e
   . rw[nh e]at h;exact(nh (p:=(p.1,D.lst (p.2.map AI))) e).trans (ih h)
variable{r:R7}
def abX(h:Xp n r):lU 4 (Lq r):=by
 refine .tup fun d hd=>?_;simp only[asb,aso,as7]at hd;rcases hd with rfl|rfl
 . exact .tup h.c
 . refine .tup fun d hd=>?_;obtain⟨x,hx,rfl⟩:=asq.mp hd;exact h.d x (ata.mp hx).1
def abY(h:Xp n r):(Lq r).kB=true:=by
 show(D.aT r.1&&(D.aT ((r.2.1.filter It.told).map It.d)&&true))=true;rw[h.b,cZ];rfl
def BF{l:List R7}(h:∀r∈l,Xp n r):lU 5 (.tup (l.map Lq))/\D.aT (l.map Lq)=true:=by
 refine⟨.tup fun d hd=>?_,jL fun d hd=>?_⟩
 . obtain⟨r,hr,rfl⟩:=asq.mp hd;exact abX (h r hr)
 . obtain⟨r,hr,rfl⟩:=asq.mp hd;exact abY (h r hr)
theorem M3{k:Nat}(h:lU k d)(hm:k<=m):lU m d:=by
 induction h generalizing m with
 | int _ i=>exact .int _ i
 | str _ x hx=>exact .str _ x hx
 | @tup j ds _ ih=>
   obtain⟨m,rfl⟩:∃m',m=m'+1:=⟨m-1,We⟩;exact .tup fun d hd=>ih d hd We
theorem FZ.look(h:FZ R hs n)(hi:i<n):lU 6 (.tup (Bc R hs i))/\D.aT (Bc R hs i)=true:=by
 refine⟨.tup fun d hd=>?_,jL fun d hd=>?_⟩
 . obtain⟨x,hx,rfl⟩:=asq.mp hd;exact(BF (h.row hi hx).2.2).1
 . obtain⟨x,hx,rfl⟩:=asq.mp hd;exact(BF (h.row hi hx).2.2).2
def Xq(l:Bi):lU 1 (.tup ((fu l).map .int)):=.tup fun d hd=>by
 obtain⟨i,_,rfl⟩:=asq.mp hd;exact .int 0 i
def abZ(F:Bi)(i:Nat):lU 8 (.tup (Lr R hs F i)):=.tup fun d hd=>by
 unfold Lr at hd;simp only[asb,aso,as7]at hd;rcases hd with rfl|rfl
 . exact .int _ _
 . exact M3 (Xq _) Wp
def fcO:D->D
 | .tup [a,.tup ds,_]=>.tup [a,.tup (ds.filter fun d=>!decide (d.UE.toS∈cN))]
 | d=>d
def Xr(r:R7):fcO (AI r)=Lq r:=by
 show D.tup [.tup r.1,.tup ((r.2.1.map It.d).filter fun d=>!decide (d.UE.toS∈cN))]=_;have e:((fun d:D=>!decide (d.UE.toS∈cN))∘It.d)=It.told:=by
   funext x;show(!decide (x.sj.w∈cN))=x.told;rw[Bs,Bool.not_not]
 rw[auD,e];rfl
def agN(h:FZ R hs n)(hi:i<n)(hx:x∈hs)(hF:F.length=n):∀r∈qa R i x,ux ((fu F).map D.int) (r.2.2:Nat)=some (.int (F.getD r.2.2 0:Nat)):=fun r hr=>tE (by rw[hF];exact((h.row hi hx).2.2 r hr).a)
def ab0(a b:Bi):fu (a++b)=fu a++fu b:=by unfold fu;rw[asn]
def kU(a:Bi):(fu a).length=a.length:=by unfold fu;rw[ar3]
def uI(l:Bi):D.aT ((fu l).map .int)=true:=qe _
def an4{ks:At}(h:∀d∈ks,lU 8 d)(hl:ks.length<=1000):abw (unq (ks.take j)) where
 n:=fun d hd=>h d (atp (c5.mp hd))
 d:=Xh _
 l:=asV (Qg _) (by rw[asK];omega)
theorem xR(f:Nat->Int):∀k,PyProof.Rows.firstMet f k=unq ((List.range k).map f)
 | 0=>rfl
 | k+1=>by
   rw[PyProof.Rows.firstMet_succ,xR f k,atw,asn,au4,fN];unfold PyProof.Rows.step_dedup;by_cases h:f k∈unq ((List.range k).map f)
   . rw[if_pos h,if_pos (by simpa using h)]
   . rw[if_neg h,if_neg (by simpa using h)]
def Xs(F:Bi):(PyProof.Rows.firstMet (fun i=>(fu F).getD i 0) (fu F).length).length=cn F:=by
 rw[xR,kU];have e:(List.range F.length).map (fun i=>(fu F).getD i 0)=fu F:=by
   apply auG;intro i;by_cases hi:i<F.length
   . rw[asi,atj hi];show some ((fu F).getD i 0)=_;rw[asj,ar6 (by rw[kU];exact hi)];rfl
   . rw[atd (by rw[ar3,asz];omega),atd (by rw[kU];omega)]
 rw[e];unfold cn;have p:Bb (fu F) F/\Bb F (fu F):=by
   have at_:∀{i:Nat} {c:Int},(fu F)[i]? = some c->∃d,F[i]? = some d/\c=(d:Int):=fun {i c} h=>by
     unfold fu at h;rw[asi]at h;obtain⟨d,h1,h2⟩:=asF.mp h;exact⟨d,h1,h2.symm⟩
   refine⟨⟨kU F,fun i j a b c d ha hb hc hd e=>?_⟩,⟨(kU F).symm,fun i j a b c d ha hb hc hd e=>?_⟩⟩
   . obtain⟨a',h1,rfl⟩:=at_ ha;obtain⟨b',h2,rfl⟩:=at_ hb;rw[hc]at h1;rw[hd]at h2;cases h1;cases h2;omega
   . obtain⟨c',h1,rfl⟩:=at_ hc;obtain⟨d',h2,rfl⟩:=at_ hd;rw[ha]at h1;rw[hb]at h2;cases h1;cases h2;rw[e]
 exact(p.1.num p.2).2
def ab1(R:List (bT×List R7))(hs:Ap)(F:Bi)(a:Nat):D.aT (Lr R hs F a)=true:=by
 show(true&&(D.aT ((fu (JD R hs F a)).map D.int)&&true))=true;rw[uI];rfl
def M4(h:D.aT r.1=true):(AI r).kB=true:=by
 show(D.aT r.1&&(D.aT (r.2.1.map It.d)&&(true&&true)))=true;rw[h,cZ];rfl
def Xu(r:R7):D:=.tup [.tup r.1,.lst ((r.2.1.filter It.told).map It.d)]
structure M5(bs:Da)(hs:Ap)(bg:Cc)(pr:At)(R:List (bT×List R7)):Prop where
 t:FZ R hs pr.length
 b:∀q∈bs,PyData.strOk q.1=true
 g:∀x∈bg,lU 2 x.d
 p:∀d∈pr,lU 3 d
 i:D.aT pr=true
def ab2{k:Nat}(h:lU k d)(hk:k<=59):kQ 59 d:=(M3 h hk).dep
def agO(h:Xp n r):lU 4 (AI r):=by
 refine .tup fun d hd=>?_;simp only[asb,aso,as7]at hd;rcases hd with rfl|rfl|rfl
 . exact .tup h.c
 . refine .tup fun d hd=>?_;obtain⟨x,hx,rfl⟩:=asq.mp hd;exact h.d x hx
 . exact .int _ _
variable{bs:Da}{bg:Cc}
theorem M5.d0(h:M5 bs hs bg pr R):kQ 60 (.lst (bs.map gI)):=.lst fun d hd=>by
 obtain⟨q,hq,rfl⟩:=asq.mp hd;refine ab2 (k:=1) (.tup fun d hd=>?_) Wp;simp only[asb,aso,as7]at hd;rcases hd with rfl|rfl
 . exact .str _ _ (h.b q hq)
 . exact .int _ _
theorem M5.d1(h:M5 bs hs bg pr R):kQ 60 (.lst (hs.map .str)):=.lst fun d hd=>by
 obtain⟨q,hq,rfl⟩:=asq.mp hd;exact .str _ _ (h.t.g q hq)
theorem M5.d2(h:M5 bs hs bg pr R):kQ 60 (.tup (bg.map It.d)):=.tup fun d hd=>by
 obtain⟨x,hx,rfl⟩:=asq.mp hd;exact ab2 (h.g x hx) Wp
theorem M5.d3(h:M5 bs hs bg pr R):kQ 60 (.lst pr):=.lst fun d hd=>ab2 (h.p d hd) Wp
theorem M5.d4(h:M5 bs hs bg pr R):∀q∈iK (fW R),kQ 60 q.2:=fun q hq=>by
 obtain⟨p,hp,rfl⟩:=asq.mp hq;obtain⟨z,hz,rfl⟩:=asq.mp hp;refine .lst fun d hd=>?_;obtain⟨r,hr,rfl⟩:=asq.mp hd;exact ab2 (agO ((h.t.b z hz).2 r hr)) Wp
def akp{a c:D}(h:kQ 60 a)(g:kQ 60 c)(k:kQ 60 d):¬ (!Bk a a || (!Bk c c || !Bk d d))=true:=by rw[iI h,iI g,iI k];decide
def Ql(h:cX F=F)(hc:F[j]? = some c):c<=(unq (F.take j)).length/\max (unq (F.take j)).length (c+1)=(unq (F.take (j+1))).length:=by
 have e0:(unq F).idxOf c=c:=by
   have e:=congrArg (·[j]?) h;simp only[cX,asi,hc]at e;exact asE e
 have e1:F.take (j+1)=F.take j++[c]:=by rw[as9,hc];rfl
 have e2:(unq (F.take (j+1))).idxOf c=c:=by
   rw[← Xi (m:=F.drop (j+1)) (by rw[e1];simp),atl];exact e0
 rw[e1,fN]at e2 ⊢;by_cases hm:c∈unq (F.take j)
 . rw[ass hm]at e2 ⊢;have:=as3.mpr hm;rw[e2]at this;omega
 . rw[ash hm]at e2 ⊢;rw[atM,ash hm,auR]at e2;rw[asa];show c<=_/\max _ (c+1)=_+1;omega
theorem CM{α β:Type}{f g:α->List β}:∀{l:List α},(∀x∈l,(f x).length=(g x).length)->l.flatMap f=l.flatMap g->∀x∈l,f x=g x
 | [],_,_,_,h=>by cases h
 | y::l,hl,e,x,hx=>by
   rw[auI,auI]at e;obtain⟨e1,e2⟩:=List.append_inj e (hl y ar4);rcases asb.mp hx with rfl|hx
   . exact e1
   . exact CM (fun z hz=>hl z (ar9 _ hz)) e2 x hx
def Xv(h1:Bc R hs a=Bc R hs c)(h2:JD R hs F a=JD R hs F c)(hx:x∈hs):(qa R a x).map Xu=(qa R c x).map Xu/\((qa R a x).map fun r=>F.getD r.2.2 0)=(qa R c x).map fun r=>F.getD r.2.2 0:=by
 have hr:=abW h1;refine⟨?_,CM (fun y hy=>by have:=congrArg List.length (hr y hy);simpa using this) h2 x hx⟩;have key:∀l m:List R7,l.map Lq=m.map Lq->l.map Xu=m.map Xu:=by
   intro l
   induction l with
   | nil=>intro m e;cases m with
     | nil=>rfl
     | cons _ _=>cases e
   | cons r l ih=>intro m e;cases m with
     | nil=>cases e
     | cons q m=>
       injection e with e1 e2;unfold Lq at e1;injection e1 with e1;injection e1 with e3 e1;injection e1 with e4 _;injection e4 with e4;show Xu r::l.map Xu=Xu q::m.map Xu;rw[ih m e2];unfold Xu;rw[e3,e4]
 exact key _ _ (hr x hx)
def nums(ds:At):At:=(List.range ds.length).map fun(i:Nat)=>D.int (i:Nat)
def SX(ds:At)(k:D):nums (ds++[k])=nums ds++[.int (ds.length:Nat)]:=by
 unfold nums;rw[asa,aun,atw,asn];rfl
def ab3{ds:At}{k:D}(h:k∈ds):(nums ds)[ds.idxOf k]? = some (.int (ds.idxOf k:Nat)):=by
 unfold nums;rw[asi,atj (as3.mpr h)];rfl
def ab4(h:PyData.strOk x=true)(l k:CC):PyData.strOk (Txt.slice x l k)=true:=by
 unfold Txt.slice;split
 . exact h
 . unfold PyData.strOk at *;rw[List.all_toArray,auf];intro c hc;obtain⟨i,_,hi⟩:=auy.mp hc;rw[← Array.all_toList,auf]at h;exact h c (by rw[← atY]at hi;exact asu hi)
def Xw{y:Str}(h:PyData.strOk x=true)(g:PyData.strOk y=true):PyData.strOk (x++y)=true:=by
 unfold PyData.strOk at *;show(x.cps++y.cps).all _=true;rw[Array.all_append,h,g];rfl
theorem Qm{l:Ap}(h:∀x∈l,PyData.strOk x=true)(k:Nat):PyData.strOk (l.getD k Str.empty)=true:=by
 rw[asj];cases e:l[k]? with
 | none=>show PyData.strOk Str.empty=true;decide +kernel
 | some x=>exact h x (asu e)
def zy(s:AT):∀x∈jg s,PyData.strOk x=true:=fun x hx=>by
 have hb:PyData.strOk (Ba s)=true:=ab4 (xE _) _ _;have h:x∈wj s:=by
   unfold jg at hx;rcases asf.mp (atp hx) with z|z
   . exact auP z
   . exact atp z
 unfold wj at h;simp only[asb,aso,as7]at h;rcases h with rfl|rfl|rfl
 . exact Xw hb Wl
 . exact Xw hb Wl
 . exact Xw hb Wl
def DeS:fz->Prop
 | .call x=>PyData.strOk x=true
 | .say x _ _=>PyData.strOk x=true
 | .put _ _ _=>True
def ItS:It->Prop
 | .dQ q=>DeS q
 | _=>True
def CN{a c:Int}:lU (n+1) (.tup [.int a,.int c]):=.tup fun d hd=>by
 simp only[asb,aso,as7]at hd;rcases hd with rfl|rfl
 . exact .int _ _
 . exact .int _ _
theorem HD{x:It}(h:ItS x):lU 2 x.d:=by
 cases x with
 | out m=>
   show lU 2 (.tup [.str "out",.int m]);refine .tup fun d hd=>?_;simp only[asb,aso,as7]at hd;rcases hd with rfl|rfl
   . exact .str _ _ Wl
   . exact .int _ _
 | keep m p q=>
   show lU 2 (.tup [.str "keep",.int m,.int p,.int q]);refine .tup fun d hd=>?_;simp only[asb,aso,as7]at hd;rcases hd with rfl|rfl|rfl|rfl
   . exact .str _ _ Wl
   . exact .int _ _
   . exact .int _ _
   . exact .int _ _
 | way i=>
   show lU 2 (.tup [.str "way",.int i]);refine .tup fun d hd=>?_;simp only[asb,aso,as7]at hd;rcases hd with rfl|rfl
   . exact .str _ _ Wl
   . exact .int _ _
 | Ck m=>
   show lU 2 (.tup [.str "in",.int m]);refine .tup fun d hd=>?_;simp only[asb,aso,as7]at hd;rcases hd with rfl|rfl
   . exact .str _ _ Wl
   . exact .int _ _
 | dQ q=>
   cases q with
   | put x c m=>
     show lU 2 (.tup [.str "put",.int x,.tup [.int c,.int m]]);refine .tup fun d hd=>?_;simp only[asb,aso,as7]at hd;rcases hd with rfl|rfl|rfl
     . exact .str _ _ Wl
     . exact .int _ _
     . exact CN
   | call y=>
     show lU 2 (.tup [.str "call",.str y]);refine .tup fun d hd=>?_;simp only[asb,aso,as7]at hd;rcases hd with rfl|rfl
     . exact .str _ _ Wl
     . exact .str _ _ h
   | say y c m=>
     show lU 2 (.tup [.str "say",.str y,.tup [.int c,.int m]]);refine .tup fun d hd=>?_;simp only[asb,aso,as7]at hd;rcases hd with rfl|rfl|rfl
     . exact .str _ _ Wl
     . exact .str _ _ h
     . exact CN
def Xx{c:Int}(h:∀x∈hh,PyData.strOk x=true):DeS (zm c m hh):=by
 unfold zm;split
 . refine Qm (fun x hx=>?_) _;rcases asf.mp hx with z|z
   . exact h x z
   . rw[asw.mp z];exact xE _
 . split
   . exact xE _
   . exact trivial
def Qn{w:Str}{a c d e:Int}(h:PyData.strOk w=true):lU 2 (.tup [.str w,.tup [.int a,.int c],.tup [.int d,.int e]]):=.tup fun x hx=>by
 simp only[asb,aso,as7]at hx;rcases hx with rfl|rfl|rfl
 . exact .str _ _ h
 . exact CN
 . exact CN
def ab5:∀x∈abJ,PyData.strOk x=true:=by decide +kernel
def Fs7(r:F7):Prop:=(∀d∈r.1,lU 2 d)/\∀x∈r.2,ItS x
section
variable{s:AT}{cl:Bool}
def aeo(h:∀x∈hh,PyData.strOk x=true):∀r∈P1 s p t m hh cl,Fs7 r:=fun r hr=>by
 rcases asf.mp hr with z|z
 . obtain⟨k,_,rfl⟩:=asq.mp z;refine⟨fun d hd=>?_,fun x hx=>?_⟩
   . obtain⟨a,_,rfl⟩:=asq.mp hd;exact Qn (Qm ab5 _)
   . obtain⟨a,_,rfl⟩:=asq.mp hx;exact Xx h
 . unfold fr2 at z;split at z
   . rw[asw.mp z];refine⟨(fun d hd=>by cases hd),fun x hx=>?_⟩;rw[asw.mp (atp hx)];exact Xx h
   . cases z
def Xy(h:∀x∈hh,PyData.strOk x=true):∀r∈oi s p t m hh cl,Fs7 r:=by
 unfold oi;split
 . exact aeo h
 . exact aeo h
def Qo(h:∀x∈hh,PyData.strOk x=true):∀r∈wX s p t m hh cl,Fs7 r:=fun r hr=>by
 unfold wX at hr;split at hr
 . rename_i ha;have ha:=(asI _ _▸ha).1;rcases ath hr with z|z
   . exact Xy h r z
   . rw[z];have hp:0<(oi s p t m hh cl).length:=by unfold oi;rw[ass ha];exact xM ..
     obtain⟨a,c⟩:Fs7 ((oi s p t m hh cl).getD ((oi s p t m hh cl).length-1) qZ):=Xy h _ (sC (l:=oi s p t m hh cl) We);refine⟨a,fun x hx=>?_⟩;rcases asf.mp hx with z|z
     . exact c x z
     . rw[asw.mp z];show PyData.strOk "odd0" = true;decide +kernel
 . exact Xy h r hr
def Qp:lU 2 (vt t):=Qn Wl
def akq(h:∀x∈hh,PyData.strOk x=true):∀r∈Bu s p t m hh cl,Fs7 r:=fun r hr=>by
 unfold Bu zu at hr;split at hr
 . split at hr
   . rename_i hl;rcases ath hr with z|z
     . exact Qo h r z
     . rw[z];obtain⟨a,c⟩:Fs7 ((wX s p t m hh cl).getD 0 qZ):=Qo h _ (sC (l:=wX s p t m hh cl) We);refine⟨fun d hd=>?_,c⟩;rcases asb.mp hd with rfl|hd
       . exact Qp
       . exact a d hd
   . rcases asb.mp hr with z|z
     . rw[z];refine⟨fun d hd=>?_,fun x hx=>by cases hx⟩;rw[asw.mp hd];exact Qp
     . exact Qo h r z
 . exact Qo h r hr
end
variable{l:Cc}{to:Nat}
def akr(h:∀x∈l,ItS x):∀x∈Lp l f n to,ItS x:=fun x hx=>by
 unfold Lp at hx;split at hx
 . exact h x hx
 . simp only[asf,asb,aso,as7]at hx;rcases hx with((((rfl|rfl)|z)|rfl)|z)|rfl
   . exact trivial
   . exact trivial
   . exact h x (atp z)
   . exact trivial
   . exact h x (auP z)
   . exact trivial
def ab6(h:l.length<=4):(Lp l f n to).length<=1000:=by
 unfold Lp;split
 . omega
 . rw[asa,asa,asa,asa,asK,atU];show 2+_+1+_+1<=1000;omega
theorem M6{β:Type}{f:Nat->β}:∀{n:Nat},(∀i,i<n->∀j,j<n->f i=f j->i=j)->((List.range n).map f).Nodup
 | 0,_=>atA
 | n+1,h=>by
   rw[atw,asn,asX];refine⟨M6 fun i hi j hj=>h i We j We,ava _ _,fun x hx y hy e=>?_⟩;obtain⟨i,hi,rfl⟩:=asq.mp hx;have hi:=as4.mp hi;have ey:y=f n:=asw.mp hy;rw[ey]at e;have:=h i We n We e;omega
theorem ab7{R:List (bT×α)}(h:k∈R.map (·.1)):∃l,lB R k=some l:=by
 induction R with
 | nil=>cases h
 | cons p R ih=>
   by_cases e:p.1=k
   . exact⟨_,ng e⟩
   . rw[nh e];rw[asA]at h;rcases asb.mp h with z|z
     . exact absurd z.symm e
     . exact ih z
variable{q:Nat}
def an5(s:AT)(h:q<=100):1<=n7 s q/\n7 s q<=100:=by unfold n7;omega
def Xz(s:AT)(hq:q<=100)(cl:Bool):FZ (SW s q cl) (jg s) (n7 s q):=by
 have hb:=an5 s hq;have hl:=Bw s;have UH:=MV s;have hml:n7 s q*(jg s).length<=100*3:=Nat.mul_le_mul hb.2 hl;have hbn:=Xg s;have dm:∀i,i<n7 s q*(jg s).length->i / (jg s).length<n7 s q/\i % (jg s).length<(jg s).length:=fun i hi=>by
   have hp:0<(jg s).length:=by
     rcases Nat.eq_zero_or_pos (jg s).length with z|z
     . rw[z,Nat.mul_zero]at hi;omega
     . exact z
   exact⟨(Nat.div_lt_iff_lt_mul hp).mpr hi,Nat.mod_lt _ hp⟩
 refine⟨fun i hi x hx=>?_,fun z hz=>?_,?_,?_,hl,hb,zy s⟩
 . obtain⟨t,ht⟩:=atu.mp hx;have htl:=(asl.mp ht).1;have ex:(jg s).getD t Str.empty=x:=by rw[asj,ht];rfl
   refine ab7 ?_;unfold SW FW;rw[asC];refine asq.mpr ⟨i*(jg s).length+t,as4.mpr ?_,?_⟩
   . have:(i+1)*(jg s).length<=n7 s q*(jg s).length:=Nat.mul_le_mul_right _ hi;rw[Nat.add_mul,Nat.one_mul]at this;omega
   . show xO _ _=_;rw[(dv7 htl).1,(dv7 htl).2,ex]
 . unfold SW FW at hz;obtain⟨i,hi,rfl⟩:=asq.mp hz;obtain⟨d1,d2⟩:=dm i (as4.mp hi);generalize i / (jg s).length=f at d1 ⊢;generalize i % (jg s).length=t at d2 ⊢;have Kq:=Hz s q;have hk:(qk s q).getD f 0<CH s:=MX s q _ (sC We);have hix:(qk s q).getD f 0*3+t<3*CH s:=by omega
   have yO:=MY (cl:=cl) hix;have eF:(JC s cl).getD ((qk s q).getD f 0*3+t) []=Bu s (((qk s q).getD f 0*3+t) / 3) (((qk s q).getD f 0*3+t) % 3) (xQ s).length (jg s) cl:=by rw[asj,yO];rfl
   show(RX s (qk s q) f t ((JC s cl).getD ((qk s q).getD f 0*3+t) [])).length<=100/\∀r∈RX s (qk s q) f t ((JC s cl).getD ((qk s q).getD f 0*3+t) []),Xp (n7 s q) r;rw[eF];have g1:=P7 s (((qk s q).getD f 0*3+t) / 3) (((qk s q).getD f 0*3+t) % 3) (xQ s).length (jg s) cl;have g2:=akq (s:=s) (p:=((qk s q).getD f 0*3+t) / 3) (t:=((qk s q).getD f 0*3+t) % 3) (m:=(xQ s).length) (hh:=jg s) (cl:=cl) (zy s);have g3:=MT (s:=s) (p:=((qk s q).getD f 0*3+t) / 3) (t:=((qk s q).getD f 0*3+t) % 3) (m:=(xQ s).length) (hh:=jg s) (cl:=cl);have g4:=Hy (s:=s) (p:=((qk s q).getD f 0*3+t) / 3) (t:=((qk s q).getD f 0*3+t) % 3) (m:=(xQ s).length) (hh:=jg s) (cl:=cl);generalize Bu s (((qk s q).getD f 0*3+t) / 3) (((qk s q).getD f 0*3+t) % 3) (xQ s).length (jg s) cl=fs at g1 g2 g3 g4 ⊢;unfold RX Xd;refine⟨by rw[ar3,asz];omega,fun r hr=>?_⟩;obtain⟨i,hi,rfl⟩:=asq.mp hr;have hm:fs.getD i qZ∈fs:=sC (as4.mp hi);exact⟨by rw[← Kq];exact agK _ _ _ _ _ We,g4 _ hm,(g2 _ hm).1,fun x hx=>HD (akr (g2 _ hm).2 x hx),ab6 (g3 _ hm).2⟩
 . unfold SW FW;rw[asC];refine M6 fun i hi j hj e=>?_;have hi:=dm i hi;have hj:=dm j hj;obtain⟨e1,e2⟩:=By e;have e3:=getD_inj UH hi.2 hj.2 e2;rw[← auC i (jg s).length,← auC j (jg s).length,e1,e3]
 . unfold SW FW;rw[ar3,asz];omega
def ab8(s:AT)(a m:Nat):lU 3 (Xc s a m):=by
 unfold Xc;refine .tup fun d hd=>?_;simp only[asb,aso,as7]at hd;rcases hd with rfl|rfl
 . split
   . refine .tup fun d hd=>?_;simp only[asb,aso,as7]at hd;rcases hd with rfl|rfl|rfl
     . exact .int _ _
     . exact .int _ _
     . exact .int _ _
   . exact CN
 . refine .tup fun d hd=>?_;rcases asb.mp hd with rfl|hd
   . exact .int _ _
   . rw[au5 hd];exact .int _ _
def Qq(s:AT)(q:Nat):(pr7 s q).length=n7 s q:=by unfold pr7;rw[ar3,asz]
def agP(s:AT)(hq:q<=100)(cl:Bool):M5 (xQ s) (jg s) (ZX s) (pr7 s q) (SW s q cl) where
 t:=by rw[Qq];exact Xz s hq cl
 b:=fun z hz=>by
   obtain⟨k,hk,rfl⟩:=asq.mp hz;have hk:=as4.mp hk;exact(Qd k We).1.2
 g:=fun x hx=>by
   unfold ZX at hx;simp only[asb,aso,as7]at hx;rcases hx with rfl|rfl|rfl
   . exact HD trivial
   . exact HD trivial
   . exact HD (Xx (zy s))
 p:=fun d hd=>by
   obtain⟨k,_,rfl⟩:=asq.mp hd;exact ab8 _ _ _
 i:=CF fun k _=>Qf _ _ _
def nu(h:FZ R hs n):∀q∈fW R,D.aT q.2=true:=fun q hq=>by
 obtain⟨p,hp,rfl⟩:=asq.mp hq;exact CF fun r hr=>M4 ((h.b p hp).2 r hr).b
def SY(h:M5 bs hs bg pr R):(pt7 bs hs bg pr R).clean=true:=by
 unfold pt7;rw[T.clean,T.cM,T.cM,T.cM,T.cM,T.cM,T.cM,bJ (gC (fun _=>rfl) _),bJ (dX _),bJ h.i,T.clean,T.clean,AG (nu h.t),D.kB,cZ];rfl
def S6(h:M5 bs hs bg pr R):(T.ins "Table" (xJ (bs.map gI) (hs.map .str) (bg.map It.d) pr (fW R))).clean=true:=by
 rw[T.clean];exact qX (gC (fun _=>rfl) _) (dX _) (cZ _) h.i (nu h.t)
theorem F0{F:Bi}(h:cX F=F):∀j,j<=F.length->(List.range j).filter (fun i=>decide (F.idxOf (F.getD i 0)=i))=(List.range (unq (F.take j)).length).map fun c=>F.idxOf c
 | 0,_=>rfl
 | j+1,hj=>by
   have hc:F[j]? = some (F.getD j 0):=by rw[asj,ar6 We];rfl
   obtain⟨r1,r2⟩:=Ql h hc;have ih:=F0 h j We;rw[atw,auh,ih];have e1:F.take (j+1)=F.take j++[F.getD j 0]:=by rw[as9,hc];rfl
   by_cases hm:F.getD j 0∈F.take j
   . have hl:F.idxOf (F.getD j 0)<j:=by
       have:F.idxOf (F.getD j 0)=(F.take j).idxOf (F.getD j 0):=by
         conv=>lhs;rw[← atl j F]
         rw[atM,ass (by rw[atl];exact hm),atl]
       rw[this];have:=as3.mpr hm;rw[asK]at this;omega
     rw[e1,fN,ass (c5.mpr hm),List.filter_cons_of_neg (by rw[decide_eq_true_iff];omega),List.filter_nil,asx]
   . have hx:F.idxOf (F.getD j 0)=j:=by
       have h1:(F.take (j+1)).idxOf (F.getD j 0)=j:=by
         rw[e1,atM,ash hm,auR,asK];omega
       conv=>lhs;rw[← atl (j+1) F]
       rw[atM,ass (by rw[atl,e1];simp),atl];exact h1
     have hu:F.getD j 0∉unq (F.take j):=fun z=>hm (c5.mp z);have hv:F.getD j 0=(unq (F.take j)).length:=by
       rw[e1,fN,ash hu,asa]at r2;have r2:max (unq (F.take j)).length (F.getD j 0+1)=(unq (F.take j)).length+1:=r2;omega
     rw[e1,fN,ash hu,asa];show _=(List.range ((unq (F.take j)).length+1)).map _;rw[atw,asn,← hv,List.filter_cons_of_pos (by rw[decide_eq_true_iff];exact hx),List.filter_nil];show _=_++[F.idxOf (F.getD j 0)];rw[hx]
section
variable(h:cX F=F)
include h
def M7:(List.range F.length).filter (fun i=>decide (F.idxOf (F.getD i 0)=i))=(List.range (cn F)).map fun c=>F.idxOf c:=by
 rw[F0 h F.length (asp _),ate];rfl
def HF(ha:a<F.length):F.getD a 0<cn F:=by
 have hm:F.getD a 0∈F:=sC ha;have hm:F.getD a 0∈cX F:=h.symm▸hm;exact Xj hm
def CP(hc:c<cn F):F.idxOf c<F.length/\F.getD (F.idxOf c) 0=c:=by
 have hm:c∈F:=by
   rw[← h];exact Qi hc
 have hl:=as3.mpr hm;refine⟨hl,?_⟩;rw[asj,ar6 hl];exact aui hl
end
def Ls(F:Bi)(l:List R7):List R7:=l.map fun r=>(r.1,r.2.1.filter It.told,F.getD r.2.2 0)
def tF(R:List (bT×List R7))(hs:Ap)(F:Bi)(n:Nat):List (bT×List R7):=(List.range n).map fun(i:Nat)=>(xO (i / hs.length) (hs.getD (i % hs.length) Str.empty),Ls F (qa R (F.idxOf (i / hs.length)) (hs.getD (i % hs.length) Str.empty)))
def XA(pr:At)(F:Bi):At:=(List.range (cn F)).map fun(c:Nat)=>pr.getD (F.idxOf c) .non
def XC(R:List (bT×List R7))(hs:Ap)(F:Bi)(h:t<hs.length):tF R hs F (j*hs.length+t+1)=tF R hs F (j*hs.length+t)++[(xO j (hs.getD t Str.empty),Ls F (qa R (F.idxOf j) (hs.getD t Str.empty)))]:=by
 unfold tF;rw[atw,asn,au4,(dv7 h).1,(dv7 h).2]
def ab9(R:List (bT×List R7))(F:Bi)(nd:hs.Nodup)(h:t<hs.length):xO j (hs.getD t Str.empty)∉(tF R hs F (j*hs.length+t)).map (·.1):=fun hm=>by
 unfold tF at hm;rw[asC]at hm;obtain⟨i,hi,e⟩:=asq.mp hm;have hi:=as4.mp hi;obtain⟨e1,e2⟩:=By e;have e3:=getD_inj nd (Nat.mod_lt i We) h e2;have e1:i / hs.length=j:=e1;have e3:i % hs.length=t:=e3;have:=auC i hs.length;rw[e1,e3,Nat.mul_comm]at this;omega
def dm7{k H:Nat}:∀i,i<k*H->i / H<k/\i % H<H:=fun i hi=>by
 have hp:0<H:=by
   rcases Nat.eq_zero_or_pos H with z|z
   . rw[z,Nat.mul_zero]at hi;omega
   . exact z
 exact⟨(Nat.div_lt_iff_lt_mul hp).mpr hi,Nat.mod_lt _ hp⟩
def XD(nd:hs.Nodup)(k:Nat):((tF R hs F (k*hs.length)).map (·.1)).Nodup:=by
 unfold tF;rw[asC];refine M6 fun i hi j hj e=>?_;have hi:=dm7 i hi;have hj:=dm7 j hj;obtain⟨e1,e2⟩:=By e;have e3:=getD_inj nd hi.2 hj.2 e2;rw[← auC i hs.length,← auC j hs.length,e1,e3]
def Qs(nd:hs.Nodup){k:Nat}(hc:c<k)(ht:t<hs.length):lB (tF R hs F (k*hs.length)) (xO c (hs.getD t Str.empty))=some (Ls F (qa R (F.idxOf c) (hs.getD t Str.empty))):=by
 refine P0 (XD nd k) (j:=c*hs.length+t) ?_;have hi:c*hs.length+t<k*hs.length:=by
   have:(c+1)*hs.length<=k*hs.length:=Nat.mul_le_mul_right _ hc;rw[Nat.add_mul,Nat.one_mul]at this;omega
 unfold tF;rw[asi,atj hi];show some (xO ((c*hs.length+t) / hs.length) _,Ls F (qa R (F.idxOf ((c*hs.length+t) / hs.length)) _))=_;rw[(dv7 ht).1,(dv7 ht).2]
def aep(hx:x∈hs):∃t,t<hs.length/\hs.getD t Str.empty=x:=by
 obtain⟨t,ht⟩:=atu.mp hx;exact⟨t,(asl.mp ht).1,by rw[asj,ht];rfl⟩
def acd(nd:hs.Nodup){k:Nat}(hc:c<k)(hx:x∈hs):qa (tF R hs F (k*hs.length)) c x=Ls F (qa R (F.idxOf c) x):=by
 obtain⟨t,ht,rfl⟩:=aep hx;unfold qa;rw[Qs nd hc ht];rfl
theorem FZ.least(h:FZ R hs n)(nd:hs.Nodup)(hF:cX F=F)(hl:F.length=n):FZ (tF R hs F (cn F*hs.length)) hs (cn F):=by
 have f1:=h.f;have c1:1<=cn F:=by
   have:=HF hF (a:=0) We;omega
 have c2:cn F<=n:=by
   have:=Qj (n:=n) F We;rw[hF]at this;exact this
 refine⟨fun i hi x hx=>?_,fun q hq=>?_,XD nd _,?_,h.e,⟨c1,We⟩,h.g⟩
 . obtain⟨t,ht,rfl⟩:=aep hx;exact⟨_,Qs nd hi ht⟩
 . unfold tF at hq;obtain⟨i,hi,rfl⟩:=asq.mp hq;obtain⟨d1,d2⟩:=dm7 i (as4.mp hi);obtain⟨a1,_⟩:=CP hF d1;have hx:hs.getD (i % hs.length) Str.empty∈hs:=sC d2;obtain⟨_,q2,q3⟩:=h.row (by rw[← hl];exact a1) hx;refine⟨by show(Ls _ _).length<=100;unfold Ls;rw[ar3];exact q2,fun r hr=>?_⟩;obtain⟨r0,hr0,rfl⟩:=asq.mp hr;have w:=q3 r0 hr0;exact⟨HF hF (by rw[hl];exact w.a),w.b,w.c,fun x hx=>w.d x (ata.mp hx).1,asV (aup _ _) w.e⟩
 . unfold tF;rw[ar3,asz];have:cn F*hs.length<=100*3:=Nat.mul_le_mul We h.e;omega
def XF{y:Nat}(h:y∈F):(fu F)[F.idxOf y]? = some (y:Int)/\∀i,i<F.idxOf y->(fu F)[i]? ≠ some (y:Int):=by
 have hz:∀k,(fu F)[k]? = (F[k]?).map fun(x:Nat)=>(x:Int):=fun k=>by unfold fu;rw[asi]
 have hl:=as3.mpr h;refine⟨by rw[hz,ar6 hl,aui hl];rfl,fun i hi e=>?_⟩;rw[hz]at e;obtain⟨x,h1,h2⟩:=asF.mp e;have h2:(x:Int)=(y:Int):=h2;have hx:x=y:=by omega
 rw[hx]at h1;have:F.idxOf y<=i:=by
   have FL:=(asl.mp h1).1;have hy:=(asl.mp h1).2;rcases au3 i (F.idxOf y) with z|z
   . exfalso;have hm:y∈F.take (i+1):=by rw[as9,h1];simp
     have e2:F.idxOf y=(F.take (i+1)).idxOf y:=by
       conv=>lhs;rw[← atl (i+1) F]
       rw[atM,ass hm]
     have h3:=as3.mpr hm;rw[asK]at h3;omega
   . exact z
 omega
theorem HG(h:D.aT pr=true)(F:Bi):D.aT (XA pr F)=true:=CF fun c _=>by
 rw[asj];cases e:pr[F.idxOf c]? with
 | none=>rfl
 | some d=>exact qg h d (asu e)
def agQ{l:List R7}(h:∀r∈l,Xp n r):D.aT ((Ls F l).map AI)=true:=CF fun r hr=>by
 obtain⟨q,hq,rfl⟩:=asq.mp hr;exact M4 (h q hq).b
def Bd(cd pl:D)(pa:At)(bs:AT)(ex:B1):B1:=("table",.sh cd)::("place",.sh pl)::("past",.lst (pa.map T.sh))::("boxes",.sh (.lst (bs.map .int)))::ex
def jJ(cd pl:D)(pa:At)(bs:AT)(ex:Cn):Cn:=("table",cd)::("place",pl)::("past",.lst pa)::("boxes",.lst (bs.map .int))::ex
def oF:Dx->B1
 | none=>[]
 | some r=>[("first_rows",.lst (r.map T.sh))]
def yP:Dx->Cn
 | none=>[]
 | some r=>[("first_rows",.lst r)]
variable{cd pl:D}{pa:At}{bs:AT}{ex:Cn}{eo:Dx}{m:Str}
def F2:List.lookup ("table":Str) (jJ cd pl pa bs ex)=some cd:=ig
def zA:List.lookup ("place":Str) (jJ cd pl pa bs ex)=some pl:=by
 unfold jJ;rw[aS Wl,ig]
def xS:List.lookup ("past":Str) (jJ cd pl pa bs ex)=some (.lst pa):=by
 unfold jJ;rw[aS Wl,aS Wl,ig]
def zB:List.lookup ("boxes":Str) (jJ cd pl pa bs ex)=some (.lst (bs.map .int)):=by
 unfold jJ;rw[aS Wl,aS Wl,aS Wl,ig]
def S7{r:At}:List.lookup ("first_rows":Str) (jJ cd pl pa bs (yP (some r)))=some (.lst r):=by
 unfold jJ yP;rw[aS Wl,aS Wl,aS Wl,aS Wl,ig]
theorem wk(h1:(m==("table":Str))=false)(h2:(m==("place":Str))=false)(h3:(m==("past":Str))=false)(h4:(m==("boxes":Str))=false)(h5:(m==("first_rows":Str))=false):(jJ cd pl pa bs (yP eo)).lookup m=none:=by
 unfold jJ;rw[aS h1,aS h2,aS h3,aS h4];cases eo with
 | none=>rfl
 | some r=>
   unfold yP;rw[aS h5];rfl
theorem acf(h1:(m==("table":Str))=false)(h2:(m==("place":Str))=false)(h3:(m==("past":Str))=false)(h4:(m==("boxes":Str))=false)(h5:(m==("first_rows":Str))=false):(Bd cd pl pa bs (oF eo)).lookup m=none:=by
 unfold Bd;rw[aS h1,aS h2,aS h3,aS h4];cases eo with
 | none=>rfl
 | some r=>
   unfold oF;rw[aS h5];rfl
theorem XG(cd pl:D)(pa:At)(bs:AT)(eo:Dx):(Bd cd pl pa bs (oF eo)).length<1000:=by
 cases eo with
 | none=>exact ar8 rfl
 | some r=>exact ar8 rfl
def Eo(mk:Str)(i j:Int):Bool:=if mk="<" then decide (i<j) else if mk="<=" then decide (i<=j) else if mk="=" then decide (i=j) else !decide (i=j)
abbrev Ask:=Str×Int×Int×Int×Int
def KH(q:Ask):D:=.tup [.str q.1,.tup [.int q.2.1,.int q.2.2.1],.tup [.int q.2.2.2.1,.int q.2.2.2.2]]
def okQ(bs:AT)(q:Ask):Prop:=(q.2.1=-1\/(0<=q.2.1/\q.2.1<bs.length))/\(q.2.2.2.1=-1\/(0<=q.2.2.2.1/\q.2.2.2.1<bs.length))
def hQ(bs:AT)(q:Ask):Bool:=Eo q.1 (fZ q.2.1 q.2.2.1 bs) (fZ q.2.2.2.1 q.2.2.2.2 bs)
def at3:D->D
 | .tup (_::_::d::_)=>d
 | _=>.non
def ZY(d:D):Ask:=(d.UE.toS,d.at2.UE.vZ,d.at2.at2.vZ,(at3 d).UE.vZ,(at3 d).at2.vZ)
def pO(m:Nat)(a:Int):Prop:=a=-1\/(0<=a/\a<(m:Int))
def Qt(m:Nat):It->Prop
 | .dQ (.put i a _)=>(0<=i/\i<(m:Int))/\pO m a
 | .dQ (.say s a _)=>PyData.strOk s=true/\pO m a
 | .dQ (.call s)=>PyData.strOk s=true
 | _=>True
structure Ro7(m:Nat)(r:R7):Prop where
 a:∀d∈r.1,KH (ZY d)=d/\pO m (ZY d).2.1/\pO m (ZY d).2.2.2.1
 b:∀x∈r.2.1,Qt m x
 e:r.2.1.length<=20
structure qm(m f:Nat)(hs:Ap)(R:List (bT×List R7)):Prop where
 t:FZ R hs f
 r:∀q∈R,∀r∈q.2,Ro7 m r
theorem Ro7.asks{m:Nat}(h:Ro7 m r)(hb:bs.length=m):(r.1.map ZY).map KH=r.1/\∀q∈r.1.map ZY,okQ bs q:=by
 constructor
 . rw[asC];exact(atk fun d hd=>(h.a d hd).1).trans (List.map_id _)
 . intro q hq;obtain⟨d,hd,rfl⟩:=asq.mp hq;unfold okQ;rw[hb];exact(h.a d hd).2
theorem XH{m:Nat}{x:It}(h:Qt m x)(hb:bs.length=m):x.ok bs:=by
 subst hb;cases x with
 | dQ q=>
   cases q with
   | put i a c=>exact h
   | say s a c=>exact h.2
   | call s=>trivial
 | _=>trivial
def AJ(bs:AT)(r:R7):Bool:=(r.1.map ZY).all (hQ bs)
def sE(R:List (bT×List R7))(hs:Ap)(a:Nat)(sg:Str)(bs:AT):Cc×Nat:=
 if sg∈hs then(match (qa R a sg).find? (AJ bs) with|some r=>r.2|none=>([],a)) else([],a)
theorem qm.row{m:Nat}(h:qm m f hs R)(ha:a<f)(hx:x∈hs):lB R (xO a x)=some (qa R a x)/\(qa R a x).length<=100/\∀r∈qa R a x,Xp f r/\Ro7 m r:=by
 obtain⟨h1,h2,h3⟩:=h.t.row ha hx;exact⟨h1,h2,fun r hr=>⟨h3 r hr,h.r _ (Qk h1) r hr⟩⟩
def M8{m:Nat}(h:qm m f hs R)(ha:a<f)(sg:Str)(bs:AT):(sE R hs a sg bs).1.length<=20/\(∀x∈(sE R hs a sg bs).1,Qt m x)/\(sE R hs a sg bs).2<f:=by
 unfold sE;split
 . rename_i hx;obtain⟨_,_,hr⟩:=h.row ha hx;split
   . rename_i r e;obtain⟨h1,h2⟩:=hr r (auY e);exact⟨h2.e,h2.b,h1.a⟩
   . exact⟨asU _,fun x hx=>absurd hx aso,ha⟩
 . exact⟨asU _,fun x hx=>absurd hx aso,ha⟩
abbrev FSt:=Ap×Nat×AT
def qo(R:List (bT×List R7))(hs:Ap):Nat->FSt->At×FSt
 | 0,s=>([],s)
 | j+1,s=>match qo R hs j s with
   | (rs,[],p)=>(rs,[],p)
   | (rs,sg::w,a,bs)=>(rs++(D.tup [.str "sign",.str sg]::(sX (sE R hs a sg bs).1 bs).map J.d),w++aV (sE R hs a sg bs).1,(sE R hs a sg bs).2,(sE R hs a sg bs).1.foldl It.af bs)
def vC(R:List (bT×List R7))(hs:Ap)(s:FSt):At:=(qo R hs 8 s).1++(if (qo R hs 8 s).2.1=[] then [] else [.tup [.str "rest",.int (((qo R hs 8 s).2.1.length:Nat):Int)]])
def F3(R:List (bT×List R7))(hs:Ap)(s:FSt):Nat:=(qo R hs 8 s).2.2.1
def F4(R:List (bT×List R7))(hs:Ap)(s:FSt):AT:=(qo R hs 8 s).2.2.2
variable{m:Nat}
theorem KJ{s:FSt}{j:Nat}(h:(qo R hs j s).2.1=[]):∀k,qo R hs (j+k) s=qo R hs j s
 | 0=>rfl
 | k+1=>by
   rw[← Nat.add_assoc,qo,KJ h k];generalize qo R hs j s=r at h ⊢;obtain⟨rs,w,p⟩:=r;have h:w=[]:=h;subst h;rfl
def CQ{s:FSt}{j:Nat}{rs:At}{sg:Str}{w:Ap}{a:Nat}{bs:AT}(h:qo R hs j s=(rs,sg::w,a,bs)) :
   qo R hs (j+1) s=(rs++(D.tup [.str "sign",.str sg]::(sX (sE R hs a sg bs).1 bs).map J.d),w++aV (sE R hs a sg bs).1,(sE R hs a sg bs).2,(sE R hs a sg bs).1.foldl It.af bs):=by
 rw[qo,h]
theorem wm(h:qm m f hs R){cs:Ap}{a:Nat}{bs:AT}(ha:a<f)(hb:bs.length=m):∀j,(qo R hs j (cs,a,bs)).1.length<=21*j/\(qo R hs j (cs,a,bs)).2.1.length<=cs.length+20*j/\(qo R hs j (cs,a,bs)).2.2.1<f/\(qo R hs j (cs,a,bs)).2.2.2.length=m/\D.aT (qo R hs j (cs,a,bs)).1=true
 | 0=>⟨asU _,asp _,ha,hb,rfl⟩
 | j+1=>by
   obtain⟨h1,h2,h5,h3,h4⟩:=wm h (cs:=cs) ha hb j;cases e:qo R hs j (cs,a,bs) with
   | mk rs r=>
     obtain⟨w,a2,b2⟩:=r;rw[e]at h1 h2 h3 h4 h5;dsimp only at h1 h2 h3 h4 h5;cases w with
     | nil=>
       rw[qo,e];exact⟨by dsimp only;omega,Uf,h5,h3,h4⟩
     | cons sg w=>
       rw[CQ e];obtain⟨s1,s2,s4⟩:=M8 h h5 sg b2;have s3:(aV (sE R hs a2 sg b2).1).length<=(sE R hs a2 sg b2).1.length:=atF _ _;rw[asN]at h2;refine⟨?_,?_,s4,?_,?_⟩
       . dsimp only;rw[asa,asN,ar3,xG];omega
       . dsimp only;rw[asa];omega
       . exact(qU _ _).trans h3
       . refine jL fun d hd=>?_;rcases asf.mp hd with z|z
         . exact qg h4 d z
         . rcases asb.mp z with rfl|z
           . rfl
           . exact qg (Hu _ _) d z
variable{cs:Ap}
def CT(h:qm m f hs R)(ha:a<f)(hb:bs.length=m):(vC R hs (cs,a,bs)).length<=169/\D.aT (vC R hs (cs,a,bs))=true:=by
 obtain⟨h1,h2,h5,h3,h4⟩:=wm h (cs:=cs) ha hb 8;unfold vC;refine⟨?_,jL fun d hd=>?_⟩
 . rw[asa];split<;>simp<;>omega
 . rcases asf.mp hd with z|z
   . exact qg h4 d z
   . split at z
     . cases z
     . rw[asw.mp z];rfl
def cB(cd pl:D)(pt:Bn)(bs:AT)(ex:B1):B1:=("table",.sh cd)::("place",.sh pl)::("past",.lst pt)::("boxes",.sh (.lst (bs.map .int)))::ex
abbrev wo:=Nat×AT×At
def dJ(l:List wo):Bn:=l.map fun q=>.tup [.sh (.int (q.1:Nat)),.sh (.lst (q.2.1.map .int)),.lst (q.2.2.map T.sh)]
variable{p:D}{pt:Bn}{et:B1}{y:Addr}{m:Str}
theorem KL:T.bG (.ins "FlatRun" (cB cd pl pt bs (oF eo)))=.ins "FlatRun" (jJ cd pl (T.eU pt) bs (yP eo)):=by
 cases eo with
 | none=>
   unfold cB jJ oF yP;rw[T.bG,T.oj,T.oj,T.oj,T.oj,T.oj,T.bG,T.bG,T.bG,T.bG]
 | some r=>
   unfold cB jJ oF yP;rw[T.bG,T.oj,T.oj,T.oj,T.oj,T.oj,T.oj,T.bG,T.bG,T.bG,T.bG,fM]
def zC:T.bG (.pin y (.ins "FlatRun" (cB cd pl pt bs (oF eo))))=.ins "FlatRun" (jJ cd pl (T.eU pt) bs (yP eo)):=by
 rw[T.bG,KL]
theorem BG(h1:(m==("table":Str))=false)(h2:(m==("place":Str))=false)(h3:(m==("past":Str))=false)(h4:(m==("boxes":Str))=false)(h5:(m==("first_rows":Str))=false):(cB cd pl pt bs (oF eo)).lookup m=none:=by
 unfold cB;rw[aS h1,aS h2,aS h3,aS h4];cases eo with
 | none=>rfl
 | some r=>
   unfold oF;rw[aS h5];rfl
def CV:List.lookup ("place":Str) (cB cd pl pt bs et)=some (.sh pl):=by
 unfold cB;rw[aS Wl,ig]
def mS:List.lookup ("past":Str) (cB cd pl pt bs et)=some (.lst pt):=by
 unfold cB;rw[aS Wl,aS Wl,ig]
def CW:List.lookup ("boxes":Str) (cB cd pl pt bs et)=some (.sh (.lst (bs.map .int))):=by
 unfold cB;rw[aS Wl,aS Wl,aS Wl,ig]
def CY:jM "place" (.sh p) (cB cd pl pt bs et)=cB cd p pt bs et:=by
 unfold cB;rw[aW Wl,uB]
def F5{t2:Bn}:jM "past" (.lst t2) (cB cd pl pt bs et)=cB cd pl t2 bs et:=by
 unfold cB;rw[aW Wl,aW Wl,uB]
def CZ{b2:AT}:jM "boxes" (.sh (.lst (b2.map .int))) (cB cd pl pt bs et)=cB cd pl pt b2 et:=by
 unfold cB;rw[aW Wl,aW Wl,aW Wl,uB]
def M9:T.lM [.fld "place"] (.pin y (.ins "FlatRun" (cB cd pl pt bs et)))=some (.sh pl):=by
 show(List.lookup _ _).bind _=_;rw[CV];rfl
def Nb:T.lM [.fld "boxes"] (.pin y (.ins "FlatRun" (cB cd pl pt bs et)))=some (.sh (.lst (bs.map .int))):=by
 show(List.lookup _ _).bind _=_;rw[CW];rfl
def zE:T.lM [.fld "past"] (.pin y (.ins "FlatRun" (cB cd pl pt bs et)))=some (.lst pt):=by
 show(List.lookup _ _).bind _=_;rw[mS];rfl
def C1{t2:Bn}:T.ni [.fld "past"] (.lst t2) (.pin y (.ins "FlatRun" (cB cd pl pt bs et)))=.pin y (.ins "FlatRun" (cB cd pl t2 bs et)):=by
 have e:T.Lj (.fld "past") (.ins "FlatRun" (cB cd pl pt bs et))=some (.lst pt):=mS (cd:=cd) (pl:=pl) (pt:=pt) (bs:=bs) (et:=et);rw[T.ni,show T.core (.pin y (.ins "FlatRun" (cB cd pl pt bs et)))=.ins "FlatRun" (cB cd pl pt bs et) from rfl,e];show T.pin y (.ins "FlatRun" (jM "past" (.lst t2) (cB cd pl pt bs et)))=_;rw[F5]
def F6{a b t:T}:T.Hr [.fld "past",.ix pt.length,.ix 2] (.pin y (.ins "FlatRun" (cB cd pl (pt++[T.tup [a,b,t]]) bs et)))=some t:=by
 show(List.lookup ("past":Str) (cB cd pl (pt++[T.tup [a,b,t]]) bs et)).bind (T.Hr [.ix pt.length,.ix 2])=_;rw[mS];show((pt++[T.tup [a,b,t]])[pt.length]?).bind (T.Hr [.ix 2])=_;rw[auq (asp _),Nat.sub_self];rfl
def S8{a b t u:T}:T.En [.fld "past",.ix pt.length,.ix 2] u (.pin y (.ins "FlatRun" (cB cd pl (pt++[T.tup [a,b,t]]) bs et)))=.pin y (.ins "FlatRun" (cB cd pl (pt++[T.tup [a,b,u]]) bs et)):=by
 have e:T.Lj (.fld "past") (.ins "FlatRun" (cB cd pl (pt++[T.tup [a,b,t]]) bs et))=some (.lst (pt++[T.tup [a,b,t]])):=mS (cd:=cd) (pl:=pl) (pt:=pt++[T.tup [a,b,t]]) (bs:=bs) (et:=et);have e2:T.Lj (.ix pt.length) (.lst (pt++[T.tup [a,b,t]]))=some (.tup [a,b,t]):=by
   show(pt++[T.tup [a,b,t]])[pt.length]? = _;rw[auq (asp _),Nat.sub_self];rfl
 rw[T.En,show T.core (.pin y (.ins "FlatRun" (cB cd pl (pt++[T.tup [a,b,t]]) bs et)))=.ins "FlatRun" (cB cd pl (pt++[T.tup [a,b,t]]) bs et) from rfl,e];show T.pin y (.ins "FlatRun" (jM "past" (T.En [.ix pt.length,.ix 2] u (.lst (pt++[T.tup [a,b,t]]))) (cB cd pl (pt++[T.tup [a,b,t]]) bs et)))=_;rw[T.En,show T.core (.lst (pt++[T.tup [a,b,t]]))=.lst (pt++[T.tup [a,b,t]]) from rfl,e2];show T.pin y (.ins "FlatRun" (jM "past" (.lst ((pt++[T.tup [a,b,t]]).set pt.length (T.tup [a,b,u]))) (cB cd pl (pt++[T.tup [a,b,t]]) bs et)))=_;rw[F5,List.set_append_right _ _ (asp _),Nat.sub_self];rfl
theorem xT(cd pl:D)(pt:Bn)(bs:AT)(eo:Dx):(cB cd pl pt bs (oF eo)).length<1000:=by
 cases eo with
 | none=>exact ar8 rfl
 | some r=>exact ar8 rfl
def C2(l:List wo)(q:wo):dJ (l++[q])=dJ l++[.tup [.sh (.int (q.1:Nat)),.sh (.lst (q.2.1.map .int)),.lst (q.2.2.map T.sh)]]:=by
 unfold dJ;rw[asn];rfl
def AkO(m:Nat)(d:D):Prop:=KH (ZY d)=d/\pO m (ZY d).2.1/\pO m (ZY d).2.2.2.1
def Qu(c:Int)(m:Nat):pO m (tbG c m):=by
 have h0:=asP c (b:=(m:Int)+1) We;have h1:=asQ c (b:=(m:Int)+1) We;unfold pO tbG;omega
def aks(c:Int)(m:Nat):AkO m (akG c m):=⟨rfl,Qu _ _,Qu _ _⟩
def XI{c:Int}{m:Nat}(h:∀x∈hh,PyData.strOk x=true):Qt m (.dQ (zm c m hh)):=by
 unfold zm;split
 . refine Qm (fun x hx=>?_) _;rcases asf.mp hx with z|z
   . exact h x z
   . rw[asw.mp z];exact xE _
 . split
   . exact⟨xE _,Qu _ _⟩
   . rename_i hm;have hm:m≠0:=fun e=>hm (.inr e);exact⟨⟨asP _ We,asQ _ We⟩,Qu _ _⟩
def Fr7(m:Nat)(r:F7):Prop:=(∀d∈r.1,AkO m d)/\∀x∈r.2,Qt m x
section
variable{s:AT}{p m:Nat}{cl:Bool}
def aeq(h:∀x∈hh,PyData.strOk x=true):∀r∈P1 s p t m hh cl,Fr7 m r:=fun r hr=>by
 rcases asf.mp hr with z|z
 . obtain⟨k,_,rfl⟩:=asq.mp z;refine⟨fun d hd=>?_,fun x hx=>?_⟩
   . obtain⟨a,_,rfl⟩:=asq.mp hd;exact aks _ _
   . obtain⟨a,_,rfl⟩:=asq.mp hx;exact XI h
 . unfold fr2 at z;split at z
   . rw[asw.mp z];refine⟨(fun d hd=>by cases hd),fun x hx=>?_⟩;rw[asw.mp (atp hx)];exact XI h
   . cases z
def XJ(h:∀x∈hh,PyData.strOk x=true):∀r∈oi s p t m hh cl,Fr7 m r:=by
 unfold oi;split
 . exact aeq h
 . exact aeq h
def Qv(h:∀x∈hh,PyData.strOk x=true):∀r∈wX s p t m hh cl,Fr7 m r:=fun r hr=>by
 unfold wX at hr;split at hr
 . rename_i ha;have ha:=(asI _ _▸ha).1;rcases ath hr with z|z
   . exact XJ h r z
   . rw[z];have hp:0<(oi s p t m hh cl).length:=by unfold oi;rw[ass ha];exact xM ..
     obtain⟨a,c⟩:Fr7 m ((oi s p t m hh cl).getD ((oi s p t m hh cl).length-1) qZ):=XJ h _ (sC (l:=oi s p t m hh cl) We);refine⟨a,fun x hx=>?_⟩;rcases asf.mp hx with z|z
     . exact c x z
     . rw[asw.mp z];exact⟨Wl,.inl rfl⟩
 . exact XJ h r hr
def aer:AkO m (vt t):=⟨rfl,.inl rfl,.inl rfl⟩
def akt(h:∀x∈hh,PyData.strOk x=true):∀r∈Bu s p t m hh cl,Fr7 m r:=fun r hr=>by
 unfold Bu zu at hr;split at hr
 . split at hr
   . rename_i hl;rcases ath hr with z|z
     . exact Qv h r z
     . rw[z];obtain⟨a,c⟩:Fr7 m ((wX s p t m hh cl).getD 0 qZ):=Qv h _ (sC (l:=wX s p t m hh cl) We);refine⟨fun d hd=>?_,c⟩;rcases asb.mp hd with rfl|hd
       . exact aer
       . exact a d hd
   . rcases asb.mp hr with z|z
     . rw[z];refine⟨fun d hd=>?_,fun x hx=>by cases hx⟩;rw[asw.mp hd];exact aer
     . exact Qv h r z
 . exact Qv h r hr
end
def aku{m:Nat}(h:∀x∈l,Qt m x):∀x∈Lp l f n to,Qt m x:=fun x hx=>by
 unfold Lp at hx;split at hx
 . exact h x hx
 . simp only[asf,asb,aso,as7]at hx;rcases hx with((((rfl|rfl)|z)|rfl)|z)|rfl
   . exact trivial
   . exact trivial
   . exact h x (atp z)
   . exact trivial
   . exact h x (auP z)
   . exact trivial
def agS(h:l.length<=4):(Lp l f n to).length<=20:=by
 unfold Lp;split
 . omega
 . rw[asa,asa,asa,asa,asK,atU];show 2+_+1+_+1<=20;omega
def acg(s:AT)(hq:q<=100)(cl:Bool):qm (xQ s).length (n7 s q) (jg s) (SW s q cl):=by
 refine⟨Xz s hq cl,fun z hz r hr=>?_⟩;unfold SW FW at hz;obtain⟨i,hi,rfl⟩:=asq.mp hz;have hi:=as4.mp hi;have hp:0<(jg s).length:=by
   rcases Nat.eq_zero_or_pos (jg s).length with z|z
   . rw[z,Nat.mul_zero]at hi;omega
   . exact z
 have d1:i / (jg s).length<n7 s q:=(Nat.div_lt_iff_lt_mul hp).mpr hi;have d2:i % (jg s).length<(jg s).length:=Nat.mod_lt _ hp;have hl:=Bw s;have hr:r∈RX s (qk s q) (i / (jg s).length) (i % (jg s).length) ((JC s cl).getD ((qk s q).getD (i / (jg s).length) 0*3+i % (jg s).length) []):=hr;generalize i / (jg s).length=f at d1 hr;generalize i % (jg s).length=t at d2 hr;have hk:(qk s q).getD f 0<CH s:=MX s q _ (sC (by rw[Hz];exact d1));have yO:=MY (cl:=cl) (k:=(qk s q).getD f 0*3+t) (s:=s) We;rw[asj (l:=JC s cl),yO]at hr;have g2:=akt (s:=s) (p:=((qk s q).getD f 0*3+t) / 3) (t:=((qk s q).getD f 0*3+t) % 3) (m:=(xQ s).length) (hh:=jg s) (cl:=cl) (zy s);have g3:=MT (s:=s) (p:=((qk s q).getD f 0*3+t) / 3) (t:=((qk s q).getD f 0*3+t) % 3) (m:=(xQ s).length) (hh:=jg s) (cl:=cl);have hr:r∈RX s (qk s q) f t (Bu s (((qk s q).getD f 0*3+t) / 3) (((qk s q).getD f 0*3+t) % 3) (xQ s).length (jg s) cl):=hr;generalize Bu s (((qk s q).getD f 0*3+t) / 3) (((qk s q).getD f 0*3+t) % 3) (xQ s).length (jg s) cl=fs at g2 g3 hr;unfold RX Xd at hr;obtain⟨i,hi,rfl⟩:=asq.mp hr;have hm:fs.getD i qZ∈fs:=sC (as4.mp hi);exact⟨(g2 _ hm).1,aku (g2 _ hm).2,agS (g3 _ hm).2⟩
def tD(d:D):Bool:=!decide (d.UE.toS∈cN)
def Qw(xs:Cc)(bs:AT):((sX xs bs).map J.d).filter tD=(sX (xs.filter It.told) bs).map J.d:=by
 rw[auD,Hv];rfl
theorem agT{x y:It}(hx:x.told=true)(hy:y.told=true)(h:x.d=y.d):x=y:=by
 cases x with
 | dQ p=>
   cases y with
   | dQ q=>
     have h:D.tup (.str p.w::p.ds)=D.tup (.str q.w::q.ds):=h;injection h with h;injection h with h1 h2;injection h1 with h1;cases p with
     | put a b c=>cases q with
       | put d e f=>cases h2;rfl
       | call s=>exact absurd h1 (by show("put":Str)≠"call";decide +kernel)
       | say s d e=>exact absurd h1 (by show("put":Str)≠"say";decide +kernel)
     | call s=>cases q with
       | put d e f=>exact absurd h1 (by show("call":Str)≠"put";decide +kernel)
       | call s=>cases h2;rfl
       | say s d e=>exact absurd h1 (by show("call":Str)≠"say";decide +kernel)
     | say s b c=>cases q with
       | put d e f=>exact absurd h1 (by show("say":Str)≠"put";decide +kernel)
       | call s=>exact absurd h1 (by show("say":Str)≠"call";decide +kernel)
       | say s d e=>cases h2;rfl
   | _=>cases hy
 | _=>cases hx
theorem Qx:∀{l m:Cc},(∀x∈l,x.told=true)->(∀x∈m,x.told=true)->l.map It.d=m.map It.d->l=m
 | [],[],_,_,_=>rfl
 | [],_::_,_,_,h=>by cases h
 | _::_,[],_,_,h=>by cases h
 | x::l,y::m,h1,h2,h=>by
   rw[asA,asA]at h;injection h with e1 e2;rw[agT (h1 x ar4) (h2 y ar4) e1,Qx (fun z hz=>h1 z (ar9 _ hz)) (fun z hz=>h2 z (ar9 _ hz)) e2]
theorem Qy{F:Bi}:∀{la lc:List R7},la.map Xu=lc.map Xu->(la.map fun r=>F.getD r.2.2 0)=(lc.map fun r=>F.getD r.2.2 0)->Ls F la=Ls F lc
 | [],[],_,_=>rfl
 | [],_::_,h,_=>by cases h
 | _::_,[],h,_=>by cases h
 | x::la,y::lc,h,g=>by
   rw[asA,asA]at h g;injection h with e1 e2;injection g with g1 g2;have e1:D.tup [.tup x.1,.lst ((x.2.1.filter It.told).map It.d)]=.tup [.tup y.1,.lst ((y.2.1.filter It.told).map It.d)]:=e1;injection e1 with e1;injection e1 with e1 e3;injection e1 with e1;injection e3 with e3 _;injection e3 with e3;have e4:x.2.1.filter It.told=y.2.1.filter It.told:=Qx (fun z hz=>(ata.mp hz).2) (fun z hz=>(ata.mp hz).2) e3;have ih:=Qy e2 g2;unfold Ls at ih ⊢;rw[asA,asA,ih,e1,e4,g1]
def S9(x:Str):tD (.tup [.str "sign",.str x])=true:=by show(!decide (("sign":Str)∈cN))=true;decide +kernel
def Tc(i:Int):tD (.tup [.str "rest",.int i])=true:=by show(!decide (("rest":Str)∈cN))=true;decide +kernel
def Ep(d:D):Prop:=∃w r,d=.tup (.str w::r)/\PyData.strOk w=true/\∀x∈r,(∃i,x=.int i)\/∃s,x=.str s/\PyData.strOk s=true
theorem Ep.dep(h:Ep d)(k:Nat):kQ (k+1) d:=by
 obtain⟨w,r,rfl,hw,hr⟩:=h;refine .tup fun x hx=>?_;rcases asb.mp hx with rfl|hx
 . exact .str _ _ hw
 . rcases hr x hx with⟨i,rfl⟩|⟨s,rfl,hs⟩
   . exact .int _ _
   . exact .str _ _ hs
def tG{l:At}(h:∀d∈l,Ep d):D.aT l=true:=jL fun d hd=>by
 obtain⟨w,r,rfl,_,hr⟩:=h d hd;show D.aT (.str w::r)=true;refine jL fun x hx=>?_;rcases asb.mp hx with rfl|hx
 . rfl
 . rcases hr x hx with⟨i,rfl⟩|⟨s,rfl,_⟩
   . rfl
   . rfl
def xU{l:At}(h:∀d∈l,Ep d){k:Nat}:kQ (k+2) (.lst l):=.lst fun d hd=>(h d hd).dep k
theorem akv{m:Nat}{x:It}(h:Qt m x)(bs:AT):Ep (x.j bs).d:=by
 cases x with
 | dQ q=>
   cases q with
   | put i a c=>exact⟨"put",[.int _,.int _,.int _],rfl,Wl,fun x hx=>.inl (by simp only[asb,aso,as7]at hx;rcases hx with rfl|rfl|rfl<;>exact⟨_,rfl⟩)⟩
   | say s a c=>exact⟨"say",[.str s,.int _],rfl,Wl,fun x hx=>by
       simp only[asb,aso,as7]at hx;rcases hx with rfl|rfl
       . exact .inr ⟨_,rfl,h.1⟩
       . exact .inl ⟨_,rfl⟩⟩
   | call s=>exact⟨"call",[.str s],rfl,Wl,fun x hx=>.inr ⟨s,asw.mp hx,h⟩⟩
 | out i=>exact⟨"out",[.int i],rfl,Wl,fun x hx=>.inl ⟨i,asw.mp hx⟩⟩
 | keep i p q=>exact⟨"keep",[.int i,.int p,.int q],rfl,Wl,fun x hx=>.inl (by simp only[asb,aso,as7]at hx;rcases hx with rfl|rfl|rfl<;>exact⟨_,rfl⟩)⟩
 | way i=>exact⟨"way",[.int i],rfl,Wl,fun x hx=>.inl ⟨i,asw.mp hx⟩⟩
 | Ck i=>exact⟨"in",[.int i],rfl,Wl,fun x hx=>.inl ⟨i,asw.mp hx⟩⟩
theorem Nf{m:Nat}:∀{xs:Cc} (bs:AT),(∀x∈xs,Qt m x)->∀d∈(sX xs bs).map J.d,Ep d
 | [],_,_,d,hd=>by cases hd
 | x::xs,bs,h,d,hd=>by
   rw[sX,asA]at hd;rcases asb.mp hd with rfl|hd
   . exact akv (h x ar4) bs
   . exact Nf (x.af bs) (fun y hy=>h y (ar9 _ hy)) d hd
theorem KN{m:Nat}{xs:Cc}(h:∀x∈xs,Qt m x):∀x∈aV xs,PyData.strOk x=true:=fun x hx=>by
 obtain⟨i,hi,he⟩:=auy.mp hx;have hg:=h i hi;cases i with
 | dQ q=>
   cases q with
   | call s=>cases he;exact hg
   | put i a c=>cases he
   | say s a c=>cases he
 | _=>cases he
variable{m:Nat}
theorem XM(h:qm m f hs R){cs:Ap}{a:Nat}{bs:AT}(ha:a<f)(hb:bs.length=m)(hc:∀x∈cs,PyData.strOk x=true):∀j,(∀x∈(qo R hs j (cs,a,bs)).2.1,PyData.strOk x=true)/\∀d∈(qo R hs j (cs,a,bs)).1,Ep d
 | 0=>⟨hc,fun d hd=>absurd hd aso⟩
 | j+1=>by
   obtain⟨pY,ih⟩:=XM h (cs:=cs) ha hb hc j;obtain⟨_,_,h5,_,_⟩:=wm h (cs:=cs) ha hb j;cases e:qo R hs j (cs,a,bs) with
   | mk rs r=>
     obtain⟨w,a2,b2⟩:=r;rw[e]at ih h5 pY;cases w with
     | nil=>
       rw[qo,e];exact⟨pY,ih⟩
     | cons sg w=>
       rw[CQ e];have hg:=(M8 h h5 sg b2).2.1;refine⟨fun x hx=>?_,fun d hd=>?_⟩
       . rcases asf.mp hx with z|z
         . exact pY x (ar9 _ z)
         . exact KN hg x z
       . rcases asf.mp hd with z|z
         . exact ih d z
         . rcases asb.mp z with rfl|z
           . exact⟨"sign",[.str sg],rfl,Wl,fun x hx=>.inr ⟨sg,asw.mp hx,pY sg ar4⟩⟩
           . exact Nf b2 hg d z
def HJ(h:qm m f hs R)(ha:a<f)(hb:bs.length=m)(hc:∀x∈cs,PyData.strOk x=true):∀d∈vC R hs (cs,a,bs),Ep d:=fun d hd=>by
 unfold vC at hd;rcases asf.mp hd with z|z
 . exact(XM h ha hb hc 8).2 d z
 . split at z
   . cases z
   . rw[asw.mp z];exact⟨"rest",[.int _],rfl,Wl,fun x hx=>.inl ⟨_,asw.mp hx⟩⟩
def ach(h:FZ R hs n)(nd:hs.Nodup)(hF:F=mh R hs n)(ha:a<n)(hx:x∈hs):qa (tF R hs F (cn F*hs.length)) (F.getD a 0) x=Ls F (qa R a x):=by
 have hl:F.length=n:=by rw[hF];exact q8 n
 have hN:cX F=F:=by rw[hF];exact uH n
 have hc:=HF hN (a:=a) We;obtain⟨f1,f2⟩:=CP hN hc;rw[acd nd hc hx];have hs:=fin_same (R:=R) (hs:=hs) h.f.1 (a:=F.idxOf (F.getD a 0)) (b:=a) We ha (by rw[← hF];exact f2);rw[← hF]at hs;obtain⟨s1,s2⟩:=Xv hs.1 hs.2 hx;exact Qy s1 s2
def XO(h:FZ R hs n)(nd:hs.Nodup)(hF:F=mh R hs n)(ha:a<n)(sg:Str)(bs:AT):sE (tF R hs F (cn F*hs.length)) hs (F.getD a 0) sg bs=((sE R hs a sg bs).1.filter It.told,F.getD (sE R hs a sg bs).2 0):=by
 unfold sE;by_cases hx:sg∈hs
 . rw[ass hx,ass hx,ach h nd hF ha hx];unfold Ls;rw[List.find?_map];have e:(AJ bs∘fun r:R7=>((r.1,r.2.1.filter It.told,F.getD r.2.2 0):R7))=AJ bs:=rfl;rw[e];cases (qa R a sg).find? (AJ bs) with
   | none=>rfl
   | some r=>rfl
 . rw[ash hx,ash hx];rfl
theorem F8(h:qm m n hs R)(nd:hs.Nodup)(hF:F=mh R hs n){cs:Ap}{a:Nat}{bs:AT}(ha:a<n)(hb:bs.length=m):∀j,qo (tF R hs F (cn F*hs.length)) hs j (cs,F.getD a 0,bs)=((qo R hs j (cs,a,bs)).1.filter tD,(qo R hs j (cs,a,bs)).2.1,F.getD (qo R hs j (cs,a,bs)).2.2.1 0,(qo R hs j (cs,a,bs)).2.2.2)
 | 0=>rfl
 | j+1=>by
   have ih:=F8 h nd hF (cs:=cs) ha hb j;obtain⟨_,_,h5,_,_⟩:=wm h (cs:=cs) ha hb j;rw[qo,ih,qo];generalize qo R hs j (cs,a,bs)=r at h5 ⊢;obtain⟨rs,w,a2,b2⟩:=r;cases w with
   | nil=>rfl
   | cons sg w=>
     dsimp only at h5 ⊢;have g:=XO h.t nd hF h5 sg b2;have e0:(tF R hs F (cn F*hs.length),F.getD a2 0)=(tF R hs F (cn F*hs.length),F.getD a2 0):=rfl;rw[g];dsimp only;rw[qW,xH,auh,aut,ass (show tD (.tup [.str "sign",.str sg])=true from S9 sg),Qw]
def Td(h:qm m n hs R)(nd:hs.Nodup)(hF:F=mh R hs n)(ha:a<n)(hb:bs.length=m):vC (tF R hs F (cn F*hs.length)) hs (cs,F.getD a 0,bs)=(vC R hs (cs,a,bs)).filter tD/\F3 (tF R hs F (cn F*hs.length)) hs (cs,F.getD a 0,bs)=F.getD (F3 R hs (cs,a,bs)) 0/\F4 (tF R hs F (cn F*hs.length)) hs (cs,F.getD a 0,bs)=F4 R hs (cs,a,bs):=by
 unfold vC F3 F4;rw[F8 h nd hF ha hb 8];refine⟨?_,rfl,rfl⟩;dsimp only;rw[auh];congr 1;split
 . rfl
 . rw[aut,ass (Tc _)];rfl
theorem qm.least(h:qm m n hs R)(nd:hs.Nodup)(hF:F=mh R hs n):qm m (cn F) hs (tF R hs F (cn F*hs.length)):=by
 have hl:F.length=n:=by rw[hF];exact q8 n
 have hN:cX F=F:=by rw[hF];exact uH n
 refine⟨h.t.least nd hN hl,fun q hq r hr=>?_⟩;unfold tF at hq;obtain⟨i,hi,rfl⟩:=asq.mp hq;obtain⟨d1,d2⟩:=dm7 i (as4.mp hi);obtain⟨r0,hr0,rfl⟩:=asq.mp hr;have hx:hs.getD (i % hs.length) Str.empty∈hs:=sC d2;obtain⟨f1,_⟩:=CP hN d1;obtain⟨_,w⟩:=(h.row (a:=F.idxOf (i / hs.length)) We hx).2.2 r0 hr0;exact⟨w.a,fun x hx=>w.b x (ata.mp hx).1,asV (aup _ _) w.e⟩
def XQ(h:FZ R hs n)(hF:F=mh R hs n):F.getD 0 0=0:=by
 have hl:F.length=n:=by rw[hF];exact q8 n
 have hN:cX F=F:=by rw[hF];exact uH n
 have hn:=h.f.1;have e:F[0]? = some (F.getD 0 0):=by rw[asj,ar6 We];rfl
 have:=(Ql hN e).1;rw[List.take_zero]at this;exact Nat.le_zero.mp this
seal L3.cQ L3.UD L3.bO L3.dD L3.vU L3.GQ L3.UC
abbrev Ng:=top 37
abbrev Nh:=Int
abbrev XR:Ap:=["cell","letters","mixed","name","k"]
def tH:Nh->At:=fun c=>[.int c]
def tK:Nh->Prop:=fun c=>True
def tL:Nh->T:=fun c=>(.sh (.str (jf c)):T)
structure agU(X:Cx)(CL:BC):Prop extends cj X where
 cU:Ln X 0 "cell"
 zF:Ln X 1 "letters"
 cG:Ln X 2 "mixed"
 pe:Ln X 3 "name"
 l_k:Ln X 4 "k"
 c6:Gl X "range"
 c7:X.mg "range" = none
variable{X:Cx}{CL:BC}
def agV{b:Bx}(E:agU X CL) :
   qT X CL b Ng XR tH tK tL:=by
 intro c h;dsimp only [tK,tH,tL]at h ⊢;refine aK E.g E.zF fY ?_;refine aK E.g E.cG (bH (au (fk (aO E.cU) ai ⟨Wp,Wp⟩)) (au (Vm ai ai ⟨Wp,Wp,Wp⟩)) Wp) ?_;generalize hm0:c / 12 % 10 ^ (9:Int).toNat=m0;have e0:nm0 c=(m0,A8 (m0 % 26)):=by rw[← hm0];rfl
 have akw:Sz.length=36:=by decide +kernel
 have m26:=fun m:Int=>asP m (show(26:Int)≠0 by decide);have l26:=fun m:Int=>asQ m (show(0:Int)<26 by decide);have m36:=fun m:Int=>asP m (show(36:Int)≠0 by decide);have l36:=fun m:Int=>asQ m (show(0:Int)<36 by decide);refine aK E.g E.pe (Vt (aO E.zF) (au (bH (aO E.cG) ai Wp)) (by rw[asD];decide +kernel) (by rw[WR];exact VC 0 (m26 _) (by have:=l26 m0;rw[akw];omega))) ?_;have c0:=asP c (show(12:Int)≠0 by decide);have c1:=asQ c (show(0:Int)<12 by decide);refine lT E.g E.l_k (fun j δ=>∃o,δ=[some (.sh (.int c)),some (.sh (.str "abcdefghijklmnopqrstuvwxyz0123456789")),some (.sh (.int (nk (m0,A8 (m0 % 26)) j).1)),some (.sh (.str (nk (m0,A8 (m0 % 26)) j).2)),o])
   (e9 E.c7 (au (bH (aO E.cU) ai Wp)) We E.c6) ⟨_,rfl⟩ (fun j δ ⟨_,e⟩=>by subst e;exact ar8 rfl) ?turn ?fin
 case turn=>
   rintro j d δ hj ⟨o,rfl⟩;obtain⟨rfl,Se⟩:=qf hj;have hnl:=WU (m0,A8 (m0 % 26)) j;have hn0:(A8 (m0 % 26)).length=1:=rfl;refine aK E.g E.cG (bH (au (bX (au (oY (aO E.cG) ai (.inr ⟨Wp,Wp⟩))) ai)) ai Wp) ?_;refine aK E.g E.pe (vW (aO E.pe) (au (Vt (aO E.zF) (au (bH (aO E.cG) ai Wp)) (by rw[asD];decide +kernel) (by rw[WR];exact VC 0 (m36 _) (by have:=l36 (abB (nk (m0,A8 (m0 % 26)) j).1);unfold abB at this;rw[akw];omega)))) (by rw[asD,hnl,hn0];show 1+j+1<=_;omega)) (aA ⟨_,rfl⟩)
 case fin=>
   rintro δ ⟨o,rfl⟩;have hn:(cS 0 (c % 12).toNat).length=(c % 12).toNat:=by simp[cS]
   rw[hn];have hb:(nk (m0,A8 (m0 % 26)) (c % 12).toNat).2=ZT c:=by unfold ZT;rw[e0]
   rw[hb];have hbl:=PX c;refine g8 (VB (l:=w13) (aO E.pe) (xu rfl)).1 (fun hp=>?_) (fun hp=>aA ?_)
   . refine bA (vW (aO E.pe) fq (by rw[asD];show _+1<=_;omega)) ?_;show T.sh _=T.sh (.str (jf c));rw[jf,ass (asB hp)]
   refine g8 (VB (l:=w6) (aO E.pe) (xu rfl)).1 (fun hq=>?_) (fun hq=>aA ?_)
   . refine bA (vW (aO E.pe) fq (by rw[asD];show _+1<=_;omega)) ?_;show T.sh _=T.sh (.str (jf c));rw[jf,ash (asJ hp),ass (asB hq)]
   . refine bA (v_ E.pe.1) ?_;show T.sh _=T.sh (.str (jf c));rw[jf,ash (asJ hp),ash (asJ hq)]
def rg:FG XR ["cell"] ["range"] (av Ng):=fG
abbrev zG:=top 35
abbrev zH:=AT×Int
abbrev F9:Ap:=["script","k"]
def fO:zH->At:=fun(ns,j)=>[.lst (ns.map .int),.int j]
def fP:zH->Prop:=fun(ns,j)=>0<=j
def fQ:zH->T:=fun(ns,j)=>(.sh (.int (bE ns j)):T)
structure Te(X:Cx)(CL:BC):Prop extends cj X where
 aQ:Ln X 0 "script"
 l_k:Ln X 1 "k"
 dg:Gl X "len"
 dh:X.mg "len" = none
def Tf{b:Bx}(E:Te X CL) :
   qT X CL b zG F9 fO fP fQ:=by
 rintro⟨ns,j⟩ h;dsimp only [fP,fO,fQ]at h ⊢;refine g8 (Vo (aO E.l_k) (au (Bj E.dh (aO E.aQ) E.dg))).1 (fun hp=>?_) (fun hp=>?_)
 . have e:j<ns.length:=by simpa using of_decide_eq_true hp
   refine bA (dI (cY (aO E.aQ) (aO E.l_k) (Mj h e)) rfl) ?_;show T.sh _=T.sh (.int (bE ns j));rw[bE,ass e]
 . have e:¬ j<ns.length:=by simpa using of_decide_eq_false hp
   refine aA (bA lJ ?_);show T.sh _=T.sh (.int (bE ns j));rw[bE,ash e]
def rm:FG F9 ["script","k"] ["len"] (av zG):=fG
abbrev HK:=top 38
abbrev HL:=Int×Int
abbrev Qz:Ap:=["cell","salt","mixed"]
def gY:HL->At:=fun(c,s)=>[.int c,.int s]
def gZ:HL->Prop:=fun(c,s)=>True
def g5:HL->T:=fun(c,s)=>(.sh (.int (wg c s)):T)
structure aci(X:Cx)(CL:BC):Prop extends cj X where
 cU:Ln X 0 "cell"
 agX:Ln X 1 "salt"
 cG:Ln X 2 "mixed"
def acj{b:Bx}(E:aci X CL) :
   qT X CL b HK Qz gY gZ g5:=by
 rintro⟨c,s⟩ h;dsimp only [gZ,gY,g5]at h ⊢;refine aK E.g E.cG (aF (bH (au (oY (au (bX (au (bH (aO E.cU) ai Wp)) (aO E.agX))) ai (.inr ⟨Wp,Wp⟩))) ai Wp) (t2:=.sh (.int (mx1 c s))) rfl) ?_;obtain⟨m0,m1⟩:=akn c s;refine bA (bH (au (oY (aO E.cG) (aO E.cG) (.inl ⟨We,We⟩))) ai Wp) rfl
def xV:FG Qz ["cell","salt"] [] (av HK):=fG
abbrev HM:=top 42
abbrev HN:=AT
abbrev QB:Ap:=["script","base","mixed","many","turn","three"]
def uJ:HN->At:=fun s=>[.lst (s.map .int)]
def uK:HN->Prop:=fun s=>s.length<=1000
def uL:HN->T:=fun s=>(.lst (((jg s).map .str).map T.sh):T)
structure ack(X:Cx)(CL:BC):Prop extends cj X where
 aQ:Ln X 0 "script"
 jQ:Ln X 1 "base"
 cG:Ln X 2 "mixed"
 bM:Ln X 3 "many"
 fB:Ln X 4 "turn"
 d9:Ln X 5 "three"
 oG:Gl X "_law_name"
 bf:Gl X "_law_cell_at"
 bF:Gl X "_law_mixed"
 HP:Fc X CL "_law_name" 1 1 tH tK tL
 cC:Fc X CL "_law_cell_at" 1 2 fO fP fQ
 fS:Fc X CL "_law_mixed" 1 2 gY gZ g5
def acm{b:Bx}(E:ack X CL) :
   qT X CL b HM QB uJ uK uL:=by
 intro s h;dsimp only [uK,uJ,uL]at h ⊢;have hb:(Ba s).length<=13:=asV (Txt.slice_le _ _ _) (ako _);refine aK E.g E.jQ (aF (R5 (au (c_ (bE s 0 / 2) E.HP E.oG (ah (au (fk (au (c_ ((s,0)) E.cC E.bf (ah (aO E.aQ) (ah ai aH)) (show(0:Int)<=0 by omega) rfl)) ai ⟨Wp,Wp⟩)) aH) (trivial) rfl)) ((by rw[asD];have:=ako (bE s 0 / 2);omega)) qP (qQ ai)) (t2:=.sh (.str (Ba s))) rfl) ?_;refine aK E.g E.cG (aF (c_ ((bE s 0,37)) E.fS E.bF (ah (au (c_ ((s,0)) E.cC E.bf (ah (aO E.aQ) (ah ai aH)) (show(0:Int)<=0 by omega) rfl)) (ah ai aH)) (trivial) rfl) (t2:=.sh (.int (m37 s))) rfl) ?_;have l0:=asP (m37 s) (b:=8) Wp;have l1:=asQ (m37 s) (b:=8) Wp;refine aK E.g E.bM (aF (dI (cY (cD (lX (G7 (l:=[2,3,1,3,2,3,1,0]) rfl) aG)) (au (bH (aO E.cG) ai Wp)) (v7 (0:Int) (l:=[2,3,1,3,2,3,1,0]) l0 (by show _<(8:Int);exact l1))) rfl) (t2:=.sh (.int (nn7 s:Nat))) ?n1) ?_
 case n1=>
   unfold nn7;obtain⟨k,hk⟩:∃k:Nat,m37 s % 8=k:=⟨(m37 s % 8).toNat,We⟩;rw[hk]at l1 ⊢;have:k<8:=by omega
   rw[asT]
   match k,this with
   | 0,_=>rfl
   | 1,_=>rfl
   | 2,_=>rfl
   | 3,_=>rfl
   | 4,_=>rfl
   | 5,_=>rfl
   | 6,_=>rfl
   | 7,_=>rfl
 have t0:=asP (m37 s / 8) (b:=3) Wp;refine aK E.g E.fB (aF (bH (au (fk (aO E.cG) ai ⟨Wp,Wp⟩)) ai Wp) (t2:=.sh (.int (W6 s:Nat))) (by unfold W6;rw[auW t0])) ?_;refine aK E.g E.d9 (aF (lX (aq (vW (aO E.jQ) fq ((by rw[asD];show _+1<=_;omega))) (aq (vW (aO E.jQ) fq ((by rw[asD];show _+2<=_;omega))) (aq (vW (aO E.jQ) fq ((by rw[asD];show _+1<=_;omega))) aX))) aG) (t2:=.lst (((wj s).map .str).map T.sh)) rfl) ?_;have e1:cutD ((wj s).map D.str) (some (W6 s:Int)) none++cutD ((wj s).map D.str) none (some (W6 s:Int))=((wj s).drop (W6 s)++(wj s).take (W6 s)).map D.str:=by
   rw[xK rfl,zo rfl,asn,List.map_drop,auw]
 refine bA (aF (xr (ds:=((wj s).drop (W6 s)++(wj s).take (W6 s)).map D.str) (e1▸cD (Bl (cD (xr (vL E.d9.1) (dX _) (qQ (aO E.fB)) qP)) (cD (xr (vL E.d9.1) (dX _) qP (qQ (aO E.fB)))) ?i1 ?i2 ?z)) (dX _) qP (qQ (aO E.bM))) (t2:=.lst (((jg s).map .str).map T.sh)) ?fin) rfl
 case i1=>rw[xK rfl,← List.map_drop];exact dX _
 case i2=>rw[zo rfl,← auw];exact dX _
 case z=>
   rw[xK rfl,zo rfl,atU,asK,ar3,asD];show 3-_+min _ 3<=_;omega
 case fin=>
   rw[zo rfl,← auw];rfl
def jh:FG QB ["script"] ["_law_name","_law_cell_at","_law_mixed"] (av HM):=fG
abbrev HQ:=top 36
abbrev HR:=Int
abbrev QC:Ap:=["cell","size"]
def qp:HR->At:=fun a=>[.int a]
def qq:HR->Prop:=fun a=>True
def qt:HR->T:=fun a=>(.sh (.int (jO a)):T)
structure acn(X:Cx)(CL:BC):Prop extends cj X where
 cU:Ln X 0 "cell"
 Ni:Ln X 1 "size"
def aco{b:Bx}(E:acn X CL) :
   qT X CL b HQ QC qp qq qt:=by
 intro a h;dsimp only [qq,qp,qt]at h ⊢;refine g8 (gA (au (bH (aO E.cU) ai Wp)) ai).1 (fun hp=>?_) (fun hp=>aA ?_)
 . refine bA (GR (au (bH (au (fk (aO E.cU) ai ⟨Wp,Wp⟩)) ai Wp)) ai) ?_;show T.sh _=T.sh (.int (jO a));rw[jO,ass (asB hp)]
 . have e:¬ a % 2=0:=asJ hp;refine aK E.g E.Ni (aF (bH (au (oY (au (fk (aO E.cU) ai ⟨Wp,Wp⟩)) ai (.inr ⟨Wp,Wp⟩))) (au (GR (au (Vm ai ai ⟨Wp,Wp,Wp⟩)) ai)) Wp) (t2:=.sh (.int (a / 4*48271 % (10 ^ 30-1)))) rfl) ?_;refine g8 (gA (au (bH (aO E.cU) ai Wp)) ai).1 (fun hp=>?_) (fun hp=>aA ?_)
   . refine bA (v_ E.Ni.1) ?_;show T.sh _=T.sh (.int (jO a));rw[jO,ash e,ass (asB hp)]
   . refine bA (m8 (aO E.Ni)) ?_;show T.sh _=T.sh (.int (jO a));rw[jO,ash e,ash (asJ hp)]
def C3:FG QC ["cell"] [] (av HQ):=fG
abbrev Nj:=top 39
abbrev Nk:=Int×Nat
abbrev XS:Ap:=["cell","many"]
def tM:Nk->At:=fun(c,m)=>[.int c,.int (m:Nat)]
def tN:Nk->Prop:=fun(c,m)=>m<=1000
def tO:Nk->T:=fun(c,m)=>(.sh (.tup [.int (tbG c m),.int (tmG c m)]):T)
structure agY(X:Cx)(CL:BC):Prop extends cj X where
 cU:Ln X 0 "cell"
 bM:Ln X 1 "many"
 HS:Gl X "_law_small"
 HV:Fc X CL "_law_small" 1 1 qp qq qt
def agZ{b:Bx}(E:agY X CL) :
   qT X CL b Nj XS tM tN tO:=by
 rintro⟨c,m⟩ h;dsimp only [tN,tM,tO]at h ⊢;have h:m<=1000:=h;exact bA (aM (aq (GR (au (bH (aO E.cU) (au (bX (aO E.bM) ai)) We)) ai) (aq (c_ (c / ((m:Int)+1)) E.HV E.HS (ah (au (fk (aO E.cU) (au (bX (aO E.bM) ai)) (⟨We,We⟩))) aH) (trivial) rfl) aX)) aG) rfl
def BH:FG XS ["cell","many"] ["_law_small"] (av Nj):=fG
abbrev Nm:=top 41
abbrev Nn:=Int×Nat×Ap
abbrev XT:Ap:=["cell","many","three","way","rest"]
def tP:Nn->At:=fun(c,m,hh)=>[.int c,.int (m:Nat),.lst (hh.map .str)]
def ny:Nn->Prop:=fun(c,m,hh)=>m<=1000/\hh.length<=1000
def tQ:Nn->T:=fun(c,m,hh)=>(.sh (zm c m hh).d:T)
structure ag0(X:Cx)(CL:BC):Prop extends cj X where
 cU:Ln X 0 "cell"
 bM:Ln X 1 "many"
 d9:Ln X 2 "three"
 XU:Ln X 3 "way"
 wu:Ln X 4 "rest"
 oG:Gl X "_law_name"
 dg:Gl X "len"
 lC:Gl X "_law_term"
 HP:Fc X CL "_law_name" 1 1 tH tK tL
 dh:X.mg "len" = none
 C4:Fc X CL "_law_term" 2 2 tM tN tO
def ag1{b:Bx}(E:ag0 X CL) :
   qT X CL b Nm XT tP ny tQ:=by
 rintro⟨c,m,hh⟩ h;dsimp only [ny,tP,tQ]at h ⊢;obtain⟨h,hl⟩:=h;refine aK E.g E.XU (bH (aO E.cU) ai Wp) ?_;refine aK E.g E.wu (fk (aO E.cU) ai ⟨Wp,Wp⟩) ?_;show cQ X CL b _ _ {nx:=_,rt:=fun zk _=>zk=T.sh (zm c m hh).d,bk:=_,ct:=_};refine g8 (gA (aO E.XU) ai).1 (fun hp=>?_) (fun hp=>aA ?_)
 . rw[show zm c m hh=.call ((hh++[jf (c / 5)]).getD (c / 5 % ((hh.length:Int)+1)).toNat Str.empty) by unfold zm;rw[ass (asB hp)]];have l0:=asP (c / 5) (b:=(hh.length:Int)+1) We;have l1:=asQ (c / 5) (b:=(hh.length:Int)+1) We;have e1:hh.map D.str++[.str (jf (c / 5))]=(hh++[jf (c / 5)]).map D.str:=by rw[asn];rfl
   refine bA (aM (ds:=[.str "call",.str ((hh++[jf (c / 5)]).getD (c / 5 % ((hh.length:Int)+1)).toNat Str.empty)]) (aq fY (aq (dI (cY (ds:=(hh++[jf (c / 5)]).map D.str) (e1▸cD (Bl (aO E.d9) (cD (lX (ds:=[.str (jf (c / 5))]) (aq (c_ (c / 5) E.HP E.oG (ah (aO E.wu) aH) (trivial) rfl) aX) aG)) (dX _) rfl (by rw[asD];simp;omega))) (au (bH (aO E.wu) (au (bX (au (d8 (ar3 ..) E.dh (aO E.d9) E.dg)) ai)) We)) (v7 Str.empty l0 (by rw[asa];exact l1))) rfl) aX)) aG) rfl
 have e1:¬ c % 5=1:=asJ hp;refine g8 (J1 (FH (gA (aO E.XU) ai).1 (fun hb=>(Ca (gA (aO E.bM) ai).1)))) (fun hq=>?_) (fun hq=>aA ?_)
 . have e2:c % 5=2\/m=0:=by
     simp at hq;omega
   rw[show zm c m hh=.say (jf (c / 5)) (tbG (c / 5 / 7) m) (tmG (c / 5 / 7) m) by unfold zm;rw[ash e1,ass e2]];exact bA (aM (aq fY (aq (c_ (c / 5) E.HP E.oG (ah (aO E.wu) aH) (trivial) rfl) (aq (c_ ((c / 5 / 7,m)) E.C4 E.lC (ah (au (fk (aO E.wu) ai ⟨Wp,Wp⟩)) (ah (aO E.bM) aH)) (h) rfl) aX))) aG) rfl
 . have e2:¬ (c % 5=2\/m=0):=by
     simp at hq;omega
   rw[show zm c m hh=.put (c / 5 % m) (tbG (c / 5 / m) m) (tmG (c / 5 / m) m) by unfold zm;rw[ash e1,ash e2]];exact bA (aM (aq fY (aq (bH (aO E.wu) (aO E.bM) We) (aq (c_ ((c / 5 / m,m)) E.C4 E.lC (ah (au (fk (aO E.wu) (aO E.bM) (⟨We,We⟩))) (ah (aO E.bM) aH)) (h) rfl) aX))) aG) rfl
def mj:FG XT ["cell","many","three"] ["_law_name","len","_law_term"] (av Nm):=fG
abbrev XW:=top 40
abbrev XY:=Int×Nat
abbrev aeu:Ap:=["cell","many","mark"]
def BI:XY->At:=fun(c,m)=>[.int c,.int (m:Nat)]
def BJ:XY->Prop:=fun(c,m)=>m<=1000
def BK:XY->T:=fun(c,m)=>(.sh (akG c m):T)
structure aky(X:Cx)(CL:BC):Prop extends cj X where
 cU:Ln X 0 "cell"
 bM:Ln X 1 "many"
 pA:Ln X 2 "mark"
 bF:Gl X "_law_mixed"
 lC:Gl X "_law_term"
 fS:Fc X CL "_law_mixed" 1 2 gY gZ g5
 C4:Fc X CL "_law_term" 2 2 tM tN tO
def akz{b:Bx}(E:aky X CL) :
   qT X CL b XW aeu BI BJ BK:=by
 rintro⟨c,m⟩ h;dsimp only [BJ,BI,BK]at h ⊢;have h:m<=1000:=h;have l0:=asP (wg c 31) (b:=4) Wp;have l1:=asQ (wg c 31) (b:=4) Wp;refine aK E.g E.pA (dI (cY (cD (lX (xu (l:=abJ) rfl) aG)) (au (bH (au (c_ ((c,31)) E.fS E.bF (ah (aO E.cU) (ah ai aH)) (trivial) rfl)) ai Wp)) (v7 Str.empty (l:=abJ) l0 (by show _<(4:Int);exact l1))) rfl) ?_;exact bA (aM (aq (v_ E.pA.1) (aq (c_ ((c / 3,m)) E.C4 E.lC (ah (au (fk (aO E.cU) ai ⟨Wp,Wp⟩)) (ah (aO E.bM) aH)) (h) rfl) (aq (c_ ((c / 7+2,m)) E.C4 E.lC (ah (au (bX (au (fk (aO E.cU) ai ⟨Wp,Wp⟩)) ai)) (ah (aO E.bM) aH)) (h) rfl) aX))) aG) rfl
def zI:FG aeu ["cell","many"] ["_law_mixed","_law_term"] (av XW):=fG
abbrev HW:=top 43
abbrev Np:=AT×Nat×Nat×Nat×Ap×Bool
abbrev XZ:Ap:=["script","base","turn","many","three","closed","cell","mixed","rows","k","asks","deeds"]
def xW:Np->At:=fun(s,p,t,m,hh,cl)=>[.lst (s.map .int),.int (p:Nat),.int (t:Nat),.int (m:Nat),.lst (hh.map .str),.bl cl]
def qu:Np->Prop:=fun(s,p,t,m,hh,cl)=>s.length<=1000/\p<=100/\t<=100/\m<=1000/\hh.length<=1000
def xX:Np->T:=fun(s,p,t,m,hh,cl)=>(.lst (((P1 s p t m hh cl).map zq).map T.sh):T)
structure ag2(X:Cx)(CL:BC):Prop extends cj X where
 aQ:Ln X 0 "script"
 jQ:Ln X 1 "base"
 ag3:X.env.kindOf "base" = some .cell
 fB:Ln X 2 "turn"
 bM:Ln X 3 "many"
 HX:X.env.kindOf "many" = some .cell
 d9:Ln X 4 "three"
 acp:X.env.kindOf "three" = some .cell
 tR:Ln X 5 "closed"
 cU:Ln X 6 "cell"
 X3:X.env.kindOf "cell" = some .cell
 cG:Ln X 7 "mixed"
 aN:Ln X 8 "rows"
 l_k:Ln X 9 "k"
 k_k:X.env.kindOf "k" = some .cell
 tS:Ln X 10 "asks"
 iw:Ln X 11 "deeds"
 bf:Gl X "_law_cell_at"
 KP:Gl X "max"
 dg:Gl X "len"
 bF:Gl X "_law_mixed"
 c6:Gl X "range"
 iy:Gl X "tuple"
 tT:Gl X "_law_deed"
 cC:Fc X CL "_law_cell_at" 1 2 fO fP fQ
 KQ:X.mg "max" = none
 dh:X.mg "len" = none
 fS:Fc X CL "_law_mixed" 1 2 gY gZ g5
 c7:X.mg "range" = none
 ez:X.mg "tuple" = none
 HY:Fc X CL "_law_deed" 3 3 tP ny tQ
 akA:Fc X CL "_law_ask" 3 2 BI BJ BK
def ag4{b:Bx}(E:ag2 X CL) :
   qT X CL b HW XZ xW qu xX:=by
 rintro⟨s,p,t,m,hh,cl⟩ h;dsimp only [qu,xW,xX]at h ⊢;obtain⟨ZS,hp0,ht0,hm,hl⟩:=h;have hg:=agF s;have i0:=asP ((p:Int)*3+(t:Int)) (b:=SM s) We;refine aK E.g E.cU (aF (c_ (s,((p:Int)*3+(t:Int)) % SM s) E.cC E.bf (ah (aO E.aQ) (ah (au (bH (au (bX (au (oY (aO E.jQ) ai (.inr ⟨Wp,Wp⟩))) (aO E.fB))) (au (Px E.g E.KQ E.KP (ah ai (ah (au (d8 (ar3 ..) E.dh (aO E.aQ) E.dg)) aH)))) (show 0<SM s by omega))) aH)) i0 rfl) (t2:=.sh (.int (ZV s p t))) rfl) ?_;refine aK E.g E.cG (aF (c_ ((ZV s p t,41+(p:Int)*7+(t:Int))) E.fS E.bF (ah (aO E.cU) (ah (au (bX (au (bX ai (au (oY (aO E.jQ) ai (.inr ⟨Wp,Wp⟩))))) (aO E.fB))) aH)) (trivial) rfl) (t2:=.sh (.int (KC s p t))) rfl) ?_;show cQ X CL b _ _ {nx:=_,rt:=fun zk _=>zk=T.lst (((P1 s p t m hh cl).map zq).map T.sh),bk:=_,ct:=_};unfold P1;have e1:∀n,fr1 s p t m hh n=(List.range n).map fun(k:Nat)=>(asG (ZV s p t) (KC s p t) m k,dsG (ZV s p t) (KC s p t) p m hh k):=fun n=>rfl;have e2:fr2 s p t m hh cl=if (cl || decide (KC s p t / 24 % 2=0))=true then [([],[It.dQ (zm (ZV s p t+(p:Int)) m hh)].take (KC s p t / 48 % 2).toNat)] else []:=rfl
 generalize ZV s p t=c at e1 e2 ⊢;generalize KC s p t=x at e1 e2 ⊢;have k0:=asP x (b:=4) Wp;have k1:=asQ x (b:=4) Wp;have a0:=asP (x / 4) (b:=2) Wp;have a1:=asQ (x / 4) (b:=2) Wp;have d0:=asP (x / 8) (b:=3) Wp;have d1:=asQ (x / 8) (b:=3) Wp;have q0:=asP (x / 48) (b:=2) Wp;refine aK E.g E.aN (i9 bK (asU _)) ?_;refine lT E.g E.l_k (fun j δ=>∃(o9 Ga X4:DO),δ=[some (.sh (.lst (s.map .int))),some (.sh (.int (p:Nat))),some (.sh (.int (t:Nat))),some (.sh (.int (m:Nat))),some (.sh (.lst (hh.map .str))),some (.sh (.bl cl)),some (.sh (.int c)),some (.sh (.int x)),some (.lst (((fr1 s p t m hh j).map zq).map T.sh)),o9,Ga,X4]) (e9 E.c7 (au (bH (aO E.cG) ai Wp)) We E.c6) ⟨_,_,_,by rw[e1];rfl⟩ (fun j δ ⟨_,_,_,e⟩=>by subst e;exact ar8 rfl) ?turn ?fin
 case turn=>
   rintro j d δ hj ⟨o9,Ga,X4,rfl⟩;obtain⟨rfl,Se⟩:=qf hj;rw[atg];have hjn:j<4:=by omega
   refine sS (p:=fun _=>true) (gg:=fun d=>T.sh (akG (c / (d.vZ+2)+5*(j:Int)) m)) E.g E.tS (cg (.cons E.cU.1 (.inl E.X3) (.cons E.l_k.1 (.inl E.k_k) (.cons E.bM.1 (.inl E.HX) .nil))) Wl) (e9 E.c7 (au (bX ai (au (bH (au (fk (aO E.cG) ai ⟨Wp,Wp⟩)) ai Wp)))) We E.c6) (.inr rfl) (fun C s0 H0 f0 b' d hd=>?ag5) (aty (jC (by simp[cS];omega))) ?X5 (by exact ar8 rfl) (lA ⟨_,rfl⟩)
   case ag5=>
     obtain⟨a,ha,rfl⟩:=jP hd;exact⟨rfl,fun _=>(c_ ((c / ((a:Int)+2)+5*(j:Int),m)) (jq E.akA) sA (ah (au (bX (au (fk (i7 1) (au (bX (je 0) ai)) (⟨We,We⟩))) (au (oY ai (i7 2) (.inl ⟨Wp,Wp⟩))))) (ah (i7 3) aH)) (hm) rfl)⟩
   case X5=>
   rw[kI (f:=fun(a:Nat)=>akG (c / ((a:Int)+2)+5*(j:Int)) m) (1+x / 4 % 2) (fun a=>by rw[atg];rfl)];refine sS (p:=fun _=>true) (gg:=fun d=>T.sh (It.dQ (zm (c / (d.vZ+1)+3*(j:Int)+(p:Int)) m hh)).d) E.g E.iw (cg (.cons E.jQ.1 (.inl E.ag3) (.cons E.cU.1 (.inl E.X3) (.cons E.l_k.1 (.inl E.k_k) (.cons E.bM.1 (.inl E.HX) (.cons E.d9.1 (.inl E.acp) .nil))))) Wl) (e9 E.c7 (au (bH (au (fk (aO E.cG) ai ⟨Wp,Wp⟩)) ai Wp)) We E.c6) (.inr rfl) (fun C s0 H0 f0 b' d hd=>?X6) (aty (jC (by simp[cS];omega))) ?X7 (by exact ar8 rfl) (lA ⟨_,rfl⟩)
   case X6=>
     obtain⟨a,ha,rfl⟩:=jP hd;exact⟨rfl,fun _=>aF (c_ ((c / ((a:Int)+1)+3*(j:Int)+(p:Int),m,hh)) (jq E.HY) sA (ah (au (bX (au (bX (au (fk (i7 2) (au (bX (je 0) ai)) (⟨We,We⟩))) (au (oY ai (i7 3) (.inl ⟨Wp,Wp⟩))))) (i7 1))) (ah (i7 4) (ah (i7 5) aH))) (by dsimp only [ny];exact(⟨hm,hl⟩)) (xF _)) rfl⟩
   case X7=>
   rw[kI (f:=fun(a:Nat)=>(It.dQ (zm (c / ((a:Int)+1)+3*(j:Int)+(p:Int)) m hh)).d) (x / 8 % 3) (fun a=>by rw[atg];rfl)];have hA:((List.range (1+x / 4 % 2).toNat).map fun(a:Nat)=>akG (c / ((a:Int)+2)+5*(j:Int)) m)=asG c x m j:=rfl;have hD:((List.range (x / 8 % 3).toNat).map fun(a:Nat)=>(It.dQ (zm (c / ((a:Int)+1)+3*(j:Int)+(p:Int)) m hh)).d)=(dsG c x p m hh j).map It.d:=by unfold dsG;rw[asC];rfl
   rw[hA,hD];have hlen:(((fr1 s p t m hh j).map zq).map T.sh).length<=1000000:=by rw[ar3,ar3,e1,ar3,asz];omega
   refine vA E.aN.1 rfl (aM (ds:=[.tup (asG c x m j),.tup ((dsG c x p m hh j).map It.d)]) (aq (gB E.ez (vL E.tS.1) (P5 c x m j) E.iy) (aq (gB E.ez (vL E.iw.1) (cZ _) E.iy) aX)) aG) rfl hlen (aA ?_);rw[e1 (j+1),abL,← e1 j];exact⟨_,_,_,rfl⟩
 case fin=>
   rintro δ ⟨o9,Ga,X4,rfl⟩;rw[show(cS 0 (x % 4).toNat).length=(x % 4).toNat by simp[cS]];obtain⟨R,hR⟩:∃R,R=fr1 s p t m hh (x % 4).toNat:=⟨_,rfl⟩;have hRl:R.length<=4:=by rw[hR,e1,ar3,asz];omega
   rw[← hR];refine g8 (J1 (FH (B9 (v_ E.tR.1)) (fun _=>Ca ((gA (au (bH (au (fk (aO E.cG) ai ⟨Wp,Wp⟩)) ai Wp)) ai).1)))) (fun hp=>?_) (fun hp=>aA ?_)
   . rw[ass hp]at e2;refine aK E.g E.iw (aF (lX (ds:=[(It.dQ (zm (c+(p:Int)) m hh)).d]) (aq (aF (c_ ((c+(p:Int),m,hh)) E.HY E.tT (ah (au (bX (aO E.cU) (aO E.jQ))) (ah (aO E.bM) (ah (aO E.d9) aH))) (by dsimp only [ny];exact(⟨hm,hl⟩)) (xF _)) (t2:=.sh (It.dQ (zm (c+(p:Int)) m hh)).d) rfl) aX) aG) (t2:=.lst (([It.dQ (zm (c+(p:Int)) m hh)].map It.d).map T.sh)) rfl) ?_;have e3:cutD ([It.dQ (zm (c+(p:Int)) m hh)].map It.d) none (some (x / 48 % 2))=([It.dQ (zm (c+(p:Int)) m hh)].take (x / 48 % 2).toNat).map It.d:=by rw[zo (auW q0).symm,auw]
     refine vA E.aN.1 rfl (aM (ds:=[.tup [],.tup (([It.dQ (zm (c+(p:Int)) m hh)].take (x / 48 % 2).toNat).map It.d)]) (aq (aM (ds:=[]) aX aG) (aq (gB E.ez (adX (cD (xr (vL E.iw.1) (cZ _) qP (qQ (au (bH (au (fk (aO E.cG) ai ⟨Wp,Wp⟩)) ai Wp))))) (congrArg D.lst e3)) (cZ _) E.iy) aX)) aG) rfl (by rw[ar3,ar3];omega) (aA ?_);refine bA (vM E.aN.1) ?_;show T.lst _=T.lst _;rw[e2,asn,asn];rfl
   . rw[ash (by rw[hp];exact asr)]at e2;refine bA (vM E.aN.1) ?_;show T.lst _=T.lst _;rw[e2,asx]
def cK:RT (av HW) ([("script",cT),("base",.cell),("turn",cT),("many",.cell),("three",.cell),("closed",cT),("cell",.cell),("mixed",cT),("rows",cT),("k",.cell),("asks",cT),("deeds",cT),("_law_cell_at",bW),("max",bW),("len",bW),("_law_mixed",bW),("range",bW),("tuple",bW),("_law_deed",bW)])=true:=by decide +kernel
def acq:d7 XZ ["script","base","turn","many","three","closed"] (av HW):=lZ
abbrev HZ:=top 44
abbrev Ic:=AT×Nat×Nat×Ap×Bool
abbrev QD:Ap:=["script","bases","many","three","closed","alike","faces","base","turn","rows","never"]
def uM:Ic->At:=fun(s,n,m,hh,cl)=>[.lst (s.map .int),.int (n:Nat),.int (m:Nat),.lst (hh.map .str),.bl cl]
def uN:Ic->Prop:=fun(s,n,m,hh,cl)=>s.length<=1000/\n<=100/\m<=1000/\hh.length<=1000
def uO:Ic->T:=fun(s,n,m,hh,cl)=>(.lst ((Lk s m hh cl (3*n)).map AH):T)
structure acr(X:Cx)(CL:BC):Prop extends cj X where
 aQ:Ln X 0 "script"
 mq:Ln X 1 "bases"
 bM:Ln X 2 "many"
 d9:Ln X 3 "three"
 tR:Ln X 4 "closed"
 uP:Ln X 5 "alike"
 oH:Ln X 6 "faces"
 jQ:Ln X 7 "base"
 fB:Ln X 8 "turn"
 aN:Ln X 9 "rows"
 Ie:Ln X 10 "never"
 bF:Gl X "_law_mixed"
 bf:Gl X "_law_cell_at"
 c6:Gl X "range"
 AK:Gl X "_law_face"
 dg:Gl X "len"
 fS:Fc X CL "_law_mixed" 1 2 gY gZ g5
 cC:Fc X CL "_law_cell_at" 1 2 fO fP fQ
 c7:X.mg "range" = none
 X8:Fc X CL "_law_face" 4 6 xW qu xX
 dh:X.mg "len" = none
def acs{b:Bx}(E:acr X CL) :
   qT X CL b HZ QD uM uN uO:=by
 rintro⟨s,n,m,hh,cl⟩ h;dsimp only [uN,uM,uO]at h ⊢;obtain⟨ZS,hn,hm,hl⟩:=h;have iT:∀(x:D) (l:Cc),x.kB=true->(D.tup (l.map It.d)).kB=true:=fun _ l _=>cZ l;refine aK E.g E.uP (aF (gA (au (bH (au (c_ ((bE s 0,47)) E.fS E.bF (ah (au (c_ ((s,0)) E.cC E.bf (ah (aO E.aQ) (ah ai aH)) (show(0:Int)<=0 by omega) rfl)) (ah ai aH)) (trivial) rfl)) ai Wp)) ai).2 (t2:=.sh (.bl (Hw s))) rfl) ?_;refine aK E.g E.oH (aF (i9 bK (asU _)) (t2:=.lst ((Lk s m hh cl 0).map AH)) rfl) ?_;refine lT E.g E.jQ (fun p δ=>∃(o7 o8 o9 Ga:DO),δ=[some (.sh (.lst (s.map .int))),some (.sh (.int (n:Nat))),some (.sh (.int (m:Nat))),some (.sh (.lst (hh.map .str))),some (.sh (.bl cl)),some (.sh (.bl (Hw s))),some (.lst ((Lk s m hh cl (3*p)).map AH)),o7,o8,o9,Ga]) (e9 E.c7 (aO E.mq) We E.c6) ⟨_,_,_,_,rfl⟩ (fun j δ ⟨_,_,_,_,e⟩=>by subst e;exact ar8 rfl) ?turn ?fin
 case fin=>
   rintro δ ⟨o7,o8,o9,Ga,rfl⟩;rw[show(cS 0 (n:Int).toNat).length=n by simp[cS]];exact bA (vM E.oH.1) rfl
 case turn=>
 rintro p d δ hj ⟨o7,o8,o9,Ga,rfl⟩;obtain⟨rfl,Se⟩:=qf hj;rw[atg];have hpn:p<n:=by omega
 refine lT E.g E.fB (fun t δ=>∃(o8 o9 Ga:DO),δ=[some (.sh (.lst (s.map .int))),some (.sh (.int (n:Nat))),some (.sh (.int (m:Nat))),some (.sh (.lst (hh.map .str))),some (.sh (.bl cl)),some (.sh (.bl (Hw s))),some (.lst ((Lk s m hh cl (3*p+t)).map AH)),some (.sh (.int (p:Nat))),o8,o9,Ga]) (e9 E.c7 ai We E.c6) ⟨_,_,_,rfl⟩ (fun j δ ⟨_,_,_,e⟩=>by subst e;exact ar8 rfl) ?C5 ?fin2
 case fin2=>
   rintro δ ⟨o8,o9,Ga,rfl⟩;exact aA ⟨_,_,_,_,rfl⟩
 case C5=>
 rintro t d δ hj ⟨o8,o9,Ga,rfl⟩;obtain⟨rfl,arf⟩:=qf hj;rw[atg];have ht3:t<3:=by
   have:(3:Int).toNat=3:=rfl;omega
 refine aK E.g E.aN (aF (c_ ((s,p,t,m,hh,cl)) E.X8 E.AK (ah (aO E.aQ) (ah (aO E.jQ) (ah (aO E.fB) (ah (aO E.bM) (ah (aO E.d9) (ah (aO E.tR) aH)))))) (by dsimp only [qu];exact(⟨ZS,We,We,hm,hl⟩)) (zx Bt)) (t2:=AH (P1 s p t m hh cl)) rfl) ?_;refine Cd (fun δ=>δ=[some (.sh (.lst (s.map .int))),some (.sh (.int (n:Nat))),some (.sh (.int (m:Nat))),some (.sh (.lst (hh.map .str))),some (.sh (.bl cl)),some (.sh (.bl (Hw s))),some (.lst ((Lk s m hh cl (3*p+t)).map AH)),some (.sh (.int (p:Nat))),some (.sh (.int (t:Nat))),some (AH (oi s p t m hh cl)),Ga]) (B9 (v_ E.uP.1)) (fun hp=>?_) (fun hp=>?_) ?_
 . refine aK E.g E.aN (aF (c_ ((s,0,t,m,hh,true)) E.X8 E.AK (ah (aO E.aQ) (ah ai (ah (aO E.fB) (ah (aO E.bM) (ah (aO E.d9) (ah (au FD) aH)))))) (by dsimp only [qu];exact(⟨ZS,We,We,hm,hl⟩)) (zx Bt)) (t2:=AH (oi s p t m hh cl)) (by unfold oi;rw[if_pos hp];rfl)) (aA rfl)
 . exact aA (by unfold oi;rw[ash (by rw[hp];exact asr)];rfl)
 rintro δ rfl;have i1:=Bv (s:=s) (p:=p) (t:=t) (m:=m) (hh:=hh) (cl:=cl);have n1:=Hx s p t m hh cl;have q1:=MR (s:=s) (p:=p) (t:=t) (m:=m) (hh:=hh) (cl:=cl);have p1:Hw s=true->0<(oi s p t m hh cl).length:=fun ha=>by unfold oi;rw[ass ha];exact xM ..
 refine Cd (fun δ=>δ=[some (.sh (.lst (s.map .int))),some (.sh (.int (n:Nat))),some (.sh (.int (m:Nat))),some (.sh (.lst (hh.map .str))),some (.sh (.bl cl)),some (.sh (.bl (Hw s))),some (.lst ((Lk s m hh cl (3*p+t)).map AH)),some (.sh (.int (p:Nat))),some (.sh (.int (t:Nat))),some (AH (wX s p t m hh cl)),Ga]) (J1 (Mh (B9 (v_ E.uP.1)) (fun _=>GV (gA (aO E.jQ) ai).1))) (fun hp=>?_) (fun hp=>?_) ?_
 . have Jy:(Hw s&&decide (p=0))=true:=by
     rw[asI]at hp ⊢;exact⟨hp.1,atz (by have:=asB hp.2;omega)⟩
   rw[show wX s p t m hh cl=SQ t (oi s p t m hh cl) by unfold wX;rw[ass Jy]];have Ku:=p1 (asI _ _▸Jy).1;generalize oi s p t m hh cl=R at i1 n1 q1 Ku ⊢;have yO:ux (R.map zq) (-1)=some (zq (R.getD (R.length-1) qZ)):=by
     rw[agI (by rw[ar3];exact Ku),asi,ar3,asj,ar6 We];rfl
   have ZM:D.aT (R.getD (R.length-1) qZ).1=true:=by
     rw[asj,ar6 We];exact i1 _ (atW _)
   have e1:(SQ t R).map zq=(R.map zq).set (R.length-1) (.tup [.tup (R.getD (R.length-1) qZ).1,.tup ((R.getD (R.length-1) qZ).2.map It.d++[(SN t).d])]):=by
     unfold SQ;rw[au6];show _=(R.map zq).set (R.length-1) _;congr 1;show D.tup [_,.tup (((R.getD (R.length-1) qZ).2++[SN t]).map It.d)]=_;rw[asn];rfl
   have hsm:=q1 _ (sC (l:=R) (k:=R.length-1) (z:=qZ) We);generalize hq:R.getD (R.length-1) qZ=q at yO ZM e1 hsm;refine Pq E.aN.1 (aM (ds:=[.tup q.1,.tup (q.2.map It.d++[(SN t).d])]) (aq (dI (bV (cY (vL E.aN.1) (au (m8 ai)) yO) ai Hs) ZM) (aq (qi (ds:=q.2.map It.d) (sP:=[(SN t).d]) (dI (bV (cY (vL E.aN.1) (au (m8 ai)) yO) ai CB) (cZ _)) (aF (aM (aq (aM (aq fY (aq fY (aq (aM (aq (m8 ai) (aq (v_ E.fB.1) aX)) aG) aX))) aG) aX) aG) rfl) ?z) aX)) aG) (au (m8 ai)) rfl (j:=R.length-1) ?ix (aA ?eq)
   case z=>rw[asD,ar3];have:=hsm.2;show _+1<=_;omega
   case ix=>rw[ar3,ar3];exact P8 Ku
   case eq=>
     show _=[_,_,_,_,_,_,_,_,_,some (T.lst (((SQ t R).map zq).map T.sh)),_];rw[e1,au6];rfl
 . have Jy:¬ (Hw s&&decide (p=0))=true:=by
     intro h;rw[asI]at h;have:(Hw s&&decide ((p:Int)=0))=true:=by rw[asI];exact⟨h.1,atz (by have:=asB h.2;omega)⟩
     rw[this]at hp;cases hp
   rw[show wX s p t m hh cl=oi s p t m hh cl by unfold wX;rw[ash Jy]];exact aA rfl
 rintro δ rfl;have i3:=xN (s:=s) (p:=p) (t:=t) (m:=m) (hh:=hh) (cl:=cl);have n3:=P6 s p t m hh cl;have q3:=MS (s:=s) (p:=p) (t:=t) (m:=m) (hh:=hh) (cl:=cl);refine Cd (fun δ=>∃Ga,δ=[some (.sh (.lst (s.map .int))),some (.sh (.int (n:Nat))),some (.sh (.int (m:Nat))),some (.sh (.lst (hh.map .str))),some (.sh (.bl cl)),some (.sh (.bl (Hw s))),some (.lst ((Lk s m hh cl (3*p+t)).map AH)),some (.sh (.int (p:Nat))),some (.sh (.int (t:Nat))),some (AH (Bu s p t m hh cl)),Ga]) (J1 (Mh (B9 (v_ E.uP.1)) (fun _=>GV (gA (aO E.jQ) ai).1))) (fun hp=>?_) (fun hp=>?_) ?_
 . have Jy:(Hw s&&decide (p=1))=true:=by
     rw[asI]at hp ⊢;exact⟨hp.1,atz (by have:=asB hp.2;omega)⟩
   rw[show Bu s p t m hh cl=zu t (wX s p t m hh cl) by unfold Bu;rw[ass Jy]];generalize wX s p t m hh cl=R at i3 n3 q3 ⊢;refine aK E.g E.Ie (aF (aM (aq fY (aq (aM (aq (m8 ai) (aq (v_ E.fB.1) aX)) aG) (aq (aM (aq (m8 ai) (aq (v_ E.fB.1) aX)) aG) aX))) aG) (t2:=.sh (vt t)) rfl) ?_;refine g8 (adT (au (d8 (ar3 ..) E.dh (vE E.aN.1 rfl (W9 R)) E.dg)) ai).1 (fun hq=>?_) (fun hq=>?_)
   . have hq:1<R.length:=by have:=asB hq;omega
     have yO:ux (R.map zq) 0=some (zq (R.getD 0 qZ)):=v7 qZ We We;have ZM:D.aT (R.getD 0 qZ).1=true:=by
       rw[asj,ar6 We];exact i3 _ (atW _)
     have e1:(zu t R).map zq=(R.map zq).set 0 (.tup [.tup ([vt t]++(R.getD 0 qZ).1),.tup ((R.getD 0 qZ).2.map It.d)]):=by
       unfold zu;rw[ass hq,au6];rfl
     have hsm:=q3 _ (sC (l:=R) (k:=0) (z:=qZ) We);generalize hq:R.getD 0 qZ=q at yO ZM e1 hsm;refine Pq E.aN.1 (aM (ds:=[.tup ([vt t]++q.1),.tup (q.2.map It.d)]) (aq (qi (ds:=[vt t]) (sP:=q.1) (aF (aM (ds:=[vt t]) (aq (v_ E.Ie.1) aX) aG) rfl) (dI (bV (cY (vE E.aN.1 rfl (W9 R)) ai yO) ai Hs) ZM) ?z) (aq (dI (bV (cY (vE E.aN.1 rfl (W9 R)) ai yO) ai CB) (cZ _)) aX)) aG) ai rfl (j:=0) ?ix (aA (aA ⟨some (.sh (vt t)),?eq⟩))
     case z=>rw[asD];have:=hsm.1;show 1+_<=_;omega
     case ix=>rw[ar3,ar3];exact Mm We We
     case eq=>
       show _=[_,_,_,_,_,_,_,_,_,some (T.lst (((zu t R).map zq).map T.sh)),_];rw[e1,au6];rfl
   . have hq:¬ 1<R.length:=by have:=asJ hq;omega
     have e1:(zu t R).map zq=[.tup [.tup [vt t],.tup []]]++R.map zq:=by unfold zu;rw[ash hq];rfl
     refine aK E.g E.aN (aF (Bl (ds:=[.tup [.tup [vt t],.tup []]]) (sP:=R.map zq) (cD (lX (ds:=[.tup [.tup [vt t],.tup []]]) (aq (aM (ds:=[.tup [vt t],.tup []]) (aq (aM (ds:=[vt t]) (aq (v_ E.Ie.1) aX) aG) (aq (aM (ds:=[]) aX aG) aX)) aG) aX) aG)) (vE E.aN.1 rfl (W9 R)) rfl (CF fun q hq=>W7 q (i3 q hq)) (by rw[asD,ar3];show 1+_<=_;omega)) (t2:=AH (zu t R)) (by unfold AH;rw[e1])) (aA (aA ⟨_,rfl⟩))
 . have Jy:¬ (Hw s&&decide (p=1))=true:=by
     intro h;rw[asI]at h;have:(Hw s&&decide ((p:Int)=1))=true:=by rw[asI];exact⟨h.1,atz (by have:=asB h.2;omega)⟩
     rw[this]at hp;cases hp
   rw[show Bu s p t m hh cl=wX s p t m hh cl by unfold Bu;rw[ash Jy]];exact aA ⟨_,rfl⟩
 rintro δ ⟨Ga,rfl⟩;have hlen:((Lk s m hh cl (3*p+t)).map AH).length<=1000000:=by unfold Lk;rw[ar3,ar3,asz];omega
 refine vA E.oH.1 rfl (vM E.aN.1) rfl hlen (aA ?_);rw[show 3*p+(t+1)=3*p+t+1 by omega,W8 s m hh cl p t ht3];exact⟨_,_,_,rfl⟩
def dM:FG QD ["script","bases","many","three","closed"] ["_law_mixed","_law_cell_at","range","_law_face","len"] (av HZ):=fG
abbrev Ig:=top 45
abbrev Nq:=AT×Bi×Nat×Nat×Nat
abbrev X9:Ap:=["script","kinds","flat","turn","row","bases","mixed","wanted","found"]
def xY:Nq->At:=fun(s,ks,f,t,r)=>[.lst (s.map .int),.lst ((fu ks).map .int),.int (f:Nat),.int (t:Nat),.int (r:Nat)]
def xZ:Nq->Prop:=fun(s,ks,f,t,r)=>s.length<=1000/\f<ks.length/\ks.length<=1000/\t<=100/\r<=100
def x6:Nq->T:=fun(s,ks,f,t,r)=>(.sh (.int (SV s ks f t r:Nat)):T)
structure ag6(X:Cx)(CL:BC):Prop extends cj X where
 aQ:Ln X 0 "script"
 kW:Ln X 1 "kinds"
 acu:X.env.kindOf "kinds" = some .cell
 jA:Ln X 2 "flat"
 fB:Ln X 3 "turn"
 iL:Ln X 4 "row"
 mq:Ln X 5 "bases"
 cG:Ln X 6 "mixed"
 C6:Ln X 7 "wanted"
 Yb:X.env.kindOf "wanted" = some .cell
 bZ:Ln X 8 "found"
 KP:Gl X "max"
 bF:Gl X "_law_mixed"
 bf:Gl X "_law_cell_at"
 c6:Gl X "range"
 dg:Gl X "len"
 dR:Gl X "list"
 KQ:X.mg "max" = none
 fS:Fc X CL "_law_mixed" 1 2 gY gZ g5
 cC:Fc X CL "_law_cell_at" 1 2 fO fP fQ
 c7:X.mg "range" = none
 dh:X.mg "len" = none
 dS:X.mg "list" = none
def ag7{b:Bx}(E:ag6 X CL) :
   qT X CL b Ig X9 xY xZ x6:=by
 rintro⟨s,ks,f,t,r⟩ h;dsimp only [xZ,xY,x6]at h ⊢;obtain⟨ZS,hf,hk,ht,hr⟩:=h;have hne:ks≠[]:=fun z=>by subst z;cases hf
 obtain⟨m1,m2⟩:=an2 hne;have yO:=tE hf;have lk:((fu ks).map D.int).length=ks.length:=by unfold fu;rw[ar3,ar3]
 refine aK E.g E.mq (bX (au (abm E.g E.KQ (aO E.kW) m1 m2 E.KP)) ai) ?_;have j0:(0:Int)<=((ks.getD f 0:Nat):Int)+(t:Int)+(r:Int):=by omega
 have nb:0<((vv ks:Nat):Int)+1:=by omega
 refine aK E.g E.cG (c_ ((bE s (((ks.getD f 0:Nat):Int)+(t:Int)+(r:Int)),53)) E.fS E.bF (ah (au (c_ ((s,((ks.getD f 0:Nat):Int)+(t:Int)+(r:Int))) E.cC E.bf (ah (aO E.aQ) (ah (au (bX (au (bX (cY (aO E.kW) (aO E.jA) (yO)) (aO E.fB))) (aO E.iL))) aH)) (j0) rfl)) (ah ai aH)) (trivial) rfl) ?_;refine aK E.g E.C6 (bH (aO E.cG) (aO E.mq) (nb)) ?_;refine Cd (fun δ=>δ=[some (.sh (.lst (s.map .int))),some (.sh (.lst ((fu ks).map .int))),some (.sh (.int (f:Nat))),some (.sh (.int (t:Nat))),some (.sh (.int (r:Nat))),some (.sh (.int (((vv ks:Nat):Int)+1))),some (.sh (.int (wg (bE s (((ks.getD f 0:Nat):Int)+(t:Int)+(r:Int))) 53))),some (.sh (.int (nw7 s ks f t r))),none]) (gA (au (bH (au (c_ ((bE s 0,47)) E.fS E.bF (ah (au (c_ ((s,0)) E.cC E.bf (ah (aO E.aQ) (ah ai aH)) (show(0:Int)<=0 by omega) rfl)) (ah ai aH)) (trivial) rfl)) ai Wp)) ai).1 (fun hp=>?_) (fun hp=>?_) ?_
 . have t0:=asP ((t:Int)+(r:Int)) (b:=3) Wp;have t1:=asQ ((t:Int)+(r:Int)) (b:=3) Wp;refine aK E.g E.C6 (aF (bH (au (bX (au (sL (v_ E.kW.1) (aO E.jA) yO)) (cY (cD (lX (G7 (l:=[1,0,2]) rfl) aG)) (au (bH (au (bX (aO E.fB) (aO E.iL))) ai Wp)) (v7 (0:Int) (l:=[1,0,2]) t0 (by show _<(3:Int);exact t1))))) (aO E.mq) nb) (t2:=.sh (.int (nw7 s ks f t r))) ?_) (aA rfl);unfold nw7;rw[ass (show Hw s=true from hp)]
 . refine aA ?_;unfold nw7;rw[ash (by rw[show Hw s=false from hp];exact asr)];rfl
 rintro δ rfl;unfold SV;generalize nw7 s ks f t r=w;have ef:(((cS 0 (ks.length:Int).toNat).filter fun d=>decide (((ks.getD d.vZ.toNat 0:Nat):Int)=w)).map fun d=>T.sh (.int d.vZ))=((fu (ZW ks w)).map D.int).map T.sh:=by
   unfold ZW fu cS;rw[asT,auD,asC,asC,asC];have e1:((fun d:D=>decide (((ks.getD d.vZ.toNat 0:Nat):Int)=w))∘fun(k:Nat)=>D.int (0+(k:Int)))=fun(k:Nat)=>decide (((ks.getD k 0:Nat):Int)=w):=by
     funext k;show decide (((ks.getD (0+(k:Int)).toNat 0:Nat):Int)=w)=_;rw[atg,asT]
   rw[e1];exact atk fun k _=>by show T.sh (.int (0+(k:Int)))=_;rw[atg];rfl
 refine sS (p:=fun d=>decide (((ks.getD d.vZ.toNat 0:Nat):Int)=w)) (gg:=fun d=>T.sh (.int d.vZ)) E.g E.bZ (cg (.cons E.kW.1 (.inl E.acu) (.cons E.C6.1 (.inl E.Yb) .nil)) Wl) (e9 E.c7 (au (d8 lk E.dh (aO E.kW) E.dg)) We E.c6) (.inr rfl) (fun C s0 H0 f0 b' d hd=>?JF) (by simp[cS,asD];omega) ?rest (by exact ar8 rfl) (lA ⟨_,rfl⟩)
 case JF=>
   obtain⟨a,ha,rfl⟩:=jP hd;have ha:a<ks.length:=by omega
   exact⟨(gA (cY (i7 1) (je 0) (tE ha)) (i7 2)).1,fun _=>aF (v_ (MK 0)) rfl⟩
 case rest=>
 rw[ef];have lf:(fu (ZW ks w)).length<=1000:=by unfold fu ZW;rw[ar3];refine asV (aup _ _) ?_;rw[asz];exact hk
 refine Cd (fun δ=>δ=[some (.sh (.lst (s.map .int))),some (.sh (.lst ((fu ks).map .int))),some (.sh (.int (f:Nat))),some (.sh (.int (t:Nat))),some (.sh (.int (r:Nat))),some (.sh (.int (((vv ks:Nat):Int)+1))),some (.sh (.int (wg (bE s (((ks.getD f 0:Nat):Int)+(t:Int)+(r:Int))) 53))),some (.sh (.int w)),some (.lst (((fu (SR ks w)).map .int).map T.sh))]) (Ml E.u (d1:=.lst ((fu (ZW ks w)).map .int)) (d2:=.lst (([]:AT).map .int)) (vL E.bZ.1) (cD (i9 bK (asU _))) (.lst fun d hd=>by obtain⟨i,_,rfl⟩:=asq.mp hd;exact .int 59 i) (.lst fun d hd=>by cases hd)).1 (fun hp=>?_) (fun hp=>?_) ?_
 . rw[Kf]at hp;have hp:fu (ZW ks w)=[]:=asB hp;have hp:ZW ks w=[]:=by unfold fu at hp;exact List.map_eq_nil_iff.mp hp
   refine aK E.g E.bZ (aF (V5 E.g E.dS E.c7 (au (d8 lk E.dh (aO E.kW) E.dg)) hk E.dR E.c6) (t2:=.lst (((fu (SR ks w)).map .int).map T.sh)) (by unfold SR;rw[ass hp];rfl)) (aA rfl)
 . rw[Kf]at hp;have hp:¬ fu (ZW ks w)=[]:=asJ hp;refine aA ?_;unfold SR;rw[ash fun z=>hp (by rw[z];rfl)];rfl
 rintro δ rfl;have Ku:=Qa ks w We;have hl7:((fu (SR ks w)).map D.int).length=(SR ks w).length:=by unfold fu;rw[ar3,ar3]
 generalize SR ks w=F at Ku hl7 ⊢;obtain⟨z0,z1⟩:=Xb (x:=wg (bE s (f:Nat)) (59+(t:Int)*5+(r:Int))) Ku;have hx:=tE z1;rw[auW z0]at hx;have f0:(0:Int)<=(f:Int):=by omega
 exact bA (dI (cY (vL E.bZ.1) (au (bH (au (c_ ((bE s (f:Nat),59+(t:Int)*5+(r:Int))) E.fS E.bF (ah (au (c_ ((s,(f:Int))) E.cC E.bf (ah (aO E.aQ) (ah (aO E.jA) aH)) (f0) rfl)) (ah (au (bX (au (bX ai (au (oY (aO E.fB) ai (.inr ⟨Wp,Wp⟩))))) (aO E.iL))) aH)) (trivial) rfl)) (au (d8 hl7 E.dh (vL E.bZ.1) E.dg)) We)) hx) rfl) rfl
def fU:RT (av Ig) ([("script",cT),("kinds",.cell),("flat",cT),("turn",cT),("row",cT),("bases",cT),("mixed",cT),("wanted",.cell),("found",cT),("max",bW),("_law_mixed",bW),("_law_cell_at",bW),("range",bW),("len",bW),("list",bW)])=true:=by decide +kernel
def acv:d7 X9 ["script","kinds","flat","turn","row"] (av Ig):=lZ
abbrev C7:=top 46
abbrev C8:=Cc×Nat×Nat×Nat
abbrev KR:Ap:=["deeds","flat","number","to","ahead"]
def rz:C8->At:=fun(l,f,n,to)=>[.tup (l.map It.d),.int (f:Nat),.int (n:Nat),.int (to:Nat)]
def rA:C8->Prop:=fun(l,f,n,to)=>l.length<=1000
def rB:C8->T:=fun(l,f,n,to)=>(.sh (.tup ((Lp l f n to).map It.d)):T)
structure Yc(X:Cx)(CL:BC):Prop extends cj X where
 iw:Ln X 0 "deeds"
 jA:Ln X 1 "flat"
 ji:Ln X 2 "number"
 Yd:Ln X 3 "to"
 QF:Ln X 4 "ahead"
def Ye{b:Bx}(E:Yc X CL) :
   qT X CL b C7 KR rz rA rB:=by
 rintro⟨l,f,n,to⟩ h;dsimp only [rA,rz,rB]at h ⊢;have hl:l.length<=1000:=h;show cQ X CL b _ _ {nx:=_,rt:=fun zk _=>zk=T.sh (.tup ((Lp l f n to).map It.d)),bk:=_,ct:=_};refine g8 (gA (au (bH (aO E.jA) ai Wp)) ai).1 (fun hp=>?_) (fun hp=>aA ?_)
 . have hp:f % 3=0:=by have:=asB hp;omega
   unfold Lp;rw[ass hp];exact bA (v_ E.iw.1) rfl
 . have hp:¬ f % 3=0:=by have:=asJ hp;omega
   unfold Lp;rw[ash hp];have c1:cutD (l.map It.d) none (some 1)=(l.take 1).map It.d:=by rw[zo (z:=1) (k:=1) rfl,auw]
   have c2:cutD (l.map It.d) (some 1) none=(l.drop 1).map It.d:=by rw[xK (z:=1) (k:=1) rfl,List.map_drop]
   have n1:((l.take 1).map It.d).length<=1:=by rw[ar3,asK];omega
   have n2:((l.drop 1).map It.d).length<=1000:=by rw[ar3,atU];omega
   refine aK E.g E.QF (qi (ds:=[(It.out ((f:Int)+1)).d,(It.keep 0 (-1) ((f:Int)+1)).d]) (sP:=(l.take 1).map It.d) (aF (aM (aq (aM (aq fY (aq (bX (aO E.jA) ai) aX)) aG) (aq (aM (aq fY (aq lJ (aq (m8 ai) (aq (bX (aO E.jA) ai) aX)))) aG) aX)) aG) rfl) (c1▸Cy (v_ E.iw.1) qP (qQ ai)) (by rw[asD];show 2+_<=_;omega)) ?_;refine bA (aF (qi (sP:=[(It.Ck ((to:Int)+1)).d]) (qi (sP:=(l.drop 1).map It.d) (qi (sP:=[(It.way (n:Nat)).d]) (v_ E.QF.1) (aF (aM (aq (aM (aq fY (aq (v_ E.ji.1) aX)) aG) aX) aG) rfl) ?z1) (c2▸Cy (v_ E.iw.1) (qQ ai) qP) ?z2) (aF (aM (aq (aM (aq fY (aq (bX (aO E.Yd) ai) aX)) aG) aX) aG) rfl) ?z3) ?e) rfl
   case z1=>rw[asD,asa];show 2+_+1<=_;omega
   case z2=>rw[asD,asa,asa];show 2+_+1+_<=_;omega
   case z3=>rw[asD,asa,asa,asa];show 2+_+1+_+1<=_;omega
   case e=>simp only[asn];rfl
def mU:FG KR ["deeds","flat","number","to"] [] (av C7):=fG
abbrev Nr:=top 47
abbrev Nt:=AT×Nat×Nat
abbrev Yg:Ap:=["script","at","many","memory"]
def x8:Nt->At:=fun(s,a,m)=>[.lst (s.map .int),.int (a:Nat),.int (m:Nat)]
def tU:Nt->Prop:=fun(s,a,m)=>m<=1000/\a<=1000
def x9:Nt->T:=fun(s,a,m)=>(.sh (Xc s a m):T)
structure ag8(X:Cx)(CL:BC):Prop extends cj X where
 aQ:Ln X 0 "script"
 Tg:Ln X 1 "at"
 bM:Ln X 2 "many"
 yb:Ln X 3 "memory"
 bF:Gl X "_law_mixed"
 bf:Gl X "_law_cell_at"
 iy:Gl X "tuple"
 fS:Fc X CL "_law_mixed" 1 2 gY gZ g5
 cC:Fc X CL "_law_cell_at" 1 2 fO fP fQ
 ez:X.mg "tuple" = none
def ag9{b:Bx}(E:ag8 X CL) :
   qT X CL b Nr Yg x8 tU x9:=by
 rintro⟨s,a,m⟩ h;dsimp only [tU,x8,x9]at h ⊢;obtain⟨hm,ha⟩:=h;refine Cd (fun δ=>δ=[some (.sh (.lst (s.map .int))),some (.sh (.int (at7 s a:Nat))),some (.sh (.int (m:Nat))),none]) (gA (au (bH (au (c_ ((bE s 0,71)) E.fS E.bF (ah (au (c_ ((s,0)) E.cC E.bf (ah (aO E.aQ) (ah ai aH)) (show(0:Int)<=0 by omega) rfl)) (ah ai aH)) (trivial) rfl)) ai Wp)) ai).1 (fun hp=>?_) (fun hp=>?_) ?_
 . have hp:wg (bE s 0) 71 % 4=0:=asB hp;exact aK E.g E.Tg (aF (bH (aO E.Tg) ai Wp) (t2:=.sh (.int (at7 s a:Nat))) (by unfold at7;rw[ass hp];rfl)) (aA rfl)
 . have hp:¬ wg (bE s 0) 71 % 4=0:=asJ hp;exact aA (by unfold at7;rw[ash hp];rfl)
 rintro δ rfl;unfold Xc mm7;generalize at7 s a=q;refine aK E.g E.yb (aF (aaT (ds:=[.int (-1)]) (k:=(m:Int)+1) (cD (lX (aq (m8 ai) aX) aG)) (au (bX (aO E.bM) ai)) rfl We We (by rw[asD];show 1*_<=_;omega)) (t2:=.lst ((List.replicate (m+1) (D.int (-1))).map T.sh)) ?r) ?_
 case r=>
   rw[show((m:Int)+1).toNat=m+1 by omega];refine congrArg (fun z=>T.lst (List.map T.sh z)) ?_;generalize m+1=k
   induction k with
   | zero=>rfl
   | succ k ih=>rw[att,aub,ih];rfl
 have q0:(0:Int)<=(q:Int):=by omega
 have nb:0<((m:Int)+1):=by omega
 refine Pq E.yb.1 (GR (au (bH (au (c_ ((bE s (q:Nat),73)) E.fS E.bF (ah (au (c_ ((s,(q:Int))) E.cC E.bf (ah (aO E.aQ) (ah (aO E.Tg) aH)) (q0) rfl)) (ah ai aH)) (trivial) rfl)) (au (bX (aO E.bM) ai)) (nb))) ai) ai rfl (j:=0) (by rw[ar3,atD];exact Mm We We) ?_;have em:((List.replicate (m+1) (D.int (-1))).map T.sh).set 0 (.sh (.int (wg (bE s (q:Nat)) 73 % ((m:Int)+1)-1)))=(D.int (wg (bE s (q:Nat)) 73 % ((m:Int)+1)-1)::List.replicate m (.int (-1))).map T.sh:=by rw[att];rfl
 have im:D.aT (D.int (wg (bE s (q:Nat)) 73 % ((m:Int)+1)-1)::List.replicate m (.int (-1)))=true:=by
   refine jL fun d hd=>?_;rcases asb.mp hd with rfl|hd
   . rfl
   . rw[au5 hd];rfl
 show cQ X CL b _ [some (.sh (.lst (s.map .int))),some (.sh (.int (q:Nat))),some (.sh (.int (m:Nat))),some (.lst (((List.replicate (m+1) (D.int (-1))).map T.sh).set 0 (.sh (.int (wg (bE s (q:Nat)) 73 % ((m:Int)+1)-1)))))] _;rw[em];refine g8 (gA (au (bH (aO E.Tg) ai Wp)) ai).1 (fun hp=>?_) (fun hp=>aA ?_)
 . have hp:q % 3=1:=by have:=asB hp;omega
   rw[ass hp];exact bA (aM (ds:=[.tup [.int 0,.int ((q:Int)+1),.int ((m:Int)+1)],.tup (D.int (wg (bE s (q:Nat)) 73 % ((m:Int)+1)-1)::List.replicate m (.int (-1)))]) (aq (aF (aM (aq lJ (aq (bX (aO E.Tg) ai) (aq (bX (aO E.bM) ai) aX))) aG) rfl) (aq (gB E.ez (vL E.yb.1) im E.iy) aX)) aG) rfl
 . have hp:¬ q % 3=1:=by have:=asJ hp;omega
   rw[ash hp];exact bA (aM (ds:=[.tup [.int 0,.int ((q:Int)+1)],.tup (D.int (wg (bE s (q:Nat)) 73 % ((m:Int)+1)-1)::List.replicate m (.int (-1)))]) (aq (aF (aM (aq lJ (aq (bX (aO E.Tg) ai) aX)) aG) rfl) (aq (gB E.ez (vL E.yb.1) im E.iy) aX)) aG) rfl
def oJ:FG Yg ["script","at","many"] ["_law_mixed","_law_cell_at","tuple"] (av Nr):=fG
abbrev BL:=top 48
abbrev Ih:=AT×Nat×Bool
abbrev QG:Ap:=["script","most","closed","many","three","boxes","bases","kinds","faces","rows","flat","turn","steps","asks","deeds","to","flats","begin"]
def uQ:Ih->At:=fun(s,q,cl)=>[.lst (s.map .int),.int (q:Nat),.bl cl]
def uR:Ih->Prop:=fun(s,q,cl)=>s.length<=1000/\q<=100
def uS:Ih->T:=fun(s,q,cl)=>(pt7 (xQ s) (jg s) (ZX s) (pr7 s q) (SW s q cl):T)
structure acw(X:Cx)(CL:BC):Prop extends cj X where
 aQ:Ln X 0 "script"
 C9:X.env.kindOf "script" = some .cell
 aha:Ln X 1 "most"
 tR:Ln X 2 "closed"
 bM:Ln X 3 "many"
 HX:X.env.kindOf "many" = some .cell
 d9:Ln X 4 "three"
 bN:Ln X 5 "boxes"
 mq:Ln X 6 "bases"
 acy:X.env.kindOf "bases" = some .cell
 kW:Ln X 7 "kinds"
 oH:Ln X 8 "faces"
 aN:Ln X 9 "rows"
 jA:Ln X 10 "flat"
 fB:Ln X 11 "turn"
 oK:Ln X 12 "steps"
 tS:Ln X 13 "asks"
 iw:Ln X 14 "deeds"
 Yd:Ln X 15 "to"
 rC:Ln X 16 "flats"
 BO:Ln X 17 "begin"
 KP:Gl X "max"
 akC:Gl X "min"
 dg:Gl X "len"
 Ii:Gl X "_law_signs"
 c6:Gl X "range"
 bF:Gl X "_law_mixed"
 bf:Gl X "_law_cell_at"
 Ij:Gl X "_law_faces"
 KS:Gl X "_law_next"
 Er:Gl X "_law_marked"
 tT:Gl X "_law_deed"
 KQ:X.mg "max" = none
 akD:X.mg "min" = none
 dh:X.mg "len" = none
 acz:Fc X CL "_law_signs" 2 1 uJ uK uL
 c7:X.mg "range" = none
 fS:Fc X CL "_law_mixed" 1 2 gY gZ g5
 cC:Fc X CL "_law_cell_at" 1 2 fO fP fQ
 acA:Fc X CL "_law_faces" 5 5 uM uN uO
 ahb:Fc X CL "_law_next" 2 5 xY xZ x6
 Yh:Fc X CL "_law_marked" 1 4 rz rA rB
 HY:Fc X CL "_law_deed" 3 3 tP ny tQ
 akE:X.mg "str" = none
 HV:Fc X CL "_law_small" 1 1 qp qq qt
 ahc:Fc X CL "_law_flat" 2 3 x8 tU x9
def acB{b:Bx}(E:acw X CL) :
   qT X CL b BL QG uQ uR uS:=by
 rintro⟨s,q,cl⟩ h;dsimp only [uR,uQ,uS]at h ⊢;obtain⟨ZS,hq⟩:=h;have hn1:1<=n7 s q:=by unfold n7;omega
 have hn2:n7 s q<=100:=by unfold n7;omega
 obtain⟨b1,b2,b3⟩:=Xg s;have UH:=MV s;have hsl:=Bw s;have ml:s.length % 4<4:=Nat.mod_lt _ Wp;refine aK E.g E.bM (aF (Px E.g E.KQ E.KP (ah ai (ah (au (aaI E.g E.akD E.akC (ah (au (d8 (ar3 ..) E.dh (aO E.aQ) E.dg)) (ah (aO E.aha) aH)))) aH))) (t2:=.sh (.int (n7 s q:Nat))) ?n) ?_
 case n=>
   refine congrArg (fun z=>T.sh (.int z)) ?_;unfold n7
   repeat' split
   all_goals omega
 refine aK E.g E.d9 (aF (c_ (s) E.acz E.Ii (ah (aO E.aQ) aH) (ZS) ((bJ (dX _)))) (t2:=.lst (((jg s).map .str).map T.sh)) rfl) ?_;refine sS (p:=fun _=>true) (gg:=fun d=>T.sh (gI (bN7 d.vZ.toNat,jO (bE s (d.vZ+2))))) E.g E.bN (cg (.cons E.aQ.1 (.inl E.C9) .nil) Wl) (e9 E.c7 (au (bH (au (d8 (ar3 ..) E.dh (aO E.aQ) E.dg)) ai Wp)) We E.c6) (.inr rfl) (fun C s0 H0 f0 b' d hd=>?ag5) (by simp[cS,asD];omega) ?X5 (by exact ar8 rfl) (lA ⟨_,rfl⟩)
 case ag5=>
   obtain⟨a,ha,rfl⟩:=jP hd;have ha:a<4:=by omega
   obtain⟨⟨q1,q2⟩,q3,q4⟩:=Qd a ha;have a0:(0:Int)<=(a:Int)+2:=by omega
   refine⟨rfl,fun _=>aF (aM (ds:=[.str (bN7 a),.int (jO (bE s ((a:Int)+2)))]) (aq (aF (vW fq (au (aaJ E.akE sA (je 0) (q4))) ((by rw[asD,q3];show 3+1<=_;omega))) rfl) (aq (c_ (bE s ((a:Int)+2)) (jq E.HV) sA (ah (au (c_ ((s,(a:Int)+2)) (jq E.cC) sA (ah (i7 1) (ah (au (bX (je 0) ai)) aH)) (a0) rfl)) aH) (trivial) rfl) aX)) aG) rfl⟩
 case X5=>
 have eB:((cS 0 ((s.length:Int) % 4).toNat).filter fun _=>true).map (fun d=>T.sh (gI (bN7 d.vZ.toNat,jO (bE s (d.vZ+2)))))=((xQ s).map gI).map T.sh:=by
   rw[kI (f:=fun(k:Nat)=>gI (bN7 k,jO (bE s ((k:Int)+2)))) _ (fun k=>by show T.sh (gI (bN7 (0+(k:Int)).toNat,jO (bE s ((0+(k:Int))+2))))=_;rw[atg,asT])];unfold xQ;rw[show((s.length:Int) % 4).toNat=s.length % 4 by omega];simp only[asC];rfl
 rw[eB];refine aK E.g E.mq (aF (bX ai (au (bH (au (c_ ((bE s 0,43)) E.fS E.bF (ah (au (c_ ((s,0)) E.cC E.bf (ah (aO E.aQ) (ah ai aH)) (show(0:Int)<=0 by omega) rfl)) (ah ai aH)) (trivial) rfl)) ai Wp))) (t2:=.sh (.int (CH s:Nat))) (by rw[b3])) ?_;have bp:0<((CH s:Nat):Int):=by omega
 refine sS (p:=fun _=>true) (gg:=fun d=>T.sh (.int (wg (bE s d.vZ) 61 % ((CH s:Nat):Int)))) E.g E.kW (cg (.cons E.mq.1 (.inl E.acy) (.cons E.aQ.1 (.inl E.C9) .nil)) Wl) (e9 E.c7 (aO E.bM) We E.c6) (.inr rfl) (fun C s0 H0 f0 b' d hd=>?X6) (by simp[cS,asD];omega) ?X7 (by exact ar8 rfl) (lA ⟨_,rfl⟩)
 case X6=>
   obtain⟨a,ha,rfl⟩:=jP hd;have a0:(0:Int)<=(a:Int):=by omega
   exact⟨rfl,fun _=>(bH (au (c_ ((bE s (a:Int),61)) (jq E.fS) sA (ah (au (c_ ((s,(a:Int))) (jq E.cC) sA (ah (i7 2) (ah (je 0) aH)) (a0) rfl)) (ah ai aH)) (trivial) rfl)) (i7 1) (bp))⟩
 case X7=>
 have eK:((cS 0 ((n7 s q:Nat):Int).toNat).filter fun _=>true).map (fun d=>T.sh (.int (wg (bE s d.vZ) 61 % ((CH s:Nat):Int))))=((fu (qk s q)).map D.int).map T.sh:=by
   rw[kI (f:=fun(k:Nat)=>.int (wg (bE s (k:Nat)) 61 % ((CH s:Nat):Int))) _ (fun k=>by rw[show(D.int (0+(k:Int))).vZ=(k:Int) from atg _])];unfold fu qk;rw[asC,asC,asC,asC,asT];refine atk fun k _=>?_;show T.sh (.int _)=T.sh (.int (((wg (bE s (k:Nat)) 61 % ((CH s:Nat):Int)).toNat:Nat):Int));rw[auW (asP _ We)]
 rw[eK];have bl:=Qc s;refine aK E.g E.oH (Bm (d:=.lst (fzF (JC s cl))) (aF (c_ (s,CH s,(xQ s).length,jg s,cl) E.acA E.Ij (ah (aO E.aQ) (ah (aO E.mq) (ah (au (d8 (ar3 ..) E.dh (vL E.bN.1) E.dg)) (ah (vL E.d9.1) (ah (aO E.tR) aH))))) ⟨ZS,We,We,We⟩ ?cl) (t2:=.lst ((JC s cl).map AH)) rfl) (abS _)) ?_
 case cl=>
   show(T.lst ((Lk s (xQ s).length (jg s) cl (3*CH s)).map AH)).clean=true;rw[T.clean];refine Qe fun t ht=>?_;obtain⟨r,hr,rfl⟩:=asq.mp ht;unfold Lk at hr;obtain⟨i,_,rfl⟩:=asq.mp hr;exact zx Hy
 refine aK E.g E.aN (aF xA (t2:=.dct (cy (fW (FW s (qk s q) (jg s) (JC s cl) 0)))) rfl) ?_;have Kq:=Hz s q;have hkt:=MX s q;show cQ X CL b _ _ {nx:=_,rt:=fun zk _=>zk=pt7 (xQ s) (jg s) (ZX s) (pr7 s q) (SW s q cl),bk:=_,ct:=_};have eR:SW s q cl=FW s (qk s q) (jg s) (JC s cl) (n7 s q*(jg s).length):=rfl;rw[eR];have eP:pr7 s q=(List.range (n7 s q)).map fun(k:Nat)=>Xc s k (n7 s q):=rfl;have eG:ZX s=[.Ck 0,.Ck 1,.dQ (zm (bE s 1) (xQ s).length (jg s))]:=rfl;have hFF:∀{k:Nat},k<3*CH s->(JC s cl)[k]? = some (Bu s (k / 3) (k % 3) (xQ s).length (jg s) cl):=MY (s:=s) (cl:=cl);have hF2:∀k:Nat,k<3*CH s->∀r∈(JC s cl).getD k [],D.aT r.1=true/\Sm7 4 r:=fun k hk r hr=>by
   rw[asj,hFF hk]at hr;exact⟨Hy r hr,MT r hr⟩
 have hF3:∀k:Nat,k<3*CH s->((JC s cl).getD k []).length<=5/\(JC s cl)[k]? = some ((JC s cl).getD k []):=fun k hk=>by
   rw[asj,hFF hk];exact⟨P7 ..,rfl⟩
 rw[eP,eG];clear eP eG eR hFF;generalize JC s cl=FF at hF2 hF3 ⊢;generalize qk s q=ks at Kq hkt ⊢;generalize jg s=hs at UH hsl ⊢;generalize xQ s=bs at bl ⊢;generalize n7 s q=n at hn1 hn2 Kq ⊢;generalize CH s=bn at b1 b2 hkt hF2 hF3 ⊢;refine lT E.g E.jA (fun j δ=>∃(Ga X4 o12 UJ UK Ti:DO),δ=[some (.sh (.lst (s.map .int))),some (.sh (.int (q:Nat))),some (.sh (.bl cl)),some (.sh (.int (n:Nat))),some (.lst ((hs.map .str).map T.sh)),some (.lst ((bs.map gI).map T.sh)),some (.sh (.int (bn:Nat))),some (.lst (((fu ks).map .int).map T.sh)),some (.sh (.lst (fzF FF))),some (.dct (cy (fW (FW s ks hs FF (j*hs.length))))),Ga,X4,o12,UJ,UK,Ti,none,none]) (e9 E.c7 (aO E.bM) We E.c6) ⟨_,_,_,_,_,_,by rw[Nat.zero_mul];rfl⟩ (fun j δ ⟨_,_,_,_,_,_,e⟩=>by subst e;exact ar8 rfl) ?turn ?fin
 case turn=>
   rintro j d δ hj ⟨Ga,X4,o12,UJ,UK,Ti,rfl⟩;obtain⟨rfl,Se⟩:=qf hj;rw[atg];have hjn:j<n:=by omega
   refine lT E.g E.fB (fun t δ=>∃(X4 o12 UJ UK Ti:DO),δ=[some (.sh (.lst (s.map .int))),some (.sh (.int (q:Nat))),some (.sh (.bl cl)),some (.sh (.int (n:Nat))),some (.lst ((hs.map .str).map T.sh)),some (.lst ((bs.map gI).map T.sh)),some (.sh (.int (bn:Nat))),some (.lst (((fu ks).map .int).map T.sh)),some (.sh (.lst (fzF FF))),some (.dct (cy (fW (FW s ks hs FF (j*hs.length+t))))),some (.sh (.int (j:Nat))),X4,o12,UJ,UK,Ti,none,none]) (e9 E.c7 (au (d8 (ar3 ..) E.dh (vL E.d9.1) E.dg)) We E.c6) ⟨_,_,_,_,_,rfl⟩ (fun j δ ⟨_,_,_,_,_,e⟩=>by subst e;exact ar8 rfl) ?C5 ?fin2
   case fin2=>
     rintro δ ⟨X4,o12,UJ,UK,Ti,rfl⟩;rw[show(cS 0 ((hs.length:Nat):Int).toNat).length=hs.length by simp[cS]];rw[show j*hs.length+hs.length=(j+1)*hs.length by rw[Nat.add_mul,Nat.one_mul]];exact aA ⟨_,_,_,_,_,_,rfl⟩
   case C5=>
   rintro t d δ hj ⟨X4,o12,UJ,UK,Ti,rfl⟩;obtain⟨rfl,htl⟩:=qf hj;rw[atg];have htn:t<hs.length:=by omega
   have hkj:ks.getD j 0<bn:=hkt _ (sC We);have hix:ks.getD j 0*3+t<3*bn:=by omega
   obtain⟨f5,fat⟩:=hF3 _ hix;have fim:=hF2 _ hix;have yO:=tE (ks:=ks) (f:=j) We;obtain⟨F,hF⟩:∃F,F=FF.getD (ks.getD j 0*3+t) []:=⟨_,rfl⟩;rw[← hF]at f5 fat fim;have aoc:ux (fzF FF) (((ks.getD j 0:Nat):Int)*3+(t:Int))=some (.lst (F.map zq)):=by
     rw[show((ks.getD j 0:Nat):Int)*3+(t:Int)=((ks.getD j 0*3+t:Nat):Int) by omega];refine gJ ?_;unfold fzF;rw[asi,fat];rfl
   refine aK E.g E.oK (i9 bK (asU _)) ?_;refine VM E.g (PB E.g.nd E.g.calm E.tS E.iw) (fun i δ=>∃(UJ UK Ti:DO),δ=[some (.sh (.lst (s.map .int))),some (.sh (.int (q:Nat))),some (.sh (.bl cl)),some (.sh (.int (n:Nat))),some (.lst ((hs.map .str).map T.sh)),some (.lst ((bs.map gI).map T.sh)),some (.sh (.int (bn:Nat))),some (.lst (((fu ks).map .int).map T.sh)),some (.sh (.lst (fzF FF))),some (.dct (cy (fW (FW s ks hs FF (j*hs.length+t))))),some (.sh (.int (j:Nat))),some (.sh (.int (t:Nat))),some (.lst (((Xd s ks j t F i).map AI).map T.sh)),UJ,UK,Ti,none,none]) (VJ (g7 (sL (v_ E.oH.1) (au (bX (au (oY (cY (vL E.kW.1) (aO E.jA) yO) ai (.inr ⟨Wp,Wp⟩))) (aO E.fB))) aoc))) ⟨_,_,_,rfl⟩ (fun j δ ⟨_,_,_,e⟩=>by subst e;intro i hi;simp only[asb,aso,as7]at hi;rcases hi with rfl|rfl<;>exact ar8 rfl) ?akF ?aod
   case akF=>
     rintro i d δ hi ⟨UJ,UK,Ti,rfl⟩;rw[asi]at hi;obtain⟨r,hr,rfl⟩:=asF.mp hi;have FL:i<F.length:=(asl.mp hr).1;have er:F.getD i qZ=r:=by rw[asj,hr];rfl
     obtain⟨im,sm1,sm2⟩:=fim r (asu hr);refine⟨[.tup r.1,.tup (r.2.map It.d)],rfl,?_⟩;have hln:(((Xd s ks j t F i).map AI)).length=i:=by unfold Xd;rw[ar3,ar3,asz]
     show cQ X CL b _ [some (.sh (.lst (s.map .int))),some (.sh (.int (q:Nat))),some (.sh (.bl cl)),some (.sh (.int (n:Nat))),some (.lst ((hs.map .str).map T.sh)),some (.lst ((bs.map gI).map T.sh)),some (.sh (.int (bn:Nat))),some (.lst (((fu ks).map .int).map T.sh)),some (.sh (.lst (fzF FF))),some (.dct (cy (fW (FW s ks hs FF (j*hs.length+t))))),some (.sh (.int (j:Nat))),some (.sh (.int (t:Nat))),some (.lst (((Xd s ks j t F i).map AI).map T.sh)),some (.sh (.tup r.1)),some (.sh (.tup (r.2.map It.d))),Ti,none,none] _;refine aK E.g E.Yd (c_ (s,ks,j,t,i) E.ahb E.KS (ah (aO E.aQ) (ah (vL E.kW.1) (ah (aO E.jA) (ah (aO E.fB) (ah (au (d8 hln E.dh (vL E.oK.1) E.dg)) aH))))) ⟨ZS,We,We,We,We⟩ rfl) ?_;refine vA E.oK.1 rfl (aF (aM (ds:=[.tup r.1,.tup ((Lp r.2 j i (SV s ks j t i)).map It.d),.int (SV s ks j t i:Nat)]) (aq (v_ E.tS.1) (aq (c_ (r.2,j,i,SV s ks j t i) E.Yh E.Er (ah (aO E.iw) (ah (aO E.jA) (ah (au (d8 hln E.dh (vL E.oK.1) E.dg)) (ah (aO E.Yd) aH)))) (show r.2.length<=1000 by omega) (cZ _)) (aq (v_ E.Yd.1) aX))) aG) (t2:=.sh (AI (r.1,Lp r.2 j i (SV s ks j t i),SV s ks j t i))) rfl) rfl (by rw[ar3,hln];omega) (aA ⟨some (.sh (.tup r.1)),some (.sh (.tup (r.2.map It.d))),some (.sh (.int (SV s ks j t i:Nat))),?_⟩);show _=[_,_,_,_,_,_,_,_,_,_,_,_,some (T.lst (((Xd s ks j t F (i+1)).map AI).map T.sh)),_,_,_,_,_];rw[Xe,er];rfl
   case aod=>
     rintro δ ⟨UJ,UK,Ti,rfl⟩;rw[ar3];have R4:=abP s ks FF UH (j:=j) htn;have A1:ux (hs.map D.str) (t:Int)=some (.str (hs.getD t Str.empty)):=v7 Str.empty We We;refine Hg (kvs:=cy (fW (FW s ks hs FF (j*hs.length+t)))) (xO j (hs.getD t Str.empty)) E.u E.aN.1 (vM E.oK.1) (aF (kD (aL (v_ E.jA.1) (aL (dI (cY (vL E.d9.1) (aO E.fB) A1) rfl) bK)) aG) (t2:=jD (xO j (hs.getD t Str.empty))) rfl) rfl (by rw[qY,xP];exact R4) ?z (aA ⟨some (.sh (.int (t:Nat))),none,UJ,UK,Ti,?e⟩)
     case z=>
       unfold cy fW FW;rw[ar3,ar3,ar3,asz];have:j*hs.length<=100*3:=Nat.mul_le_mul We hsl;omega
     case e=>
       show _=[_,_,_,_,_,_,_,_,_,some (T.dct (cy (fW (FW s ks hs FF (j*hs.length+t+1))))),_,_,_,_,_,_,_,_];rw[Xf s ks hs FF htn,← hF];unfold fW cy RX;rw[asn,asn];rfl
 case fin=>
   rintro δ ⟨Ga,X4,o12,UJ,UK,Ti,rfl⟩;rw[show(cS 0 ((n:Nat):Int).toNat).length=n by simp[cS]];refine sS (p:=fun _=>true) (gg:=fun d=>T.sh (Xc s d.vZ.toNat n)) E.g E.rC (cg (.cons E.bM.1 (.inl E.HX) (.cons E.aQ.1 (.inl E.C9) .nil)) Wl) (e9 E.c7 (aO E.bM) We E.c6) (.inr rfl) (fun C s0 H0 f0 b' d hd=>?ahe) (by simp[cS,asD];omega) ?Yi (by exact ar8 rfl) (lA ⟨_,rfl⟩)
   case ahe=>
     obtain⟨a,ha,rfl⟩:=jP hd;exact⟨rfl,fun _=>(c_ ((s,a,n)) (jq E.ahc) sA (ah (i7 2) (ah (je 0) (ah (i7 1) aH))) (by dsimp only [tU];exact(⟨We,We⟩)) (Qf s a n))⟩
   case Yi=>
   rw[kI (f:=fun(k:Nat)=>Xc s k n) _ (fun k=>by show T.sh (Xc s (0+(k:Int)).toNat n)=_;rw[atg,asT]),asT];refine aK E.g E.BO (aM (ds:=[It.Ck 0,.Ck 1,.dQ (zm (bE s 1) bs.length hs)].map It.d) (aq (aF (aM (aq fY (aq lJ aX)) aG) rfl) (aq (aF (aM (aq fY (aq lJ aX)) aG) rfl) (aq (aF (c_ (bE s 1,bs.length,hs) E.HY E.tT (ah (au (c_ ((s,1)) E.cC E.bf (ah (aO E.aQ) (ah ai aH)) (show(0:Int)<=1 by decide) rfl)) (ah (au (d8 (ar3 ..) E.dh (vL E.bN.1) E.dg)) (ah (vL E.d9.1) aH))) ⟨We,We⟩ (xF _)) rfl) aX))) aG) ?_;exact bA (i9 (aL (vM E.bN.1) (aL (vM E.d9.1) (aL (v_ E.BO.1) (aL (vM E.rC.1) (aL (vM E.aN.1) bK))))) aG) rfl
def bu:RT (av BL) ([("script",.cell),("most",cT),("closed",cT),("many",.cell),("three",cT),("boxes",cT),("bases",.cell),("kinds",cT),("faces",cT),("rows",cT),("flat",cT),("turn",cT),("steps",cT),("asks",cT),("deeds",cT),("to",cT),("flats",cT),("begin",cT),("max",bW),("min",bW),("len",bW),("_law_signs",bW),("range",bW),("_law_mixed",bW),("_law_cell_at",bW),("_law_faces",bW),("_law_next",bW),("_law_marked",bW),("_law_deed",bW)])=true:=by decide +kernel
def Yj:d7 QG ["script","most","closed"] (av BL):=lZ
def bgA:Bool->At->D
 | true,bg=>.lst bg
 | false,bg=>.tup bg
theorem ahf{b:Bx}{δ:AR}{pos pp pn:Pos}{lb:Bool}{bg:At}(n:Vn X i x)(hm:X.mg "tuple" = none)(hg:Gl X "tuple")(h0:D.aT bg=true)(h:δ[i]? = some (some (.sh (bgA lb bg))):=by rfl):bO X CL b (.Call (.Name "tuple" pp) [.Name x pn] [] pos) δ (.sh (.tup bg)) δ:=by
 cases lb with
 | false=>exact zj hm (v_ n h) hg
 | true=>exact gB hm (au (v_ n h)) h0 hg
abbrev rD:=inClass (top 9) 0
abbrev rE:=At×At×At×At×(List (bT×At))×Bool
abbrev yc:Ap:=["self","boxes","signs","begin","flats","rows","key"]
def nA:rE->At:=fun(bs,hs,bg,pr,kvs,lb)=>[.lst bs,.lst hs,bgA lb bg,.lst pr,.dct (iK kvs)]
def nB:rE->Prop:=fun(bs,hs,bg,pr,kvs,lb)=>D.aT bg=true/\D.aT bs=true/\D.aT hs=true/\D.aT pr=true/\(∀q∈kvs,D.aT q.2=true)/\(kvs.map (·.1)).Nodup/\kvs.length<=1000
def nE:rE->B1:=fun(bs,hs,bg,pr,kvs,lb)=>(xJ bs hs bg pr kvs:B1)
structure Ik(X:Cx)(CL:BC):Prop extends cj X where
 bD:Ln X 0 "self"
 bN:Ln X 1 "boxes"
 Il:Ln X 2 "signs"
 BO:Ln X 3 "begin"
 rC:Ln X 4 "flats"
 aN:Ln X 5 "rows"
 Gb:Ln X 6 "key"
 dR:Gl X "list"
 iy:Gl X "tuple"
 dS:X.mg "list" = none
 ez:X.mg "tuple" = none
 aE:kO X.K (CL "FlatRun")
 aY:kO X.K (CL "Table")
 bU:aI X.K (CL "Table") "boxes"
 aU:aI X.K (CL "FlatRun") "boxes"
 cu:aI X.K (CL "Table") "signs"
 f6:aI X.K (CL "Table") "begin"
 f7:aI X.K (CL "Table") "flats"
 cH:aI X.K (CL "Table") "rows"
def Im{b:Bx}(E:Ik X CL)(bs hs bg pr:At)(kvs:List (bT×At))(lb:Bool)(y:Addr)(h:D.aT bg=true/\D.aT bs=true/\D.aT hs=true/\D.aT pr=true/\(∀q∈kvs,D.aT q.2=true)/\(kvs.map (·.1)).Nodup/\kvs.length<=1000) :
   cQ X CL b (dF rD) (VH yc y "Table" [.lst bs,.lst hs,bgA lb bg,.lst pr,.dct (iK kvs)]) {nx:=fun δ=>δ[0]? = some (some (.pin y (.ins "Table" (xJ bs hs bg pr kvs)))),rt:=fun _ _=>False}:=by
 obtain⟨h0,h1,h2,h3,h4,h5,h6⟩:=h;refine qh E.aY E.bU E.bD.1 (jd E.dS (aO E.bN) h1 E.dR cz) rfl (ar8 rfl) ?_;rw[sQ];refine qh E.aY E.cu E.bD.1 (jd E.dS (aO E.Il) h2 E.dR cz) rfl (ar8 rfl) ?_;rw[aW Wl,sQ];refine qh E.aY E.f6 E.bD.1 (ahf E.BO.1 E.ez E.iy h0) rfl (ar8 rfl) ?_;rw[aW Wl,aW Wl,sQ];refine qh E.aY E.f7 E.bD.1 (jd E.dS (aO E.rC) h3 E.dR cz) rfl (ar8 rfl) ?_;rw[aW Wl,aW Wl,aW Wl,sQ];refine qh E.aY E.cH E.bD.1 xA rfl (ar8 rfl) ?_;rw[aW Wl,aW Wl,aW Wl,aW Wl,sQ];refine abf E.g E.Gb (fun j δ=>∃o,δ=[some (.pin y (.ins "Table" (vq bs hs bg pr (.dct (cy (kvs.take j)))))),some (.sh (.lst bs)),some (.sh (.lst hs)),some (.sh (bgA lb bg)),some (.sh (.lst pr)),some (.sh (.dct (iK kvs))),o]) (v_ E.aN.1) ⟨_,rfl⟩ (fun j δ ⟨_,e⟩=>by subst e;exact ar8 rfl) ?turn ?fin
 case turn=>
   rintro b' j k d δ hj ⟨o,rfl⟩;have hj0:=hj;unfold iK at hj;rw[asi]at hj;obtain⟨q,hq,e⟩:=asF.mp hj;cases e;have hqm:=asu hq;have Se:j<kvs.length:=(asl.mp hq).1;have hv:lB (iK kvs) q.1=some (.lst q.2):=P0 (by rw[MQ];exact h5) hj0;have hn:q.1∉(cy (kvs.take j)).map (·.1):=fun hm=>by
     rw[qY,auw]at hm;obtain⟨i,hi,e⟩:=List.getElem_of_mem hm;rw[asK]at hi;rw[List.getElem_take]at e;have hi2:i<(kvs.map (·.1)).length:=by omega
     have:=(List.getElem?_inj hi2 h5).mp (show(kvs.map (·.1))[i]? = (kvs.map (·.1))[j]? by
       rw[ar6 hi2,e,asi,hq];rfl)
     omega
   refine abi q.1 E.u (jd E.dS (V7 q.1 E.u (aO E.aN) (Hq E.Gb.1 rfl) hv) (h4 q hqm) E.dR cz) (Cw E.aY E.cH (kT E.bD.1 rfl) rfl rfl zl) (Hq E.Gb.1 rfl) rfl (kvs:=cy (kvs.take j)) (by show(List.lookup ("rows":Str) (vq bs hs bg pr (.dct (cy (kvs.take j))))).bind _=_;rw[zl];rfl) hn (by unfold cy;rw[ar3,asK];omega) (aA ⟨some (jD q.1),?_⟩);have e:T.ni [.fld "rows"] (.dct (cy (kvs.take j)++[(q.1,.lst (q.2.map T.sh))])) (.pin y (.ins "Table" (vq bs hs bg pr (.dct (cy (kvs.take j))))))=.pin y (.ins "Table" (vq bs hs bg pr (.dct (cy (kvs.take (j+1)))))):=by
     have et:cy (kvs.take j)++[(q.1,T.lst (q.2.map T.sh))]=cy (kvs.take (j+1)):=by
       unfold cy;rw[as9,hq,asn];rfl
     rw[et];exact SK
   show [some (T.ni [.fld "rows"] _ _),_,_,_,_,_,_]=_;rw[e]
 case fin=>
   rintro δ ⟨o,rfl⟩;rw[show(iK kvs).length=kvs.length by unfold iK;rw[ar3],ate];exact aA rfl
def cE:FG yc ["self","boxes","signs","begin","flats","rows"] ["list","tuple"] (av rD):=fG
abbrev Io:=top 49
abbrev Ip:=Da×Ap×Cc×At×(List (bT×List R7))
abbrev QH:Ap:=["parts","rows","key","steps"]
def uT:Ip->At:=fun(bs,hs,bg,pr,R)=>[pd7 bs hs bg pr R]
def uU:Ip->Prop:=fun(bs,hs,bg,pr,R)=>D.aT pr=true/\(R.map (·.1)).Nodup/\R.length<=1000/\∀q∈R,∀r∈q.2,D.aT r.1=true
def uV:Ip->T:=fun(bs,hs,bg,pr,R)=>(.ins "Table" (xJ (bs.map gI) (hs.map .str) (bg.map It.d) pr (fW R)):T)
structure acC(X:Cx)(CL:BC):Prop extends cj X where
 eL:Ln X 0 "parts"
 aN:Ln X 1 "rows"
 Gb:Ln X 2 "key"
 oK:Ln X 3 "steps"
 dR:Gl X "list"
 Iq:Gl X "Table"
 dS:X.mg "list" = none
 Ir:Fm X CL "Table" 1 6 nA nB nE
def acD{b:Bx}(E:acC X CL) :
   qT X CL b Io QH uT uU uV:=by
 rintro⟨bs,hs,bg,pr,R⟩ h;dsimp only [uU,uT,uV]at h ⊢;obtain⟨h1,h2,h3,h4⟩:=h;have i1:D.aT (bs.map gI)=true:=gC (fun _=>rfl) _;have h5:((fW R).map (·.1)).Nodup:=by rw[xP];exact h2
 have h6:∀q∈fW R,D.aT q.2=true:=fun q hq=>by
   obtain⟨p,hp,rfl⟩:=asq.mp hq;exact CF fun r hr=>M4 (h4 p hp r hr)
 have h7:(fW R).length<=1000:=by unfold fW;rw[ar3];exact h3
 show cQ X CL b _ [some (.sh (.lst [.lst (bs.map gI),.lst (hs.map .str),.tup (bg.map It.d),.lst pr,.dct (iK (fW R))])),none,none,none] {nx:=_,rt:=fun zk _=>zk=T.ins "Table" (xJ (bs.map gI) (hs.map .str) (bg.map It.d) pr (fW R)),bk:=_,ct:=_};generalize fW R=kvs at h5 h6 h7 ⊢;refine aK E.g E.aN (aF xA (t2:=.dct (cy (kvs.take 0))) rfl) ?_;refine agy E.g E.Gb E.oK (fun j δ=>∃(o2 o3:DO),δ=[some (.sh (.lst [.lst (bs.map gI),.lst (hs.map .str),.tup (bg.map It.d),.lst pr,.dct (iK kvs)])),some (.dct (cy (kvs.take j))),o2,o3]) (sL (v_ E.eL.1) ai (gJ (j:=4) rfl)) ⟨_,_,rfl⟩ (fun j δ ⟨_,_,e⟩=>by subst e;exact⟨ar8 rfl,ar8 rfl⟩) ?turn ?fin
 case turn=>
   rintro b' j k d δ hj ⟨o2,o3,rfl⟩;have hj0:=hj;unfold iK at hj;rw[asi]at hj;obtain⟨q,hq,e⟩:=asF.mp hj;cases e;have hqm:=asu hq;have Se:j<kvs.length:=(asl.mp hq).1;have hn:q.1∉(cy (kvs.take j)).map (·.1):=fun hm=>by
     rw[qY,auw]at hm;obtain⟨i,hi,e⟩:=List.getElem_of_mem hm;rw[asK]at hi;rw[List.getElem_take]at e;have hi2:i<(kvs.map (·.1)).length:=by omega
     have:=(List.getElem?_inj hi2 h5).mp (show(kvs.map (·.1))[i]? = (kvs.map (·.1))[j]? by
       rw[ar6 hi2,e,asi,hq];rfl)
     omega
   refine Hg (kvs:=cy (kvs.take j)) q.1 E.u E.aN.1 (jd E.dS (aO E.oK) (h6 q hqm) E.dR cz) (Hq E.Gb.1 rfl) rfl hn (by unfold cy;rw[ar3,asK];omega) (aA ⟨some (jD q.1),some (.sh (.lst q.2)),?_⟩);have et:cy (kvs.take j)++[(q.1,T.lst (q.2.map T.sh))]=cy (kvs.take (j+1)):=by
     unfold cy;rw[as9,hq,asn];rfl
   show [_,some (T.dct (cy (kvs.take j)++[(q.1,T.lst (q.2.map T.sh))])),_,_]=_;rw[et]
 case fin=>
   rintro δ ⟨o2,o3,rfl⟩;rw[show(iK kvs).length=kvs.length by unfold iK;rw[ar3],ate];exact bA (aF (mk_ (bs.map gI,hs.map .str,bg.map It.d,pr,kvs,false) E.Ir E.Iq
     (ah (cD (jd E.dS (cY (aO E.eL) ai Hs) i1 E.dR cz)) (ah (cD (jd E.dS (cY (aO E.eL) ai CB) (dX _) E.dR cz)) (ah (cY (aO E.eL) ai Sy) (ah (cD (jd E.dS (cY (aO E.eL) ai akf) h1 E.dR cz)) (ah (vE E.aN.1 rfl (by rw[T.bG,uF])) aH)))))
     ⟨cZ _,i1,dX _,h1,h6,h5,h7⟩ (qX i1 (dX _) (cZ _) h1 h6)) (t2:=.ins "Table" (xJ (bs.map gI) (hs.map .str) (bg.map It.d) pr kvs)) rfl) rfl
def nF:FG QH ["parts"] ["list","Table"] (av Io):=fG
abbrev rG:=top 22
abbrev wA:=List At
abbrev Dc:Ap:=["marks","places","mark"]
def mw:wA->At:=fun ks=>[.lst (ks.map .tup)]
def mz:wA->Prop:=fun ks=>(∀k∈ks,lU 8 (.tup k))/\ks.length<=1000
def mC:wA->T:=fun ks=>(.lst (((fu (cX (ks.map D.tup))).map .int).map T.sh):T)
structure Nu(X:Cx)(CL:BC):Prop extends cj X where
 QI:Ln X 0 "marks"
 lD:Ln X 1 "places"
 k_places:X.env.kindOf "places" = some .cell
 pA:Ln X 2 "mark"
 dg:Gl X "len"
 dh:X.mg "len" = none
def Nv{b:Bx}(E:Nu X CL) :
   qT X CL b rG Dc mw mz mC:=by
 intro ks h;dsimp only [mz,mw,mC]at h ⊢;obtain⟨hn,hl⟩:=h;have hn2:∀d∈ks.map D.tup,lU 8 d:=fun d hd=>by obtain⟨k,hk,rfl⟩:=asq.mp hd;exact hn k hk
 have hl2:(ks.map D.tup).length<=1000:=by rw[ar3];exact hl
 have ok:=fun j=>an4 (j:=j) hn2 hl2;refine aK E.g E.lD (aF abx (t2:=.lz X.w (unq ((ks.map D.tup).take 0)) (nums (unq ((ks.map D.tup).take 0)))) rfl) ?_;refine lT E.g E.pA (fun j δ=>∃(o:DO),δ=[some (.sh (.lst (ks.map .tup))),some (.lz X.w (unq ((ks.map D.tup).take j)) (nums (unq ((ks.map D.tup).take j)))),o]) (g7 (v_ E.QI.1)) ⟨_,rfl⟩ (fun j δ ⟨_,e⟩=>by subst e;exact ar8 rfl) ?turn ?fin
 case turn=>
   rintro j d δ hj ⟨o,rfl⟩;have hj2:=hj;rw[asi]at hj;obtain⟨k,hk,rfl⟩:=asF.mp hj;refine PD (abA E.u (ok j) E.lD.1 rfl (v_ E.pA.1) (abz (ok j) E.dh (vE E.lD.1 rfl (by rw[T.bG])) E.dg) (hn k (asu hk))) (aA ⟨some (.sh (.tup k)),?_⟩);show [_,some (if D.tup k∈unq ((ks.map D.tup).take j) then T.lz X.w (unq ((ks.map D.tup).take j)) (nums (unq ((ks.map D.tup).take j))) else T.lz X.w (unq ((ks.map D.tup).take j)++[.tup k]) (nums (unq ((ks.map D.tup).take j))++[.int ((unq ((ks.map D.tup).take j)).length:Nat)])),_]=[_,some (T.lz X.w (unq ((ks.map D.tup).take (j+1))) (nums (unq ((ks.map D.tup).take (j+1))))),_];rw[as9,hj2];show _=[_,some (T.lz X.w (unq ((ks.map D.tup).take j++[.tup k])) (nums (unq ((ks.map D.tup).take j++[.tup k])))),_];rw[fN];split
   . rfl
   . rw[SX]
 case fin=>
   rintro δ ⟨o,rfl⟩;rw[ate];have ok:=ok (ks.map D.tup).length;rw[ate]at ok;refine bA (aF (lY (p:=fun _=>true) (g:=fun d=>T.sh (.int ((unq (ks.map D.tup)).idxOf d:Nat))) (cg (.cons E.lD.1 (.inl E.k_places) .nil) Wl) E.g.calm (g7 (v_ E.QI.1)) (.inl ⟨rfl,fun _ _=>rfl⟩) (fun C s0 H0 f0 b' d hd=>?JF) (by rw[asD];omega)) ?eq) rfl
   case JF=>
     have hd2:=hd;obtain⟨k,hk,rfl⟩:=asq.mp hd;exact⟨rfl,fun _=>dI (aby E.u ok (i7 1) (je 0) (c5.mpr hd2) (ab3 (c5.mpr hd2))) rfl⟩
   case eq=>
     rw[iH];unfold fu cX;simp only[asC];rfl
def lE:RT (av rG) ([("marks",cT),("places",.cell),("mark",cT),("len",bW)])=true:=by decide +kernel
def KW:d7 Dc ["marks"] (av rG):=lZ
abbrev Nx:=top 19
abbrev Ny:=Cc
abbrev Yk:Ap:=["rows"]
def qv:Ny->At:=fun xs=>[.tup (xs.map It.d)]
def qw:Ny->Prop:=fun xs=>xs.length<=1000
def qx:Ny->T:=fun xs=>(.lst (((xs.filter It.told).map It.d).map T.sh):T)
structure ahg(X:Cx)(CL:BC):Prop extends cj X where
 aN:Ln X 0 "rows"
 uW:GT X "MARKS" ["out","keep","way","in"]
def ahh{b:Bx}(E:ahg X CL) :
   qT X CL b Nx Yk qv qw qx:=by
 intro xs h;dsimp only [qw,qv,qx]at h ⊢;have h:xs.length<=1000:=h;refine bA (aF (lY (p:=fun d=>!decide (d.UE.toS∈cN)) (g:=fun d=>T.sh d) (cg .nil Wl) E.g.calm (G3 (v_ E.aN.1)) (.inr rfl) (fun C s0 H0 f0 b' d hd=>?JF) (aty (jC (by simp;omega)))) ?eq) rfl
 case JF=>
   obtain⟨r,hr,rfl⟩:=asq.mp hd;exact⟨(Py (l:=cN) (bV (je 0) ai (akj r.sj)) (au (Cp (by exact E.uW) sA)) rfl rfl).1,fun _=>v_ (MK 0)⟩
 case eq=>
   refine congrArg T.lst ?_;have e:((fun d:D=>!decide (d.UE.toS∈cN))∘It.d)=It.told:=by
     funext x;show(!decide (x.sj.w∈cN))=x.told;rw[Bs,Bool.not_not]
   rw[auD,e]
def QJ:FG Yk ["rows"] [] (av Nx):=fG
abbrev zJ:=top 24
abbrev zK:=At×At×At×At×(List (bT×List R7))×Nat×Str×Nat
abbrev Gd:Ap:=["table","number","sign"]
def oM:zK->At:=fun(bs,hs,bg,pr,R,a,x,n)=>[eX bs hs bg pr (fW R),.int (a:Nat),.str x]
def oN:zK->Prop:=fun(bs,hs,bg,pr,R,a,x,n)=>lB R (xO a x)=some (qa R a x)/\(qa R a x).length<=100/\∀r∈qa R a x,Xp n r
def oO:zK->T:=fun(bs,hs,bg,pr,R,a,x,n)=>(.sh (lkS R a x):T)
structure Tj(X:Cx)(CL:BC):Prop extends cj X where
 bC:Ln X 0 "table"
 ji:Ln X 1 "number"
 f9:Ln X 2 "sign"
 iy:Gl X "tuple"
 ez:X.mg "tuple" = none
 De:Fc X CL "told" 1 1 qv qw qx
 aY:kO X.K (CL "Table")
 cH:aI X.K (CL "Table") "rows"
def Tp{b:Bx}(E:Tj X CL) :
   qT X CL b zJ Gd oM oN oO:=by
 rintro⟨bs,hs,bg,pr,R,a,x,n⟩ h;dsimp only [oN,oM,oO]at h ⊢;obtain⟨h1,h2,h3⟩:=h;show cQ X CL b _ _ {nx:=_,rt:=fun zk _=>zk=T.sh (.tup ((qa R a x).map Lq)),bk:=_,ct:=_};generalize qa R a x=l at h1 h2 h3 ⊢;refine bA (gB E.ez (ds:=l.map Lq) (cD (aF (lY (p:=fun _=>true) (g:=fun d=>T.sh (fcO d)) (cg .nil Wl) E.g.calm (g7 (xB (xO a x) E.u (iJ E.aY E.cH (v_ E.bC.1) nq) (aF (kD (aL (v_ E.ji.1) (aL (v_ E.f9.1) bK)) aG) (t2:=jD (xO a x)) rfl) (BE h1))) (.inr rfl) (fun C s0 H0 f0 b' d hd=>?JF) (by rw[ar3,asD];omega)) (t2:=.lst ((l.map Lq).map T.sh)) ?eq)) (BF h3).2 E.iy) rfl
 case JF=>
   obtain⟨r,hr,rfl⟩:=asq.mp hd;have hrw:=h3 r hr;refine⟨rfl,fun _=>aF (aM (ds:=[.tup r.1,.tup ((r.2.1.filter It.told).map It.d)]) (aq (zj E.ez (yU (v_ (MK 0)) ai Hs) sA) (aq (gB E.ez (cD (aF (c_ r.2.1 (jq E.De) sA (ah (bV (je 0) ai CB) aH) hrw.e (bJ (cZ _))) (t2:=.lst (((r.2.1.filter It.told).map It.d).map T.sh)) rfl)) (cZ _) sA) aX)) aG) ?_⟩;show T.sh (Lq r)=T.sh (fcO (AI r));rw[Xr]
 case eq=>
   rw[iH,asC,asC];refine congrArg T.lst (atk fun r _=>?_);show T.sh (fcO (AI r))=T.sh (Lq r);rw[Xr]
def nG:FG Gd ["table","number","sign"] ["tuple"] (av zJ):=fG
abbrev Iu:=top 23
abbrev Nz:=At×At×At×Ap×(List (bT×List R7))×Nat×Nat
abbrev Yl:Ap:=["table","number"]
def yd:Nz->At:=fun(bs,bg,pr,hs,R,a,n)=>[eX bs (hs.map .str) bg pr (fW R),.int (a:Nat)]
def ye:Nz->Prop:=fun(bs,bg,pr,hs,R,a,n)=>FZ R hs n/\a<n
def yf:Nz->T:=fun(bs,bg,pr,hs,R,a,n)=>(.sh (.tup (Bc R hs a)):T)
structure ahj(X:Cx)(CL:BC):Prop extends cj X where
 bC:Ln X 0 "table"
 oQ:X.env.kindOf "table" = some .cell
 ji:Ln X 1 "number"
 Ym:X.env.kindOf "number" = some .cell
 iy:Gl X "tuple"
 ez:X.mg "tuple" = none
 Tq:Fc X CL "seen_at" 2 3 oM oN oO
 aY:kO X.K (CL "Table")
 cu:aI X.K (CL "Table") "signs"
def ahk{b:Bx}(E:ahj X CL) :
   qT X CL b Iu Yl yd ye yf:=by
 rintro⟨bs,bg,pr,hs,R,a,n⟩ h;dsimp only [ye,yd,yf]at h ⊢;obtain⟨ht,ha⟩:=h;refine bA (gB E.ez (ds:=Bc R hs a) (cD (aF (lY (p:=fun _=>true) (g:=fun d=>T.sh (lkS R a d.toS)) (cg (.cons E.ji.1 (.inl E.Ym) (.cons E.bC.1 (.inl E.oQ) .nil)) Wl) E.g.calm (g7 (iJ E.aY E.cu (v_ E.bC.1) jE)) (.inr rfl) (fun C s0 H0 f0 b' d hd=>?JF) (by rw[ar3,asD];have:=ht.e;omega)) (t2:=.lst ((Bc R hs a).map T.sh)) ?eq)) (ht.look ha).2 E.iy) rfl
 case JF=>
   obtain⟨x,hx,rfl⟩:=asq.mp hd;exact⟨rfl,fun _=>aF (c_ (bs,hs.map .str,bg,pr,R,a,x,n) (jq E.Tq) sA (ah (i7 2) (ah (i7 1) (ah (je 0) aH))) (ht.row ha hx) (BF (ht.row ha hx).2.2).2) rfl⟩
 case eq=>
   rw[iH];unfold Bc;rw[asC,asC];rfl
def yg:RT (av Iu) ([("table",.cell),("number",.cell),("tuple",bW)])=true:=by decide +kernel
def acE:d7 Yl ["table","number"] (av Iu):=lZ
abbrev Yn:=top 25
abbrev Yo:=At×At×At×Ap×(List (bT×List R7))×Nat×Nat×Bi
abbrev aev:Ap:=["table","number","found","places","sign","row"]
def BP:Yo->At:=fun(bs,bg,pr,hs,R,a,n,F)=>[eX bs (hs.map .str) bg pr (fW R),.int (a:Nat),.lst ((fu F).map .int)]
def BQ:Yo->Prop:=fun(bs,bg,pr,hs,R,a,n,F)=>FZ R hs n/\a<n/\F.length=n
def BR:Yo->T:=fun(bs,bg,pr,hs,R,a,n,F)=>(.sh (.tup ((fu (JD R hs F a)).map .int)):T)
structure akJ(X:Cx)(CL:BC):Prop extends cj X where
 bC:Ln X 0 "table"
 ji:Ln X 1 "number"
 bZ:Ln X 2 "found"
 lD:Ln X 3 "places"
 f9:Ln X 4 "sign"
 iL:Ln X 5 "row"
 iy:Gl X "tuple"
 ez:X.mg "tuple" = none
 aY:kO X.K (CL "Table")
 cu:aI X.K (CL "Table") "signs"
 cH:aI X.K (CL "Table") "rows"
def akK{b:Bx}(E:akJ X CL) :
   qT X CL b Yn aev BP BQ BR:=by
 rintro⟨bs,bg,pr,hs,R,a,n,F⟩ h;dsimp only [BQ,BP,BR]at h ⊢;obtain⟨ht,ha,hF⟩:=h;have h3:=ht.e;refine aK E.g E.lD (i9 bK (asU _)) ?_;refine lT E.g E.f9 (fun j δ=>∃(o4 o5:DO),δ=[some (.sh (eX bs (hs.map .str) bg pr (fW R))),some (.sh (.int (a:Nat))),some (.sh (.lst ((fu F).map .int))),some (.lst (((fu (JD R (hs.take j) F a)).map .int).map T.sh)),o4,o5]) (g7 (iJ E.aY E.cu (v_ E.bC.1) jE)) ⟨_,_,rfl⟩ (fun j δ ⟨_,_,e⟩=>by subst e;exact ar8 rfl) ?turn ?fin
 case fin=>
   rintro δ ⟨o4,o5,rfl⟩;rw[ar3,ate];exact bA (gB E.ez (vL E.lD.1) (uI _) E.iy) rfl
 case turn=>
 rintro j d δ hj ⟨o4,o5,rfl⟩;rw[asi]at hj;obtain⟨x,hx,rfl⟩:=asF.mp hj;have hxm:=asu hx;obtain⟨q1,q2,q3⟩:=ht.row ha hxm;have m7:=agN ht ha hxm hF;have hsn:JD R (hs.take (j+1)) F a=JD R (hs.take j) F a++(qa R a x).map fun r=>F.getD r.2.2 0:=by
   unfold JD;rw[as9,hx,auV];simp
 have Se:j<hs.length:=(asl.mp hx).1;have hbd:∀m,m<=hs.length->(JD R (hs.take m) F a).length<=100*m:=by
   intro m
   induction m with
   | zero=>intro _;unfold JD;simp
   | succ m ih=>
     intro hm;have h0:=ih We;have akM:hs[m]? = some hs[m]:=ar6 We;have h1:=(ht.row ha (asu akM)).2.1;unfold JD at h0 ⊢;rw[as9,akM,auV,asa];have:(List.flatMap (fun x=>(qa R a x).map fun r=>F.getD r.2.2 0) (some hs[m]).toList).length<=100:=by simpa using h1
     omega
 have hb1:=hbd j We;rw[hsn];generalize JD R (hs.take j) F a=L0 at hb1 ⊢;generalize qa R a x=l at q1 q2 q3 m7 ⊢;refine lT E.g E.iL (fun i δ=>∃(o5:DO),δ=[some (.sh (eX bs (hs.map .str) bg pr (fW R))),some (.sh (.int (a:Nat))),some (.sh (.lst ((fu F).map .int))),some (.lst (((fu (L0++(l.take i).map fun r=>F.getD r.2.2 0)).map .int).map T.sh)),some (.sh (.str x)),o5]) (g7 (xB (xO a x) E.u (iJ E.aY E.cH (v_ E.bC.1) nq) (aF (kD (aL (v_ E.ji.1) (aL (v_ E.f9.1) bK)) aG) (t2:=jD (xO a x)) rfl) (BE q1))) ⟨_,by rw[List.take_zero,at6,asx];rfl⟩ (fun j δ ⟨_,e⟩=>by subst e;exact ar8 rfl) ?C5 ?fin2
 case fin2=>
   rintro δ ⟨o5,rfl⟩;rw[ar3,ate];exact aA ⟨_,_,rfl⟩
 case C5=>
   rintro i d δ hi ⟨o5,rfl⟩;rw[asi]at hi;obtain⟨r,hr,rfl⟩:=asF.mp hi;have hrm:=asu hr;have FL:i<l.length:=(asl.mp hr).1;refine vA E.lD.1 rfl (sL (v_ E.bZ.1) (bV (aO E.iL) ai Sy) (m7 r hrm)) rfl (by rw[ar3,ar3,kU,asa,ar3,asK];omega) (aA ⟨some (.sh (AI r)),?_⟩);have e:((fu (L0++(l.take (i+1)).map fun r=>F.getD r.2.2 0)).map D.int).map T.sh=((fu (L0++(l.take i).map fun r=>F.getD r.2.2 0)).map D.int).map T.sh++[T.sh (.int (F.getD r.2.2 0:Nat))]:=by
     rw[as9,hr,asn,← ar7,ab0 (L0++_),asn,asn];rfl
   rw[e];rfl
def tV:FG aev ["table","number","found"] ["tuple"] (av Yn):=fG
def mny(R:List (bT×List R7))(hs:Ap)(n:Nat):Nat->Nat
 | 0=>0
 | k+1=>cn (iE R hs n k)
abbrev uX:=top 21
abbrev zL:=At×At×At×Ap×(List (bT×List R7))
abbrev Ge:Ap:=["table","found","many"]
def oR:zL->At:=fun(bs,bg,pr,hs,R)=>[eX bs (hs.map .str) bg pr (fW R)]
def oS:zL->Prop:=fun(bs,bg,pr,hs,R)=>FZ R hs pr.length
def oU:zL->T:=fun(bs,bg,pr,hs,R)=>(.lst (((fu (mh R hs pr.length)).map .int).map T.sh):T)
structure Tr(X:Cx)(CL:BC):Prop extends cj X where
 bC:Ln X 0 "table"
 oQ:X.env.kindOf "table" = some .cell
 bZ:Ln X 1 "found"
 yh:X.env.kindOf "found" = some .cell
 bM:Ln X 2 "many"
 rH:Gl X "numbered"
 c6:Gl X "range"
 dg:Gl X "len"
 aew:Gl X "set"
 Df:Fc X CL "numbered" 1 1 mw mz mC
 c7:X.mg "range" = none
 dh:X.mg "len" = none
 aex:X.mg "set" = none
 ahm:Fc X CL "seen" 3 2 yd ye yf
 akN:Fc X CL "led" 1 3 BP BQ BR
 aY:kO X.K (CL "Table")
 f7:aI X.K (CL "Table") "flats"
def Tt{b:Bx}(E:Tr X CL) :
   qT X CL b uX Ge oR oS oU:=by
 rintro⟨bs,bg,pr,hs,R⟩ h;dsimp only [oS,oR,oU]at h ⊢;have ht:FZ R hs pr.length:=h;obtain⟨n,hn⟩:∃n,n=pr.length:=⟨_,rfl⟩;have hnl:pr.length=n:=hn.symm;rw[hnl]at ht;obtain⟨n1,n2⟩:=ht.f;show cQ X CL b _ _ {nx:=_,rt:=fun zk _=>zk=T.lst (((fu (mh R hs pr.length)).map .int).map T.sh),bk:=_,ct:=_};rw[hnl];refine aK E.g E.bZ (aF (c_ ((List.range n).map (Bc R hs)) E.Df E.rH (ah (cD (aF (lY (p:=fun _=>true) (g:=fun d=>T.sh (.tup (Bc R hs d.vZ.toNat))) (cg (.cons E.bC.1 (.inl E.oQ) .nil) Wl) E.g.calm (e9 E.c7 (au (d8 hnl E.dh (ja E.aY E.f7 (aO E.bC) tu) E.dg)) We E.c6) (.inr rfl) (fun C s0 H0 f0 b' d hd=>?JF) (by simp[cS,asD];omega)) (t2:=.lst ((((List.range n).map (Bc R hs)).map D.tup).map T.sh)) ?eq)) aH) ⟨?p1,?p2⟩ (bJ (uI _))) (t2:=.lst (((fu (iE R hs n 0)).map .int).map T.sh)) ?e0) ?_
 case JF=>
   obtain⟨a,ha,rfl⟩:=jP hd;have ha:a<n:=by omega
   exact⟨rfl,fun _=>aF (c_ (bs,bg,pr,hs,R,a,n) (jq E.ahm) sA (ah (i7 1) (ah (je 0) aH)) ⟨ht,ha⟩ (ht.look ha).2) rfl⟩
 case eq=>
   rw[kI (f:=fun(a:Nat)=>.tup (Bc R hs a)) _ (fun a=>by show T.sh (.tup (Bc R hs (0+(a:Int)).toNat))=_;rw[atg,asT]),asT];simp only[asC];rfl
 case p1=>
   intro k hk;obtain⟨a,ha,rfl⟩:=asq.mp hk;exact M3 (ht.look (as4.mp ha)).1 Wp
 case p2=>rw[ar3,asz];omega
 case e0=>
   show T.lst (((fu (cX (((List.range n).map (Bc R hs)).map D.tup))).map .int).map T.sh)=_;rw[iE,show((List.range n).map (Bc R hs)).map D.tup=(List.range n).map fun(a:Nat)=>D.tup (Bc R hs a) by rw[asC];rfl]
 refine aK E.g E.bM lJ ?_;refine Pu E.g (fun m δ=>∃k,m=n-mny R hs n k/\k<=mny R hs n k/\mny R hs n k<=n/\δ=[some (.sh (eX bs (hs.map .str) bg pr (fW R))),some (.lst (((fu (iE R hs n k)).map .int).map T.sh)),some (.sh (.int (mny R hs n k:Nat)))]) (n-0) ⟨0,rfl,asp _,asU _,rfl⟩ ?_;rintro m δ ⟨k,rfl,k1,k2,rfl⟩;obtain⟨c1,c2,c3⟩:=Xo (R:=R) (hs:=hs) n1 k;have hl:=q8 (R:=R) (hs:=hs) (n:=n) k;have hle:(fu (iE R hs n k)).length<=1000:=by rw[kU,hl];omega
 refine⟨_,_,(adT (au (aF (Cz E.g E.dh E.aex (vL E.bZ.1) hle E.dg E.aew) (t2:=.sh (.int (cn (iE R hs n k):Nat))) (by rw[Xs]))) (aO E.bM)).1,fun hp=>?_,fun hp=>?_⟩
 . have hp:mny R hs n k<cn (iE R hs n k):=by have:=asB hp;omega
   refine aK E.g E.bM (aF (Cz E.g E.dh E.aex (vL E.bZ.1) hle E.dg E.aew) (t2:=.sh (.int (cn (iE R hs n k):Nat))) (by rw[Xs])) ?_;show cQ X CL b _ [some (.sh (eX bs (hs.map .str) bg pr (fW R))),some (.lst (((fu (iE R hs n k)).map .int).map T.sh)),some (.sh (.int (cn (iE R hs n k):Nat)))] _;refine aK E.g E.bZ (aF (c_ ((List.range n).map (Lr R hs (iE R hs n k))) E.Df E.rH (ah (cD (aF (lY (δc:=[some (.sh (.lst ((fu (iE R hs n k)).map .int))),some (.sh (eX bs (hs.map .str) bg pr (fW R)))]) (p:=fun _=>true) (g:=fun d=>T.sh (.tup (Lr R hs (iE R hs n k) d.vZ.toNat))) (cg (.cons E.bZ.1 (.inl E.yh) (.cons E.bC.1 (.inl E.oQ) .nil)) Wl) E.g.calm (e9 E.c7 (au (d8 (ds:=(fu (iE R hs n k)).map .int) (n:=n) (by rw[ar3,kU,hl]) E.dh (vL E.bZ.1) E.dg)) We E.c6) (.inl ⟨?cap,fun _ _=>ab1 ..⟩) (fun C s0 H0 f0 b' d hd=>?X6) (by simp[cS,asD];omega)) (t2:=.lst ((((List.range n).map (Lr R hs (iE R hs n k))).map D.tup).map T.sh)) ?eq2)) aH) ⟨?p3,?p4⟩ (bJ (uI _))) (t2:=.lst (((fu (iE R hs n (k+1))).map .int).map T.sh)) ?e1) (aA ⟨n-mny R hs n (k+1),by show n-cn (iE R hs n k)<n-_;omega,k+1,rfl,by show k+1<=cn (iE R hs n k);omega,c2,rfl⟩)
   case cap=>
     show _=[some (T.sh (T.bG (.lst (((fu (iE R hs n k)).map D.int).map T.sh)))),some (T.sh (T.bG (.sh (eX bs (hs.map .str) bg pr (fW R)))))];rw[fM,T.bG]
   case X6=>
     obtain⟨a,ha,rfl⟩:=jP hd;have ha:a<n:=by omega
     refine⟨rfl,fun _=>aF (aM (ds:=Lr R hs (iE R hs n k) a) (aq (sL (v_ (WO 1)) (je 0) (tE (by rw[hl];exact ha))) (aq (aF (c_ (bs,bg,pr,hs,R,a,n,iE R hs n k) (jq E.akN) sA (ah (i7 2) (ah (je 0) (ah (i7 1) aH))) ⟨ht,ha,hl⟩ (uI _)) rfl) aX)) aG) rfl⟩
   case eq2=>
     rw[kI (f:=fun(a:Nat)=>.tup (Lr R hs (iE R hs n k) a)) _ (fun a=>by show T.sh (.tup (Lr R hs (iE R hs n k) (0+(a:Int)).toNat))=_;rw[atg,asT]),asT];simp only[asC];rfl
   case p3=>
     intro d hd;obtain⟨a,_,rfl⟩:=asq.mp hd;exact abZ _ _
   case p4=>rw[ar3,asz];omega
   case e1=>
     show T.lst (((fu (cX (((List.range n).map (Lr R hs (iE R hs n k))).map D.tup))).map .int).map T.sh)=_;rw[iE,show((List.range n).map (Lr R hs (iE R hs n k))).map D.tup=(List.range n).map fun(a:Nat)=>D.tup (Lr R hs (iE R hs n k) a) by rw[asC];rfl]
 . have hp:cn (iE R hs n k)<=mny R hs n k:=by have:=asJ hp;omega
   obtain⟨k,rfl⟩:∃j,k=j+1:=by
     cases k with
     | zero=>have:cn (iE R hs n 0)<=0:=hp;omega
     | succ k=>exact⟨k,rfl⟩
   have k1:k+1<=cn (iE R hs n k):=k1;have k2:cn (iE R hs n k)<=n:=k2;rw[agM We hp];exact bA (vM E.bZ.1) rfl
def gM:RT (av uX) ([("table",.cell),("found",.cell),("many",cT),("numbered",bW),("range",bW),("len",bW),("set",bW)])=true:=by decide +kernel
def NB:d7 Ge ["table"] (av uX):=lZ
def mgO(F:Bi):D->D
 | .tup [a,.tup ds,.int i]=>.tup [a,.tup (ds.filter fun d=>!decide (d.UE.toS∈cN)),.int (F.getD i.toNat 0:Nat)]
 | d=>d
def Yp(F:Bi)(r:R7):mgO F (AI r)=AI (r.1,r.2.1.filter It.told,F.getD r.2.2 0):=by
 show D.tup [.tup r.1,.tup ((r.2.1.map It.d).filter fun d=>!decide (d.UE.toS∈cN)),.int (F.getD (r.2.2:Int).toNat 0:Nat)]=_;have e:((fun d:D=>!decide (d.UE.toS∈cN))∘It.d)=It.told:=by
   funext x;show(!decide (x.sj.w∈cN))=x.told;rw[Bs,Bool.not_not]
 rw[auD,e,asT];rfl
abbrev kX:=top 27
abbrev pB:=List R7×Bi×Nat
abbrev vD:Ap:=["rows","found"]
def jr:pB->At:=fun(l,F,n)=>[.lst (l.map AI),.lst ((fu F).map .int)]
def jt:pB->Prop:=fun(l,F,n)=>l.length<=100/\(∀r∈l,Xp n r)/\F.length=n
def ju:pB->T:=fun(l,F,n)=>(.lst (((Ls F l).map AI).map T.sh):T)
structure Es(X:Cx)(CL:BC):Prop extends cj X where
 aN:Ln X 0 "rows"
 bZ:Ln X 1 "found"
 yh:X.env.kindOf "found" = some .cell
 ez:X.mg "tuple" = none
 De:Fc X CL "told" 1 1 qv qw qx
def Et{b:Bx}(E:Es X CL) :
   qT X CL b kX vD jr jt ju:=by
 rintro⟨l,F,n⟩ h;dsimp only [jt,jr,ju]at h ⊢;obtain⟨h1,h2,h3⟩:=h;refine bA (aF (lY (p:=fun _=>true) (g:=fun d=>T.sh (mgO F d)) (cg (.cons E.bZ.1 (.inl E.yh) .nil) Wl) E.g.calm (g7 (v_ E.aN.1)) (.inr rfl) (fun C s0 H0 f0 b' d hd=>?JF) (by rw[ar3,asD];omega)) ?eq) rfl
 case JF=>
   obtain⟨r,hr,rfl⟩:=asq.mp hd;have hrw:=h2 r hr;refine⟨rfl,fun _=>aF (aM (ds:=[.tup r.1,.tup ((r.2.1.filter It.told).map It.d),.int (F.getD r.2.2 0:Nat)]) (aq (zj E.ez (yU (v_ (MK 0)) ai Hs) sA) (aq (gB E.ez (cD (aF (c_ r.2.1 (jq E.De) sA (ah (bV (je 0) ai CB) aH) hrw.e (bJ (cZ _))) (t2:=.lst (((r.2.1.filter It.told).map It.d).map T.sh)) rfl)) (cZ _) sA) (aq (sL (v_ (WO 1)) (bV (je 0) ai Sy) (tE (by rw[h3];exact hrw.a))) aX))) aG) ?_⟩;show T.sh _=T.sh (mgO F (AI r));rw[Yp];rfl
 case eq=>
   rw[iH];unfold Ls;simp only[asC];refine congrArg T.lst (atk fun r _=>?_);show T.sh (mgO F (AI r))=_;rw[Yp];rfl
def nI:RT (av kX) ([("rows",cT),("found",.cell)])=true:=by decide +kernel
def Dg:d7 vD ["rows","found"] (av kX):=lZ
abbrev yi:=top 26
abbrev Dh:=At×At×Cc×Ap×(List (bT×List R7))
abbrev KY:Ap:=["table","found","number","chosen","rows","place","sign","flats"]
def rJ:Dh->At:=fun(bs,pr,bg,hs,R)=>[eX bs (hs.map .str) (bg.map It.d) pr (fW R)]
def rK:Dh->Prop:=fun(bs,pr,bg,hs,R)=>FZ R hs pr.length/\hs.Nodup/\D.aT bs=true/\D.aT pr=true/\bg.length<=1000
def rL:Dh->T:=fun(bs,pr,bg,hs,R)=>(.ins "Table" (xJ bs (hs.map .str) ((bg.filter It.told).map It.d) (XA pr (mh R hs pr.length)) (fW (tF R hs (mh R hs pr.length) (cn (mh R hs pr.length)*hs.length)))):T)
structure Yq(X:Cx)(CL:BC):Prop extends cj X where
 bC:Ln X 0 "table"
 oQ:X.env.kindOf "table" = some .cell
 bZ:Ln X 1 "found"
 yh:X.env.kindOf "found" = some .cell
 ji:Ln X 2 "number"
 Di:Ln X 3 "chosen"
 aN:Ln X 4 "rows"
 mD:Ln X 5 "place"
 f9:Ln X 6 "sign"
 rC:Ln X 7 "flats"
 zM:Gl X "classes"
 c6:Gl X "range"
 dg:Gl X "len"
 KZ:Gl X "enumerate"
 pC:Gl X "merged_rows"
 Iq:Gl X "Table"
 NC:Gl X "told"
 Tv:Fc X CL "classes" 4 1 oR oS oU
 c7:X.mg "range" = none
 dh:X.mg "len" = none
 K0:X.mg "enumerate" = none
 Eu:Fc X CL "merged_rows" 2 2 jr jt ju
 Ir:Fm X CL "Table" 1 6 nA nB nE
 De:Fc X CL "told" 1 1 qv qw qx
 aE:kO X.K (CL "FlatRun")
 aY:kO X.K (CL "Table")
 cu:aI X.K (CL "Table") "signs"
 bU:aI X.K (CL "Table") "boxes"
 aU:aI X.K (CL "FlatRun") "boxes"
 f7:aI X.K (CL "Table") "flats"
 f6:aI X.K (CL "Table") "begin"
 cH:aI X.K (CL "Table") "rows"
def Yr{b:Bx}(E:Yq X CL) :
   qT X CL b yi KY rJ rK rL:=by
 rintro⟨bs,pr,bg,hs,R⟩ h;dsimp only [rK,rJ,rL]at h ⊢;obtain⟨ht,nd,ib,ip,gl⟩:=h;have Ry:=ht;obtain⟨F,hF⟩:∃F,F=mh R hs pr.length:=⟨_,rfl⟩;obtain⟨n,hn⟩:∃n,n=pr.length:=⟨_,rfl⟩;have hl:F.length=n:=by rw[hF,hn];exact q8 _
 have hN:cX F=F:=by rw[hF];exact uH _
 rw[← hn]at ht;have hf:=ht.f;have ZJ:cn F<=n:=by
   have:=Qj (n:=n) F We;rw[hN]at this;exact this
 have hH:=ht.e;have tl:=ht.least nd hN hl;show cQ X CL b _ [some (.sh (eX bs (hs.map .str) (bg.map It.d) pr (fW R))),none,none,none,none,none,none,none] {nx:=_,rt:=fun zk _=>zk=T.ins "Table" (xJ bs (hs.map .str) ((bg.filter It.told).map It.d) (XA pr (mh R hs pr.length)) (fW (tF R hs (mh R hs pr.length) (cn (mh R hs pr.length)*hs.length)))),bk:=_,ct:=_};rw[← hF];refine aK E.g E.bZ (aF (c_ (bs,bg.map It.d,pr,hs,R) E.Tv E.zM (ah (aO E.bC) aH) Ry (bJ (uI _))) (t2:=.lst (((fu F).map .int).map T.sh)) (by rw[hF];rfl)) ?_;have hll:((fu F).map D.int).length=n:=by rw[ar3,kU,hl]
 have ef:(((cS 0 (n:Int).toNat).filter fun d=>decide (((F.idxOf (F.getD d.vZ.toNat 0):Nat):Int)=d.vZ)).map fun d=>T.sh (.int d.vZ))=((fu ((List.range (cn F)).map fun c=>F.idxOf c)).map D.int).map T.sh:=by
   rw[← M7 hN,hl];unfold fu cS;rw[asT,auD,asC,asC,asC];have e1:((fun d:D=>decide (((F.idxOf (F.getD d.vZ.toNat 0):Nat):Int)=d.vZ))∘fun(k:Nat)=>D.int (0+(k:Int)))=fun(k:Nat)=>decide (F.idxOf (F.getD k 0)=k):=by
     funext k;show decide (((F.idxOf (F.getD (0+(k:Int)).toNat 0):Nat):Int)=0+(k:Int))=_;rw[atg,asT];rw[decide_eq_decide];omega
   rw[e1];exact atk fun k _=>by show T.sh (.int (0+(k:Int)))=_;rw[atg];rfl
 refine sS (δc:=[some (.sh (.lst ((fu F).map .int)))]) (p:=fun d=>decide (((F.idxOf (F.getD d.vZ.toNat 0):Nat):Int)=d.vZ)) (gg:=fun d=>T.sh (.int d.vZ)) E.g E.Di (cg (.cons E.bZ.1 (.inl E.yh) .nil) Wl) (e9 E.c7 (au (d8 hll E.dh (vL E.bZ.1) E.dg)) We E.c6) (.inl ⟨?cap,fun _ _=>rfl⟩) (fun C s0 H0 f0 b' d hd=>?JF) (by simp[cS,asD];omega) ?rest (by exact ar8 rfl) (lA ⟨_,rfl⟩)
 case cap=>
   show _=[some (T.sh (T.bG (.lst (((fu F).map D.int).map T.sh))))];rw[fM]
 case JF=>
   obtain⟨a,ha,rfl⟩:=jP hd;have ha:a<n:=by omega
   have hm:F.getD a 0∈F:=sC We;obtain⟨j1,j2⟩:=XF hm;exact⟨(gA (au (V4 (j:=F.idxOf (F.getD a 0)) (i7 1) (au (sL (v_ (WO 1)) (je 0) (tE (ks:=F) (f:=a) We))) j1 j2)) (je 0)).1,fun _=>aF (v_ (MK 0)) rfl⟩
 case rest=>
 rw[ef];refine aK E.g E.aN (aF xA (t2:=.dct (cy (fW (tF R hs F 0)))) rfl) ?_;obtain⟨ch,Lf⟩:∃ch,ch=(List.range (cn F)).map fun c=>F.idxOf c:=⟨_,rfl⟩;have K1:ch.length=cn F:=by rw[Lf,ar3,asz]
 have ko:∀c,c<cn F->ch.getD c 0=F.idxOf c:=fun c hc=>by rw[Lf,asj,asi,atj hc];rfl
 rw[← Lf];have hci:(fu ch).map D.int=ch.map fun(c:Nat)=>D.int (c:Int):=by unfold fu;rw[asC];rfl
 refine VM E.g (PB E.g.nd E.g.calm E.mD E.ji) (fun j δ=>∃(o2 o5 o6:DO),δ=[some (.sh (eX bs (hs.map .str) (bg.map It.d) pr (fW R))),some (.lst (((fu F).map .int).map T.sh)),o2,some (.sh (.lst ((fu ch).map .int))),some (.dct (cy (fW (tF R hs F (j*hs.length))))),o5,o6,none]) (VW (f:=fun(c:Nat)=>D.int (c:Int)) (l:=ch) 0 E.K0 (aF (vFL (ds:=(fu ch).map .int) E.Di.1 rfl) (t2:=.sh (.lst (ch.map fun(c:Nat)=>D.int (c:Int)))) (by rw[hci])) E.KZ) ⟨_,_,_,by rw[Nat.zero_mul];rfl⟩ (fun j δ ⟨_,_,_,e⟩=>by subst e;intro i hi;simp only[asb,aso,as7]at hi;rcases hi with rfl|rfl<;>exact ar8 rfl) ?turn ?fin
 case turn=>
   rintro j d δ hj ⟨o2,o5,o6,rfl⟩;rw[asi]at hj;obtain⟨q,hq,rfl⟩:=asF.mp hj;have hql:q<ch.length:=as4.mp (asu hq);have hqj:q=j:=by
     have:=(asl.mp hq);obtain⟨h1,h2⟩:=this;rw[List.getElem_range]at h2;exact h2.symm
   subst hqj;rw[K1]at hql;refine⟨[.int (q:Nat),.int (F.idxOf q:Nat)],by rw[ko q hql];rfl,?_⟩;obtain⟨f1,f2⟩:=CP hN hql;show cQ X CL b _ [some (.sh (eX bs (hs.map .str) (bg.map It.d) pr (fW R))),some (.lst (((fu F).map .int).map T.sh)),some (.sh (.int (F.idxOf q:Nat))),some (.sh (.lst ((fu ch).map .int))),some (.dct (cy (fW (tF R hs F (q*hs.length))))),some (.sh (.int (q:Nat))),o6,none] _;refine lT E.g E.f9 (fun t δ=>∃(o6:DO),δ=[some (.sh (eX bs (hs.map .str) (bg.map It.d) pr (fW R))),some (.lst (((fu F).map .int).map T.sh)),some (.sh (.int (F.idxOf q:Nat))),some (.sh (.lst ((fu ch).map .int))),some (.dct (cy (fW (tF R hs F (q*hs.length+t))))),some (.sh (.int (q:Nat))),o6,none]) (g7 (iJ E.aY E.cu (v_ E.bC.1) jE)) ⟨_,rfl⟩ (fun j δ ⟨_,e⟩=>by subst e;exact ar8 rfl) ?C5 ?fin2
   case fin2=>
     rintro δ ⟨o6,rfl⟩;rw[ar3,show q*hs.length+hs.length=(q+1)*hs.length by rw[Nat.add_mul,Nat.one_mul]];exact aA ⟨_,_,_,rfl⟩
   case C5=>
   rintro t d δ hj2 ⟨o6,rfl⟩;rw[asi]at hj2;obtain⟨x,hx,rfl⟩:=asF.mp hj2;have hxm:=asu hx;have htl:t<hs.length:=(asl.mp hx).1;have ex:hs.getD t Str.empty=x:=by rw[asj,hx];rfl
   obtain⟨q1,q2,q3⟩:=ht.row (i:=F.idxOf q) We hxm;have R4:=ab9 R F nd (j:=q) htl;rw[ex]at R4;refine Hg (kvs:=cy (fW (tF R hs F (q*hs.length+t)))) (xO q x) E.u E.aN.1 (aF (c_ (qa R (F.idxOf q) x,F,n) E.Eu E.pC (ah (au (xB (xO (F.idxOf q) x) E.u (iJ E.aY E.cH (v_ E.bC.1) nq) (aF (kD (aL (v_ E.ji.1) (aL (v_ E.f9.1) bK)) aG) (t2:=jD (xO (F.idxOf q) x)) rfl) (BE q1))) (ah (vL E.bZ.1) aH)) ⟨q2,q3,hl⟩ (bJ (agQ q3))) (t2:=.lst (((Ls F (qa R (F.idxOf q) x)).map AI).map T.sh)) rfl) (aF (kD (aL (v_ E.mD.1) (aL (v_ E.f9.1) bK)) aG) (t2:=jD (xO q x)) rfl) rfl (by rw[qY,xP];exact R4) ?z (aA ⟨some (.sh (.str x)),?e⟩)
   case z=>
     unfold cy fW tF;rw[ar3,ar3,ar3,asz];have:q*hs.length<=100*3:=Nat.mul_le_mul We hH;omega
   case e=>
     show _=[_,_,_,_,some (T.dct (cy (fW (tF R hs F (q*hs.length+t+1))))),_,_,_];rw[XC R hs F htl,ex];unfold fW cy;rw[asn,asn];rfl
 case fin=>
   rintro δ ⟨o2,o5,o6,rfl⟩;rw[ar3,asz,K1];refine sS (p:=fun _=>true) (gg:=fun d=>T.sh (pr.getD d.vZ.toNat .non)) E.g E.rC (cg (.cons E.bC.1 (.inl E.oQ) .nil) Wl) (g7 (v_ E.Di.1)) (.inr rfl) (fun C s0 H0 f0 b' d hd=>?ahe) (by rw[ar3,kU,K1,asD];omega) ?Yi (by exact ar8 rfl) (lA ⟨_,rfl⟩)
   case ahe=>
     rw[hci]at hd;obtain⟨c,hc,rfl⟩:=asq.mp hd;have hcn:c<pr.length:=by
       rw[Lf]at hc;obtain⟨k,hk,rfl⟩:=asq.mp hc;have:=(CP hN (as4.mp hk)).1;omega
     refine⟨rfl,fun _=>sL (iJ E.aY E.f7 (v_ (WO 1)) tu) (je 0) ?_⟩;refine gJ (j:=c) ?_;rw[ar6 hcn];show some pr[c]=some (pr.getD (c:Int).toNat .non);rw[asT,asj,ar6 hcn];rfl
   case Yi=>
   have ep:(((fu ch).map D.int).filter fun _=>true).map (fun d=>T.sh (pr.getD d.vZ.toNat .non))=(XA pr F).map T.sh:=by
     rw[iH,hci,Lf];unfold XA;simp only[asC];refine atk fun c _=>?_;show T.sh (pr.getD ((F.idxOf c:Nat):Int).toNat .non)=T.sh (pr.getD (F.idxOf c) .non);rw[asT]
   rw[ep];exact bA (aF (mk_ (bs,hs.map .str,(bg.filter It.told).map It.d,XA pr F,fW (tF R hs F (cn F*hs.length)),true) E.Ir E.Iq
     (ah (ja E.aY E.bU (aO E.bC) sY) (ah (ja E.aY E.cu (aO E.bC) jE) (ah (cD (aF (c_ bg E.De E.NC (ah (ja E.aY E.f6 (aO E.bC) sZ) aH) gl (bJ (cZ _))) (t2:=.lst (((bg.filter It.told).map It.d).map T.sh)) rfl)) (ah (vL E.rC.1) (ah (vE E.aN.1 rfl (by rw[T.bG,uF])) aH)))))
     ⟨cZ _,ib,dX _,HG ip F,nu tl,by rw[xP];exact tl.c,by unfold fW;rw[ar3];exact tl.d⟩ (qX ib (dX _) (cZ _) (HG ip F) (nu tl))) (t2:=.ins "Table" (xJ bs (hs.map .str) ((bg.filter It.told).map It.d) (XA pr F) (fW (tF R hs F (cn F*hs.length))))) rfl) rfl
def cJ:RT (av yi) ([("table",.cell),("found",.cell),("number",cT),("chosen",cT),("rows",cT),("place",cT),("sign",cT),("flats",cT),("classes",bW),("range",bW),("len",bW),("enumerate",bW),("merged_rows",bW),("Table",bW),("told",bW)])=true:=by decide +kernel
def Tw:d7 KY ["table"] (av yi):=lZ
abbrev zN:=top 51
abbrev zO:=At
abbrev Gf:Ap:=["rows"]
def jF:zO->At:=fun ds=>[.lst ds]
def jG:zO->Prop:=fun ds=>ds.length<=100000/\∀d∈ds,Ep d
def jH:zO->T:=fun ds=>(.lst ((ds.filter tD).map T.sh):T)
structure Tz(X:Cx)(CL:BC):Prop extends cj X where
 aN:Ln X 0 "rows"
def TF{b:Bx}(E:Tz X CL) :
   qT X CL b zN Gf jF jG jH:=by
 intro ds h;dsimp only [jG,jF,jH]at h ⊢;obtain⟨h1,h2⟩:=h;refine bA (aF (lY (p:=tD) (g:=fun d=>T.sh d) (cg .nil Wl) E.g.calm (g7 (v_ E.aN.1)) (.inr rfl) (fun C s0 H0 f0 b' d hd=>?JF) (by rw[asD];omega)) rfl) rfl;obtain⟨w,r,rfl,_⟩:=h2 d hd;exact⟨(Py (l:=cN) (bV (je 0) ai Hs) (au (aM (ds:=cN.map .str) (xu (l:=cN) rfl) aG)) rfl rfl).1,fun _=>v_ (MK 0)⟩
def Dj:FG Gf ["rows"] [] (av zN):=fG
def gD(l:List (Nat×AT×At)):At:=l.map fun q=>.tup [.int (q.1:Nat),.lst (q.2.1.map .int),.lst q.2.2]
def gO(r:At)(l:List (Nat×AT×At)):At:=r++l.flatMap (·.2.2)
abbrev nJ:=inClass (top 30) 6
abbrev nK:=D×D×(List (Nat×AT×At))×AT×At
abbrev tW:Ap:=["self","rows","step"]
def iR:nK->At:=fun(cd,pl,l,bs,r)=>[.ins "FlatRun" (jJ cd pl (gD l) bs (yP (some r)))]
def iS:nK->Prop:=fun(cd,pl,l,bs,r)=>D.aT r=true/\r.length<=1000/\l.length<=1000/\∀q∈l,q.2.2.length<=200/\D.aT q.2.2=true
def iU:nK->T:=fun(cd,pl,l,bs,r)=>(.lst ((gO r l).map T.sh):T)
structure Dl(X:Cx)(CL:BC):Prop extends cj X where
 bD:Ln X 0 "self"
 aN:Ln X 1 "rows"
 gf:Ln X 2 "step"
 dR:Gl X "list"
 dS:X.mg "list" = none
 aE:kO X.K (CL "FlatRun")
 ck:aI X.K (CL "FlatRun") "past"
 iM:aI X.K (CL "FlatRun") "first_rows"
def Dm{b:Bx}(E:Dl X CL) :
   qT X CL b nJ tW iR iS iU:=by
 rintro⟨cd,pl,l,bs,r⟩ h;dsimp only [iS,iR,iU]at h ⊢;obtain⟨hr,hrl,hl,hq⟩:=h;refine aK E.g E.aN (sN E.dS (iJ E.aE E.iM (v_ E.bD.1) S7) E.dR cz) ?_;have hlen:∀j,(gO r (l.take j)).length<=r.length+200*j:=fun j=>by
   unfold gO;rw[asa];have:∀l:List (Nat×AT×At),(∀q∈l,q.2.2.length<=200)->(l.flatMap (·.2.2)).length<=200*l.length:=by
     intro l
     induction l with
     | nil=>intro _;exact asU _
     | cons q l ih=>
       intro h;rw[auI,asa,asN];have h1:=h q ar4;have h2:=ih fun p hp=>h p (ar9 _ hp);omega
   have h1:=this (l.take j) fun q hm=>(hq q (atp hm)).1;have h2:(l.take j).length<=j:=by rw[asK];omega
   omega
 refine lT E.g E.gf (fun j δ=>∃o,δ=[some (.sh (.ins "FlatRun" (jJ cd pl (gD l) bs (yP (some r))))),some (.lst ((gO r (l.take j)).map T.sh)),o])
   (g7 (iJ E.aE E.ck (v_ E.bD.1) xS)) ⟨none,by rw[List.take_zero];unfold gO;rw[List.flatMap_nil,asx];rfl⟩ (fun j δ ⟨_,e⟩=>by subst e;exact ar8 rfl) ?turn ?fin
 case turn=>
   rintro j d δ hj ⟨o,rfl⟩;unfold gD at hj;obtain⟨q,rfl,_,hqm,Se,_,htk⟩:=aga hj;obtain⟨q1,q2⟩:=hq q hqm;have hjn:=hlen j;refine aa6 (kT E.aN.1 rfl) rfl rfl (bV (aO E.gf) ai Sy) q2 rfl rfl (by rw[ar3];omega) (aA ⟨some (.sh (.tup [.int (q.1:Nat),.lst (q.2.1.map .int),.lst q.2.2])),?_⟩);rw[htk];unfold gO;rw[auV,auI,List.flatMap_nil,asx,← ar7,asn (l₂:=q.2.2)];rfl
 case fin=>
   rintro δ ⟨o,rfl⟩;have e:(gD l).length=l.length:=ar3 ..;rw[e,ate];exact bA (vM E.aN.1) rfl
def fD:FG tW ["self"] ["list"] (av nJ):=fG
abbrev rM:=inClass (top 30) 5
abbrev rN:=D×D×At×AT×Cn
abbrev yj:Ap:=["self"]
def iN:rN->At:=fun(cd,pl,pa,bs,ex)=>[.ins "FlatRun" (jJ cd pl pa bs ex)]
def iO:rN->Prop:=fun(cd,pl,pa,bs,ex)=>True
def iP:rN->T:=fun(cd,pl,pa,bs,ex)=>(.sh (.int ((pa.length:Nat):Int)):T)
structure Iv(X:Cx)(CL:BC):Prop extends cj X where
 bD:Ln X 0 "self"
 dg:Gl X "len"
 dh:X.mg "len" = none
 aE:kO X.K (CL "FlatRun")
 ck:aI X.K (CL "FlatRun") "past"
def Iw{b:Bx}(E:Iv X CL) :
   qT X CL b rM yj iN iO iP:=by
 rintro⟨cd,pl,pa,bs,ex⟩ h;dsimp only [iO,iN,iP]at h ⊢;exact bA (Bj E.dh (ja E.aE E.ck (aO E.bD) xS) E.dg) rfl
def kY:FG yj ["self"] ["len"] (av rM):=fG
abbrev kJ:=inClass (top 30) 7
abbrev kK:=D×D×At×AT×Cn
abbrev qy:Ap:=["self"]
def fc:kK->At:=fun(cd,pl,pa,bs,ex)=>[.ins "FlatRun" (jJ cd pl pa bs ex)]
def fh:kK->Prop:=fun(cd,pl,pa,bs,ex)=>True
def fj:kK->T:=fun(cd,pl,pa,bs,ex)=>(.lst ((bs.map .int).map T.sh):T)
structure zP(X:Cx)(CL:BC):Prop extends cj X where
 bD:Ln X 0 "self"
 dR:Gl X "list"
 dS:X.mg "list" = none
 aE:kO X.K (CL "FlatRun")
 aY:kO X.K (CL "Table")
 bU:aI X.K (CL "Table") "boxes"
 aU:aI X.K (CL "FlatRun") "boxes"
def zQ{b:Bx}(E:zP X CL) :
   qT X CL b kJ qy fc fh fj:=by
 rintro⟨cd,pl,pa,bs,ex⟩ h;dsimp only [fh,fc,fj]at h ⊢;exact bA (sN E.dS (iJ E.aE E.aU (v_ E.bD.1) zB) E.dR cz) rfl
def iz:FG qy ["self"] ["list"] (av kJ):=fG
def TH(l:List wo):T.eU (dJ l)=gD l:=by
 unfold dJ gD
 induction l with
 | nil=>rw[at6,at6,T.eU]
 | cons q l ih=>rw[asA,asA,T.eU,ih,T.bG,T.eU,T.eU,T.eU,T.eU,T.bG,T.bG,fM]
def nL{l:List wo}:T.bG (.ins "FlatRun" (cB cd pl (dJ l) bs (oF eo)))=.ins "FlatRun" (jJ cd pl (gD l) bs (yP eo)):=by rw[KL,TH]
structure Lv(r:At)(l:List wo):Prop where
 b:r.length<=1000
 c:∀d∈r,Ep d
 q:∀q∈l,q.2.2.length<=200/\∀d∈q.2.2,Ep d
variable{r:At}{l:List wo}
theorem Lv.w(h:Lv r l):∀d∈gO r l,Ep d:=fun d hd=>by
 rcases asf.mp hd with z|z
 . exact h.c d z
 . obtain⟨q,hq,z⟩:=List.mem_flatMap.mp z;exact(h.q q hq).2 d z
theorem Lv.kB(h:Lv r l):D.aT (gO r l)=true:=tG h.w
theorem Lv.dep(h:Lv r l):kQ 60 (.lst (gO r l)):=xU h.w
theorem Lv.len(h:Lv r l)(hl:l.length<=100):(gO r l).length<=100000:=by
 unfold gO;rw[asa];have:∀l:List wo,(∀q∈l,q.2.2.length<=200)->(l.flatMap (·.2.2)).length<=200*l.length:=by
   intro l
   induction l with
   | nil=>intro _;exact asU _
   | cons q l ih=>
     intro h;rw[auI,asa,asN];have h1:=h q ar4;have h2:=ih fun p hp=>h p (ar9 _ hp);omega
 exact asV (Nat.add_le_add h.b (this l fun q hq=>(h.q q hq).1)) We
theorem Lv.pre(h:Lv r l)(hl:l.length<=1000):D.aT r=true/\r.length<=1000/\l.length<=1000/\∀q∈l,q.2.2.length<=200/\D.aT q.2.2=true:=⟨tG h.c,h.b,hl,fun q hq=>⟨(h.q q hq).1,tG (h.q q hq).2⟩⟩
def zR(bs:AT):kQ 60 (.lst (bs.map .int)):=.lst fun d hd=>by
 obtain⟨i,_,rfl⟩:=asq.mp hd;exact .int _ _
abbrev Iz:=top 53
abbrev IA:=D×D×D×D×List wo×List wo×AT×At×At
abbrev QK:Ap:=["one","other"]
def uY:IA->At:=fun(cd,pl,cd2,pl2,l,l2,bs,r,r2)=>[.ins "FlatRun" (jJ cd pl (gD l) bs (yP (some r))),.ins "FlatRun" (jJ cd2 pl2 (gD l2) bs (yP (some r2)))]
def uZ:IA->Prop:=fun(cd,pl,cd2,pl2,l,l2,bs,r,r2)=>l2.length=l.length/\gO r2 l2=(gO r l).filter tD/\Lv r l/\Lv r2 l2/\l.length<=63
def u9:IA->T:=fun(cd,pl,cd2,pl2,l,l2,bs,r,r2)=>(.sh (.bl true):T)
structure acF(X:Cx)(CL:BC):Prop extends cj X where
 lV:Ln X 0 "one"
 gk:Ln X 1 "other"
 jI:Gl X "_law_told"
 mV:Fc X CL "_law_told" 1 1 jF jG jH
 tX:Fq X CL "FlatRun" "story" 1 1 iR iS iU
 jR:Fq X CL "FlatRun" "fed" 1 1 iN iO iP
 gE:Fq X CL "FlatRun" "numbers" 1 1 fc fh fj
def acG{b:Bx}(E:acF X CL) :
   qT X CL b Iz QK uY uZ u9:=by
 rintro⟨cd,pl,cd2,pl2,l,l2,bs,r,r2⟩ h;dsimp only [uZ,uY,u9]at h ⊢;obtain⟨hl,he,g1,g2,h63⟩:=h;have no:∀{cd pl:D} {pa:At} {r:At},(jJ cd pl pa bs (yP (some r))).lookup ("fed":Str)=none/\(jJ cd pl pa bs (yP (some r))).lookup ("numbers":Str)=none/\(jJ cd pl pa bs (yP (some r))).lookup ("story":Str)=none:=fun {cd pl pa r}=>⟨wk Wl Wl Wl Wl Wl,wk Wl Wl Wl Wl Wl,wk Wl Wl Wl Wl Wl⟩;have e0:(gD l2).length=(gD l).length:=by unfold gD;rw[ar3,ar3,hl]
 refine g8 (J1 (FH (v5 E.u (d1:=.int (gD l).length) (d2:=.int (gD l2).length) (au (aF (ZN (cd,pl,gD l,bs,yP (some r)) E.jR (aO E.lV) no.1 rfl trivial rfl) rfl)) (au (aF (ZN (cd2,pl2,gD l2,bs,yP (some r2)) E.jR (aO E.gk) no.1 rfl trivial rfl) rfl)) (.int _ _) (.int _ _)).1 (fun _=>Ca (v5 E.u (d1:=.lst (bs.map .int)) (d2:=.lst (bs.map .int)) (cD (aF (ZN (cd,pl,gD l,bs,yP (some r)) E.gE (aO E.lV) no.2.1 rfl trivial (nj _)) rfl)) (cD (aF (ZN (cd2,pl2,gD l2,bs,yP (some r2)) E.gE (aO E.gk) no.2.1 rfl trivial (nj _)) rfl)) (zR _) (zR _)).1))) (fun hp=>absurd hp (by rw[e0,iI (show kQ 60 _ from .int _ _),iI (zR _)];decide)) (fun _=>aA ?_);have i1:=g1.kB;refine bA (aF (Ml E.u (d1:=.lst ((gO r l).filter tD)) (d2:=.lst (gO r2 l2)) (cD (aF (c_ (gO r l) E.mV E.jI (ah (cD (aF (ZN (cd,pl,l,bs,r) E.tX (aO E.lV) no.2.2 rfl (g1.pre We) (bJ i1)) rfl)) aH) ⟨g1.len We,g1.w⟩ (bJ (tG fun d hd=>g1.w d (ata.mp hd).1))) rfl)) (cD (aF (ZN (cd2,pl2,l2,bs,r2) E.tX (aO E.gk) no.2.2 rfl (g2.pre We) (bJ g2.kB)) rfl)) (by rw[← he];exact g2.dep) g2.dep).2 (t2:=.sh (.bl true)) (by rw[← he,iI g2.dep])) rfl
def yk:FG QK ["one","other"] ["_law_told"] (av Iz):=fG
abbrev kZ:=inClass (top 30) 4
abbrev k6:=Addr×D×D×List wo×wo×AT×Dx
abbrev pD:Ap:=["self","last"]
def gQ:k6->Bn:=fun(y,cd,pl,l,q,bs,eo)=>[.pin y (.ins "FlatRun" (cB cd pl (dJ (l++[q])) bs (oF eo)))]
def fE:k6->Bn:=fun(y,cd,pl,l,q,bs,eo)=>[.pin y (.ins "FlatRun" (cB cd (.int (q.1:Nat)) (dJ l) q.2.1 (oF eo)))]
def jv:k6->Prop:=fun(y,cd,pl,l,q,bs,eo)=>l.length<=1000
def gR:k6->T:=fun(y,cd,pl,l,q,bs,eo)=>(.lst (q.2.2.map T.sh):T)
structure vG(X:Cx)(CL:BC):Prop extends cj X where
 bD:Ln X 0 "self"
 IB:Ln X 1 "last"
 dg:Gl X "len"
 Dn:Gl X "NoStep"
 dh:X.mg "len" = none
 zS:X.mg "NoStep" = some (.ref (CL "NoStep"))
 Gg:Cu X.K (CL "NoStep")
 aE:kO X.K (CL "FlatRun")
 aY:kO X.K (CL "Table")
 bQ:aI X.K (CL "FlatRun") "place"
 bU:aI X.K (CL "Table") "boxes"
 aU:aI X.K (CL "FlatRun") "boxes"
 ck:aI X.K (CL "FlatRun") "past"
def Ew{b:Bx}(E:vG X CL)(y cd pl l q bs eo)(h:jv (y,cd,pl,l,q,bs,eo)) :
   cQ X CL b (dF kZ) (v9 pD (gQ (y,cd,pl,l,q,bs,eo))) {nx:=fun δ=>gR (y,cd,pl,l,q,bs,eo)=.sh .non/\Keeps δ (fE (y,cd,pl,l,q,bs,eo)),rt:=fun zk δ=>zk=gR (y,cd,pl,l,q,bs,eo)/\Keeps δ (fE (y,cd,pl,l,q,bs,eo))}:=by
 dsimp only [jv,gQ,gR,fE]at h ⊢;have hl:l.length<=1000:=h;have hpl:(dJ (l++[q])).length=l.length+1:=by unfold dJ;rw[ar3,asa];rfl
 have hfl:(T.eU (dJ (l++[q]))).length=l.length+1:=by rw[JZ];exact hpl
 refine g8 (gA (au (d8 hfl E.dh (ja E.aE E.ck (vE E.bD.1 rfl zC) xS) E.dg)) ai).1 (fun hp=>absurd (asB hp) We) (fun _=>aA ?_);refine G8 E.g E.IB (aa7 (p:=[.fld "past"]) (tl:=dJ l) (t:=.tup [.sh (.int (q.1:Nat)),.sh (.lst (q.2.1.map .int)),.lst (q.2.2.map T.sh)]) (Cw E.aE E.ck (kT E.bD.1 rfl) rfl rfl mS) rfl (by rw[zE,C2])) ?_;rw[C1];refine qh E.aE E.bQ E.bD.1 (Bq (p:=[.ix 0]) (MC (j:=0) (kT E.IB.1 rfl) rfl rfl ai rfl) rfl rfl) rfl (xT _ _ _ _ _) ?_;rw[CY];refine qh E.aE E.aU E.bD.1 (Bq (p:=[.ix 1]) (MC (j:=1) (kT E.IB.1 rfl) rfl rfl ai rfl) rfl rfl) rfl (xT _ _ _ _ _) ?_;rw[CZ];exact bA (aa5 (p:=[.ix 2]) (MC (j:=2) (kT E.IB.1 rfl) rfl rfl ai rfl) rfl rfl) ⟨rfl,wc (ds:=[])⟩
abbrev lN:Type:=D×D×AT×Cn
def iA:lN->At:=fun(cd,pl,bs,ex)=>[.ins "FlatRun" (jJ cd pl [] bs ex)]
def iB:lN->Prop:=fun(cd,pl,bs,ex)=>True
def iC:lN->Str:=fun(cd,pl,bs,ex)=>"NoStep"
def Dp{b:Bx}{W:XK}(E:vG (X.wish (XE X W)) CL)(cd pl bs ex)(h:iB (cd,pl,bs,ex))(hE:Bo b W (CL (iC (cd,pl,bs,ex)))) :
   cQ (X.wish (XE X W)) CL b (dF kZ) (entry pD (iA (cd,pl,bs,ex))) {nx:=fun _=>False,rt:=fun _ _=>False}:=by
 dsimp only [iB,iA,iC]at h hE ⊢;refine g8 (gA (i:=0) (au (aF (d8 (ds:=[]) (n:=0) rfl E.dh (ja E.aE E.ck (aO E.bD) xS) E.dg) (t2:=.sh (.int 0)) rfl)) ai).1 (fun _=>?_) (fun hp=>absurd hp Wp);exact aa1 (X:=X) E.g.calm E.Dn E.zS E.Gg hE
def bR:FG pD ["self"] ["len","NoStep"] (av kZ):=fG
def bkP(pl:D)(l:List wo):D:=match l.getLast? with|none=>pl|some q=>.int (q.1:Nat)
def bkB(bs:AT)(l:List wo):AT:=match l.getLast? with|none=>bs|some q=>q.2.1
def bkR(l:List wo):At:=match l.getLast? with|none=>[]|some q=>q.2.2
def IC(pl:D)(bs:AT)(l:List wo)(q:wo):bkP pl (l++[q])=.int (q.1:Nat)/\bkB bs (l++[q])=q.2.1/\bkR (l++[q])=q.2.2/\(l++[q]).dropLast=l/\(l++[q]).isEmpty=false:=by
 unfold bkP bkB bkR;rw[List.getLast?_append];exact⟨rfl,rfl,rfl,Uf,Uf⟩
abbrev NF:=top 52
abbrev IE:=Addr×D×D×List wo×AT×At
abbrev Ys:Ap:=["run","found","refused"]
def tY:IE->Bn:=fun(y,cd,pl,l,bs,r)=>[.pin y (.ins "FlatRun" (cB cd pl (dJ l) bs (oF (some r))))]
def qz:IE->Bn:=fun(y,cd,pl,l,bs,r)=>[.pin y (.ins "FlatRun" (cB cd (bkP pl l) (dJ l.dropLast) (bkB bs l) (oF (some r))))]
def ym:IE->Prop:=fun(y,cd,pl,l,bs,r)=>l.length<=1000/\∀q∈l,q.2.2.length<=200/\∀d∈q.2.2,Ep d
def tZ:IE->T:=fun(y,cd,pl,l,bs,r)=>(.tup [.sh (.bl l.isEmpty),.lst (((bkR l).filter tD).map T.sh)]:T)
structure ahq(X:Cx)(CL:BC):Prop extends cj X where
 aey:Ln X 0 "run"
 bZ:Ln X 1 "found"
 vd:Ln X 2 "refused"
 Dn:Gl X "NoStep"
 jI:Gl X "_law_told"
 zS:X.mg "NoStep" = some (.ref (CL "NoStep"))
 Gg:Cu X.K (CL "NoStep")
 mV:Fc X CL "_law_told" 1 1 jF jG jH
 Dq:FqR X CL "FlatRun" "back" 1 1 iA iB iC
 Ex:FqM X CL "FlatRun" "back" 1 1 gQ jv gR fE
 st:X.stack=X.env::X.outer
 fm:X.env.frame=some X.env.locals
 nx:X.xe=fun _ _=>False
 zT:exmOne X.K (.ref (CL "NoStep")) (.ref (CL "NoStep"))=some true
def ahr{b:Bx}(E:ahq X CL)(y cd pl l bs r)(h:ym (y,cd,pl,l,bs,r)) :
   cQ X CL b (dF NF) (v9 Ys (tY (y,cd,pl,l,bs,r))) {nx:=fun δ=>tZ (y,cd,pl,l,bs,r)=.sh .non/\Keeps δ (qz (y,cd,pl,l,bs,r)),rt:=fun zk δ=>zk=tZ (y,cd,pl,l,bs,r)/\Keeps δ (qz (y,cd,pl,l,bs,r))}:=by
 dsimp only [ym,tY,tZ,qz]at h ⊢;obtain⟨h1,h2⟩:=h;refine aK E.g E.bZ (i9 (tl:=[]) bK aG) ?_;refine aK E.g E.vd FD ?_;rcases List.eq_nil_or_concat l with rfl|⟨l0,q,rfl⟩
 . refine agh (c:="NoStep") (δ1:=[some (.pin y (.ins "FlatRun" (cB cd pl (dJ []) bs (oF (some r))))),some (.lst []),some (.sh (.bl false))]) E.st E.fm E.nx (fun p=>aj1 (X:=X.pinned p) E.g.nd E.bZ.pin (abk (X:=X.pinned p) (cd,pl,bs,yP (some r)) E.nx E.Dq.pin (vE E.aey.1.pin rfl (by rw[T.bG,nL];rfl)) (wk Wl Wl Wl Wl Wl) rfl trivial)) (.hit E.Dn E.zS E.zT Wp) fun e=>?_;refine agj E.g.nd E.vd.hand FD (aA ?_);exact bA (kD (aL (v_ E.vd.1) (aL (aF (c_ [] E.mV E.jI (ah (vL (ds:=[]) E.bZ.1) aH) ⟨asU _,fun d hd=>by cases hd⟩ rfl) rfl) bK)) aG) ⟨rfl,wc (ds:=[])⟩
 . rw[List.concat_eq_append]at h1 h2 ⊢;obtain⟨k1,k2,k3,k4,k5⟩:=IC pl bs l0 q;rw[k1,k2,k3,k4,k5];obtain⟨q1,q3⟩:=h2 q Uf;rw[asa,aun]at h1;refine agi E.nx (G8 E.g E.bZ (qM0 (fun z=>(z,cd,pl,l0,q,bs,some r)) (.pin y (.ins "FlatRun" (cB cd (.int (q.1:Nat)) (dJ l0) q.2.1 (oF (some r))))) E.Ex E.aey.1 (.pin rfl) (fun z _=>by show l0.length<=1000;omega) (t:=.lst (q.2.2.map T.sh)) (fun z _=>rfl) (fun z hz=>by subst hz;exact⟨rfl,.inr rfl,trivial⟩) (BG Wl Wl Wl Wl Wl) (fun z hz=>by subst hz;rfl)) (aA ?_));exact bA (kD (aL (v_ E.vd.1) (aL (aF (c_ q.2.2 E.mV E.jI (ah (vL E.bZ.1) aH) ⟨We,q3⟩ (bJ (tG fun d hd=>q3 d (ata.mp hd).1))) rfl) bK)) aG) ⟨rfl,wc (ds:=[])⟩
def rO:FG Ys ["run"] ["NoStep","_law_told"] (av NF):=fG
abbrev Dr:=top 50
abbrev Ds:=Da×Ap×Cc×At×(List (bT×List R7))
abbrev K2:Ap:=["table","parts"]
def rP:Ds->At:=fun(bs,hs,bg,pr,R)=>[eX (bs.map gI) (hs.map .str) (bg.map It.d) pr (fW R),pd7 bs hs bg pr R]
def rQ:Ds->Prop:=fun(bs,hs,bg,pr,R)=>M5 bs hs bg pr R
def rR:Ds->T:=fun(bs,hs,bg,pr,R)=>(.sh (.bl true):T)
structure Yt(X:Cx)(CL:BC):Prop extends cj X where
 bC:Ln X 0 "table"
 eL:Ln X 1 "parts"
 aE:kO X.K (CL "FlatRun")
 aY:kO X.K (CL "Table")
 bU:aI X.K (CL "Table") "boxes"
 aU:aI X.K (CL "FlatRun") "boxes"
 cu:aI X.K (CL "Table") "signs"
 f6:aI X.K (CL "Table") "begin"
 f7:aI X.K (CL "Table") "flats"
 cH:aI X.K (CL "Table") "rows"
def Yu{b:Bx}(E:Yt X CL) :
   qT X CL b Dr K2 rP rQ rR:=by
 rintro⟨bs,hs,bg,pr,R⟩ h;dsimp only [rQ,rP,rR]at h ⊢;have h:M5 bs hs bg pr R:=h;show cQ X CL b _ [some (.sh (eX (bs.map gI) (hs.map .str) (bg.map It.d) pr (fW R))),some (.sh (.lst [.lst (bs.map gI),.lst (hs.map .str),.tup (bg.map It.d),.lst pr,.dct (iK (fW R))]))] _;refine g8 (J1 (FH (v5 E.u (ja E.aY E.bU (aO E.bC) sY) (cY (aO E.eL) ai Hs) h.d0 h.d0).1 (fun _=>FH (v5 E.u (ja E.aY E.cu (aO E.bC) jE) (cY (aO E.eL) ai CB) h.d1 h.d1).1 (fun _=>Ca (v5 E.u (ja E.aY E.f6 (aO E.bC) sZ) (cY (aO E.eL) ai Sy) h.d2 h.d2).1)))) (fun hp=>absurd hp (akp h.d0 h.d1 h.d2)) (fun _=>aA ?_);exact bA (aF (Vr (Ml E.u (ja E.aY E.f7 (aO E.bC) tu) (cY (aO E.eL) ai akf) h.d3 h.d3).2 (fun _=>Vq (abj E.u (ja E.aY E.cH (aO E.bC) nq) (cY (aO E.eL) ai (gJ (j:=4) rfl)) h.d4).2)) (t2:=.sh (.bl true)) (by rw[iI h.d3];rfl)) rfl
def zU:FG K2 ["table","parts"] [] (av Dr):=fG
abbrev IG:=top 2
abbrev II:=Int×Int×AT
abbrev QL:Ap:=["term","boxes","box","more"]
def qA:II->At:=fun(bx,mo,bs)=>[.tup [.int bx,.int mo],.lst (bs.map .int)]
def qB:II->Prop:=fun(bx,mo,bs)=>bx=-1\/(0<=bx/\bx<bs.length)
def qC:II->T:=fun(bx,mo,bs)=>(.sh (.int (fZ bx mo bs)):T)
structure acI(X:Cx)(CL:BC):Prop extends cj X where
 IJ:Ln X 0 "term"
 bN:Ln X 1 "boxes"
 Yv:Ln X 2 "box"
 NK:Ln X 3 "more"
def acJ{b:Bx}(E:acI X CL) :
   qT X CL b IG QL qA qB qC:=by
 rintro⟨bx,mo,bs⟩ h;dsimp only [qB,qA,qC]at h ⊢;refine aK E.g E.Yv (dI (bV (aO E.IJ) ai rfl) rfl) ?_;refine aK E.g E.NK (dI (bV (aO E.IJ) ai rfl) rfl) ?_;refine g8 (gA (aO E.Yv) (au (m8 ai))).1 (fun hp=>?_) (fun hp=>?_)
 . refine bA (v_ E.NK.1) ?_;have e:bx=-1:=asB hp;show T.sh _=T.sh (.int (fZ bx mo bs));rw[fZ,ass e]
 . refine aA ?_;have e:¬ bx=-1:=asJ hp;refine bA (bX (cY (aO E.bN) (aO E.Yv) (Mj We We)) (aO E.NK)) ?_;show T.sh _=T.sh (.int (fZ bx mo bs));rw[fZ,ash e]
def t6:FG QL ["term","boxes"] [] (av IG):=fG
abbrev pF:=top 14
abbrev pG:=J×Bool×AT
abbrev vH:Ap:=["row","place","boxes","behind"]
def jw:pG->At:=fun(r,back,bs)=>[r.d,.int (if back then 2 else 3),.lst (bs.map .int)]
def jx:pG->Prop:=fun(r,back,bs)=>∃o m,r.ok (o,m,bs)
def jy:pG->T:=fun(r,back,bs)=>(.lst (((CD back r bs).map .int).map T.sh):T)
structure Ey(X:Cx)(CL:BC):Prop extends cj X where
 iL:Ln X 0 "row"
 mD:Ln X 1 "place"
 bN:Ln X 2 "boxes"
 fV:Ln X 3 "behind"
 dR:Gl X "list"
 dS:X.mg "list" = none
def Ez{b:Bx}(E:Ey X CL) :
   qT X CL b pF vH jw jx jy:=by
 rintro⟨r,back,bs⟩ h;dsimp only [jx,jw,jy]at h ⊢;obtain⟨o,m,h⟩:=h;refine aK E.g E.fV (sN E.dS (v_ E.bN.1) E.dR cz) ?_;refine g8 (lK (bV (aO E.iL) ai (akj r)) fq).1 (fun hp=>?_) (fun hp=>aA ?_)
 . rw[show decide (r.w=Str.ofString "put")=r.WX from aki h]at hp;cases r with
   | put x p q=>
     have h:0<=x/\x<bs.length:=h;have hlen:((bs.map D.int).map T.sh).length=bs.length:=by simp
     have yO:ux [D.str "put",.int x,.int p,.int q] (if back then 2 else 3)=some (.int (if back then p else q)):=by cases back<;>rfl
     refine Pq E.fV.1 (dI (bV (aO E.iL) (aO E.mD) yO) rfl) (bV (aO E.iL) ai rfl) rfl (Mm h.1 (by rw[hlen];exact h.2)) (aA ?_);refine bA (vM E.fV.1) ?_;show T.lst _=T.lst _;rw[CD,au6,au6]
   | _=>cases hp
 . rw[show decide (r.w=Str.ofString "put")=r.WX from aki h]at hp;have e:CD back r bs=bs:=by cases r<;>first|rfl|cases hp
   refine bA (vM E.fV.1) ?_;show T.lst _=T.lst (((CD back r bs).map .int).map T.sh);rw[e]
def gF:FG vH ["row","place","boxes"] ["list"] (av pF):=fG
abbrev Dt:=top 13
abbrev Du:=J×AT
abbrev K3:Ap:=["row","boxes"]
def rS:Du->At:=fun(r,bs)=>[r.d,.lst (bs.map .int)]
def rT:Du->Prop:=fun(r,bs)=>∃o m,r.ok (o,m,bs)
def rV:Du->T:=fun(r,bs)=>(.lst (((CD false r bs).map .int).map T.sh):T)
structure Yw(X:Cx)(CL:BC):Prop extends cj X where
 iL:Ln X 0 "row"
 bN:Ln X 1 "boxes"
 pH:Gl X "with_number"
 acK:Gl X "AFTER"
 EA:Fc X CL "with_number" 1 3 jw jx jy
 acL:∃u,X.mg "AFTER" = some (.int 3 u)
def Yx{b:Bx}(E:Yw X CL) :
   qT X CL b Dt K3 rS rT rV:=by
 rintro⟨r,bs⟩ h;dsimp only [rT,rS,rV]at h ⊢;exact bA (c_ (r,false,bs) E.EA E.pH (ah (aO E.iL) (ah (au (J8 E.acL E.acK)) (ah (aO E.bN) aH))) h (nj _)) rfl
def qD:FG K3 ["row","boxes"] ["with_number","AFTER"] (av Dt):=fG
abbrev NP:=top 12
abbrev NQ:=fz×AT
abbrev Yy:Ap:=["deed","boxes","word","row"]
def yo:NQ->At:=fun(q,bs)=>[q.d,.lst (bs.map .int)]
def yp:NQ->Prop:=fun(q,bs)=>q.ok bs
def yq:NQ->T:=fun(q,bs)=>(.tup [.lst (((CD false (q.row bs) bs).map .int).map T.sh),.sh (q.row bs).d]:T)
structure ahs(X:Cx)(CL:BC):Prop extends cj X where
 g9:Ln X 0 "deed"
 bN:Ln X 1 "boxes"
 t7:Ln X 2 "word"
 iL:Ln X 3 "row"
 rW:Gl X "value"
 Dv:Gl X "redone"
 yr:Fc X CL "value" 1 2 qA qB qC
 Yz:Fc X CL "redone" 2 2 rS rT rV
def aht{b:Bx}(E:ahs X CL) :
   qT X CL b NP Yy yo yp yq:=by
 rintro⟨q,bs⟩ h;dsimp only [yp,yo,yq]at h ⊢;have K1:(T.lst (((CD false (q.row bs) bs).map D.int).map T.sh)).clean=true:=by
   rw[kF];exact sO _
 have fin:∀(w1:Str) (p1 p2 p3 p4 p5 p6 p7 p8:Pos) (n1:Nat),cQ X CL b [.Return (some (.Tuple [.Call (.Name "redone" p1) [.Name "row" p2,.Name "boxes" p3] [] p4,.Name "row" p5] n1 p6)) p7] [some (.sh q.d),some (.sh (.lst (bs.map .int))),some (.sh (.str w1)),some (.sh (q.row bs).d)] {nx:=fun _=>(T.tup [.lst (((CD false (q.row bs) bs).map .int).map T.sh),.sh (q.row bs).d])=.sh .non,rt:=fun t _=>t=.tup [.lst (((CD false (q.row bs) bs).map .int).map T.sh),.sh (q.row bs).d]}:=by
   intro w1 p1 p2 p3 p4 p5 p6 p7 p8 n1;exact bA (kD (aL (c_ (q.row bs,bs) E.Yz E.Dv (ah (aO E.iL) (ah (aO E.bN) aH)) (agC h) K1) (aL (v_ E.iL.1) bK)) aG) rfl
 cases q with
 | put x bb m=>
   have h:(0<=x/\x<bs.length)/\tOk bs bb:=h;refine aK E.g E.t7 (dI (bV (aO E.g9) ai rfl) rfl) ?_;refine g8 (lK (aO E.t7) fq).1 (fun hp=>?_) (fun hp=>absurd rfl (asJ hp));refine aK E.g E.iL (aM (ds:=[.str "put",.int x,.int (bs.getD x.toNat 0),.int (fZ bb m bs)]) (aL fY (aL (yU (v_ E.g9.1) ai rfl) (aL (dI (cY (aO E.bN) (bV (aO E.g9) ai rfl) (Mj h.1.1 h.1.2)) rfl) (aL (c_ (bb,m,bs) E.yr E.rW (ah (bV (aO E.g9) ai rfl) (ah (aO E.bN) aH)) h.2 rfl) bK)))) aG) (aA ?_);exact fin _ _ _ _ _ _ _ _ ⟨0,0,0,0⟩ _
 | call s=>
   refine aK E.g E.t7 (dI (bV (aO E.g9) ai rfl) rfl) ?_;refine g8 (lK (aO E.t7) fq).1 (fun hp=>absurd (show("call":Str)="put" from asB hp) Wl) (fun hp=>?_);refine g8 (lK (aO E.t7) fq).1 (fun hp=>absurd (show("call":Str)="say" from asB hp) Wl) (fun hp=>?_);refine aK E.g E.iL (aM (ds:=[.str "call",.str s]) (aL fY (aL (yU (v_ E.g9.1) ai rfl) bK)) aG) (aA (aA ?_));exact fin _ _ _ _ _ _ _ _ ⟨0,0,0,0⟩ _
 | say s bb m=>
   refine aK E.g E.t7 (dI (bV (aO E.g9) ai rfl) rfl) ?_;refine g8 (lK (aO E.t7) fq).1 (fun hp=>absurd (show("say":Str)="put" from asB hp) Wl) (fun hp=>?_);refine g8 (lK (aO E.t7) fq).1 (fun hp=>?_) (fun hp=>absurd rfl (asJ hp));refine aK E.g E.iL (aM (ds:=[.str "say",.str s,.int (fZ bb m bs)]) (aL fY (aL (yU (v_ E.g9.1) ai rfl) (aL (c_ (bb,m,bs) E.yr E.rW (ah (bV (aO E.g9) ai rfl) (ah (aO E.bN) aH)) h rfl) bK))) aG) (aA (aA ?_));exact fin _ _ _ _ _ _ _ _ ⟨0,0,0,0⟩ _
def rX:FG Yy ["deed","boxes"] ["value","redone"] (av NP):=fG
abbrev wB:=top 15
abbrev wC:=Bool×List fz×AT
abbrev Dw:Ap:=["deeds","boxes","behind","rows","called","deed","step"]
def mE:wC->At:=fun(l,qs,bs)=>[A6 l (qs.map fz.d),.lst (bs.map .int)]
def jS:wC->Prop:=fun(l,qs,bs)=>qs.length<=1000/\∀q∈qs,q.ok bs
def jT:wC->T:=fun(l,qs,bs)=>(.tup [.lst (((qs.foldl ZU bs).map .int).map T.sh),.lst (((qj qs bs).map J.d).map T.sh),.lst (((oZ qs).map .str).map T.sh)]:T)
structure NR(X:Cx)(CL:BC):Prop extends cj X where
 iw:Ln X 0 "deeds"
 bN:Ln X 1 "boxes"
 fV:Ln X 2 "behind"
 aN:Ln X 3 "rows"
 jU:Ln X 4 "called"
 g9:Ln X 5 "deed"
 gf:Ln X 6 "step"
 dR:Gl X "list"
 NS:Gl X "done"
 dS:X.mg "list" = none
 ahu:Fc X CL "done" 3 2 yo yp yq
def NT{b:Bx}(E:NR X CL) :
   qT X CL b wB Dw mE jS jT:=by
 rintro⟨l,qs,bs⟩ h;dsimp only [jS,mE,jT]at h ⊢;refine aK E.g E.fV (sN E.dS (v_ E.bN.1) E.dR cz) ?_;refine aK E.g E.aN (i9 (tl:=[]) bK aG) ?_;refine aK E.g E.jU (i9 (tl:=[]) bK aG) ?_;have hti:∀(p p':Pos) (o2 o3 o4 o5 o6:DO),Vv X CL b (.Name "deed" p) (.Name "deeds" p') [some (.sh (A6 l (qs.map fz.d))),some (.sh (.lst (bs.map .int))),o2,o3,o4,o5,o6] (qs.map fz.d) [some (.sh (A6 l (qs.map fz.d))),some (.sh (.lst (bs.map .int))),o2,o3,o4,o5,o6]:=by
   intro p p' o2 o3 o4 o5 o6;cases l
   . exact G3 (v_ E.iw.1)
   . exact g7 (v_ E.iw.1)
 refine lT E.g E.g9 (fun j δ=>∃o5 o6,δ=[some (.sh (A6 l (qs.map fz.d))),some (.sh (.lst (bs.map .int))),some (.lst ((((qs.take j).foldl ZU bs).map .int).map T.sh)),some (.lst (((qj (qs.take j) bs).map J.d).map T.sh)),some (.lst (((oZ (qs.take j)).map .str).map T.sh)),o5,o6]) (hti _ _ _ _ _ _ _) ⟨_,_,rfl⟩ (fun j δ ⟨_,_,e⟩=>by subst e;exact ar8 rfl) ?turn ?fin
 case turn=>
   rintro j d δ hj ⟨o5,o6,rfl⟩;rw[asi]at hj;obtain⟨q,hq,rfl⟩:=asF.mp hj;have hm:q∈qs:=asu hq;have hl:(qj (qs.take j) bs).length<=1000:=by rw[W2,asK];omega
   have hl':(oZ (qs.take j)).length<=1000:=asV (atF _ _) (by rw[asK];omega);have ec:oZ (qs.take (j+1))=oZ (qs.take j)++(FU q).toList:=by
     rw[kH hq];unfold oZ;rw[List.filterMap_append];cases q<;>rfl
   rw[kH hq,W0,List.foldl_append,← kH hq,ec];have K1:=WZ (qs.take j) bs;have cW:=PZ K1 q (h.2 q hm);generalize (qs.take j).foldl ZU bs=cur at K1 cW ⊢;generalize qj (qs.take j) bs=rs at hl ⊢;generalize oZ (qs.take j)=cs at hl' ⊢;refine aK E.g E.gf (c_ (q,cur) E.ahu E.NS (ah (aO E.g9) (ah (vL E.fV.1) aH)) cW (MN _ _ _)) ?_;refine aK E.g E.fV (kR (tt:=[.lst (((ZU cur q).map .int).map T.sh),.sh (q.row cur).d]) 0 E.gf.1 rfl rfl) ?_;refine vA E.aN.1 rfl (dI (d:=(q.row cur).d) (bV (vE (t:=.tup [.sh .any,.sh (q.row cur).d]) E.gf.1 rfl rfl) ai rfl) (Br cur q)) rfl (by simp;omega) ?_;have er:(rs.map J.d).map T.sh++[T.sh (q.row cur).d]=((rs++[q.row cur]).map J.d).map T.sh:=by rw[asn,asn];rfl
   rw[er];cases q with
   | put x bb m=>
     refine g8 (lK (bV (aO E.g9) ai rfl) fq).1 (fun hp=>absurd (show("put":Str)="call" from asB hp) Wl) (fun hp=>aA (aA ⟨some (.sh (fz.put x bb m).d),some (.tup [.sh .any,.sh ((fz.put x bb m).row cur).d]),?_⟩));rw[show(FU (fz.put x bb m)).toList=[] from rfl,asx];rfl
   | say s bb m=>
     refine g8 (lK (bV (aO E.g9) ai rfl) fq).1 (fun hp=>absurd (show("say":Str)="call" from asB hp) Wl) (fun hp=>aA (aA ⟨some (.sh (fz.say s bb m).d),some (.tup [.sh .any,.sh ((fz.say s bb m).row cur).d]),?_⟩));rw[show(FU (fz.say s bb m)).toList=[] from rfl,asx];rfl
   | call s=>
     refine g8 (lK (bV (aO E.g9) ai rfl) fq).1 (fun hp=>?_) (fun hp=>absurd rfl (asJ hp));refine vA E.jU.1 rfl (dI (bV (aO E.g9) ai rfl) rfl) rfl (by simp;omega) (aA (aA ⟨some (.sh (fz.call s).d),some (.tup [.sh .any,.sh ((fz.call s).row cur).d]),?_⟩));have es:(cs.map D.str).map T.sh++[T.sh (.str s)]=((cs++(FU (fz.call s)).toList).map D.str).map T.sh:=by rw[asn,asn];rfl
     rw[← es];rfl
 case fin=>
   rintro δ ⟨o5,o6,rfl⟩;rw[ar3,ate];exact bA (kD (aL (vM E.fV.1) (aL (vM E.aN.1) (aL (vM E.jU.1) bK))) aG) rfl
def eS:FG Dw ["deeds","boxes"] ["list","done"] (av wB):=fG
abbrev t8:=top 18
abbrev t9:=Bool×Cc×AT
abbrev AO:Ap:=["script","boxes","behind","rows","called","part","step"]
def jj:t9->At:=fun(l,xs,bs)=>[A6 l (xs.map It.d),.lst (bs.map .int)]
def gi:t9->Prop:=fun(l,xs,bs)=>xs.length<=1000/\∀x∈xs,x.ok bs
def jk:t9->T:=fun(l,xs,bs)=>(.tup [.lst (((xs.foldl It.af bs).map .int).map T.sh),.lst (((sX xs bs).map J.d).map T.sh),.lst (((aV xs).map .str).map T.sh)]:T)
structure K4(X:Cx)(CL:BC):Prop extends cj X where
 aQ:Ln X 0 "script"
 bN:Ln X 1 "boxes"
 fV:Ln X 2 "behind"
 aN:Ln X 3 "rows"
 jU:Ln X 4 "called"
 Dy:Ln X 5 "part"
 gf:Ln X 6 "step"
 dR:Gl X "list"
 QM:Gl X "MARKS"
 wF:Gl X "all_done"
 dS:X.mg "list" = none
 uW:GT X "MARKS" ["out","keep","way","in"]
 NW:Fc X CL "all_done" 4 2 mE jS jT
def K5{b:Bx}(E:K4 X CL) :
   qT X CL b t8 AO jj gi jk:=by
 rintro⟨l,xs,bs⟩ h;dsimp only [gi,jj,jk]at h ⊢;refine aK E.g E.fV (jd E.dS (aO E.bN) (qe _) E.dR cz) ?_;refine aK E.g E.aN (i9 (tl:=[]) bK aG) ?_;refine aK E.g E.jU (i9 (tl:=[]) bK aG) ?_;have hti:∀(p p':Pos) (o2 o3 o4 o5 o6:DO),Vv X CL b (.Name "part" p) (.Name "script" p') [some (.sh (A6 l (xs.map It.d))),some (.sh (.lst (bs.map .int))),o2,o3,o4,o5,o6] (xs.map It.d) [some (.sh (A6 l (xs.map It.d))),some (.sh (.lst (bs.map .int))),o2,o3,o4,o5,o6]:=by
   intro p p' o2 o3 o4 o5 o6;cases l
   . exact G3 (v_ E.aQ.1)
   . exact g7 (v_ E.aQ.1)
 refine lT E.g E.Dy (fun j δ=>∃o5 o6,δ=[some (.sh (A6 l (xs.map It.d))),some (.sh (.lst (bs.map .int))),some (.lst ((((xs.take j).foldl It.af bs).map .int).map T.sh)),some (.lst (((sX (xs.take j) bs).map J.d).map T.sh)),some (.lst (((aV (xs.take j)).map .str).map T.sh)),o5,o6]) (hti _ _ _ _ _ _ _) ⟨_,_,rfl⟩ (fun j δ ⟨_,_,e⟩=>by subst e;exact ar8 rfl) ?turn ?fin
 case turn=>
   rintro j d δ hj ⟨o5,o6,rfl⟩;rw[asi]at hj;obtain⟨x,hq,rfl⟩:=asF.mp hj;have hm:x∈xs:=asu hq;have hl:(sX (xs.take j) bs).length<=1000:=by rw[xG,asK];omega
   have hl':(aV (xs.take j)).length<=1000:=asV (atF _ _) (by rw[asK];omega);have K1:=qU (xs.take j) bs;have cW:=abF K1 x (h.2 x hm);have e1:(xs.take (j+1)).foldl It.af bs=((xs.take j).foldl It.af bs |> fun c=>x.af c):=by rw[kH hq,List.foldl_append];rfl
   have e2:sX (xs.take (j+1)) bs=sX (xs.take j) bs++[x.j ((xs.take j).foldl It.af bs)]:=by rw[kH hq,abE];rfl
   have e3:aV (xs.take (j+1))=aV (xs.take j)++x.call.toList:=by rw[kH hq,Ky]
   rw[e1,e2,e3];clear e1 e2 e3;generalize (xs.take j).foldl It.af bs=cur at K1 cW ⊢;generalize sX (xs.take j) bs=rs at hl ⊢;generalize aV (xs.take j)=cs at hl' ⊢;have hmk:=Bs x;by_cases ht:x.told=true
   . obtain⟨q,rfl⟩:∃q,x=.dQ q:=by cases x<;>first|exact⟨_,rfl⟩|cases ht
     have cW:q.ok cur:=cW;refine g8 (G5 (l:=cN) (bV (au (v_ (d:=.tup (.str q.w::q.ds)) E.Dy.1)) ai aeh) (au (Cp E.uW E.QM)) rfl rfl).1 (fun hp=>by rw[show decide (q.w∈cN)=false from hmk]at hp;cases hp) (fun hp=>?_);refine aK E.g E.gf (c_ (true,[q],cur) E.NW E.wF (ah (cD (ds:=[q.d]) (i9 (aL (v_ (d:=q.d) E.Dy.1) bK) aG)) (ah (vL E.fV.1) aH)) (by dsimp only [jS];exact⟨Uf,fun y hy=>by rw[List.mem_singleton.mp hy];exact cW⟩) (ML (qe _) (SJ _ _) (gC (fun _=>rfl) _))) ?_;rw[show jT (true,[q],cur)=T.tup [.lst (((ZU cur q).map .int).map T.sh),.lst ([(q.row cur).d].map T.sh),.lst (((oZ [q]).map .str).map T.sh)] from rfl];refine aK E.g E.fV (kR 0 E.gf.1 rfl rfl) ?_;have hcq:(oZ [q]).length<=1:=atF _ _;refine PC E.aN.1 rfl (kR 1 E.gf.1 rfl rfl) rfl (by simp;omega) ?_;refine PC E.jU.1 rfl (kR 2 E.gf.1 rfl rfl) rfl (by simp;omega) (aA (aA ⟨some (.sh q.d),some (.tup [.sh .any,.sh .any,.sh .any]),?_⟩));have ec:oZ [q]=(It.dQ q).call.toList:=by cases q<;>rfl
     rw[← ec,asn,asn,asn,asn];rfl
   . have ht:x.told=false:=by simpa using ht
     have hj:x.j cur=x.sj:=by cases x<;>first|rfl|cases ht
     have ha:x.af cur=cur:=by cases x<;>first|rfl|cases ht
     have hc:x.call=none:=by cases x<;>first|rfl|cases ht
     rw[ht]at hmk;refine g8 (G5 (l:=cN) (bV (au (v_ (d:=.tup (.str x.sj.w::x.sj.ds)) E.Dy.1)) ai aeh) (au (Cp E.uW E.QM)) rfl rfl).1 (fun hp=>?_) (fun hp=>by rw[show decide (x.sj.w∈cN)=true from hmk]at hp;cases hp);refine vA E.aN.1 rfl (dI (d:=x.d) (aO E.Dy) (Ht x)) rfl (by simp;omega) (aA (aA ⟨some (.sh x.d),o6,?_⟩));rw[hj,hc,show(fun c=>x.af c) cur=cur from ha,show(none:Option Str).toList=[] from rfl,asx,asn,asn];rfl
 case fin=>
   rintro δ ⟨o5,o6,rfl⟩;rw[ar3,ate];exact bA (kD (aL (vM E.fV.1) (aL (vM E.aN.1) (aL (vM E.jU.1) bK))) aG) rfl
def cV:FG AO ["script","boxes"] ["list","MARKS","all_done"] (av t8):=fG
abbrev IK:=top 3
abbrev IL:=Str×Int×Int×Int×Int×AT
abbrev QN:Ap:=["ask","boxes","mark","one","other"]
def ve:IL->At:=fun(mk,b1,m1,b2,m2,bs)=>[.tup [.str mk,.tup [.int b1,.int m1],.tup [.int b2,.int m2]],.lst (bs.map .int)]
def vf:IL->Prop:=fun(mk,b1,m1,b2,m2,bs)=>(b1=-1\/(0<=b1/\b1<bs.length))/\(b2=-1\/(0<=b2/\b2<bs.length))
def vg:IL->T:=fun(mk,b1,m1,b2,m2,bs)=>(.sh (.bl (Eo mk (fZ b1 m1 bs) (fZ b2 m2 bs))):T)
structure acM(X:Cx)(CL:BC):Prop extends cj X where
 AQ:Ln X 0 "ask"
 bN:Ln X 1 "boxes"
 pA:Ln X 2 "mark"
 lV:Ln X 3 "one"
 gk:Ln X 4 "other"
 rW:Gl X "value"
 yr:Fc X CL "value" 1 2 qA qB qC
def acN{b:Bx}(E:acM X CL) :
   qT X CL b IK QN ve vf vg:=by
 rintro⟨mk,b1,m1,b2,m2,bs⟩ h;dsimp only [vf,ve,vg]at h ⊢;refine aK E.g E.pA (dI (bV (aO E.AQ) ai rfl) rfl) ?_;refine aK E.g E.lV (c_ (b1,m1,bs) E.yr E.rW (ah (bV (aO E.AQ) ai rfl) (ah (aO E.bN) aH)) h.1 rfl) ?_;refine aK E.g E.gk (c_ (b2,m2,bs) E.yr E.rW (ah (bV (aO E.AQ) ai rfl) (ah (aO E.bN) aH)) h.2 rfl) ?_;refine g8 (lK (aO E.pA) fq).1 (fun hp=>?_) (fun hp=>aA ?_)
 . refine bA (Vo (aO E.lV) (aO E.gk)).2 ?_;show T.sh _=T.sh (.bl (Eo mk (fZ b1 m1 bs) (fZ b2 m2 bs)));rw[Eo,ass (asB hp)]
 refine g8 (lK (aO E.pA) fq).1 (fun hq=>?_) (fun hq=>aA ?_)
 . refine bA (ajw (aO E.lV) (aO E.gk)).2 ?_;show T.sh _=T.sh (.bl (Eo mk (fZ b1 m1 bs) (fZ b2 m2 bs)));rw[Eo,ash (asJ hp),ass (asB hq)]
 refine g8 (lK (aO E.pA) fq).1 (fun hr=>?_) (fun hr=>aA ?_)
 . refine bA (gA (aO E.lV) (aO E.gk)).2 ?_;show T.sh _=T.sh (.bl (Eo mk (fZ b1 m1 bs) (fZ b2 m2 bs)));rw[Eo,ash (asJ hp),ash (asJ hq),ass (asB hr)]
 . refine bA (afH (aO E.lV) (aO E.gk)).2 ?_;show T.sh _=T.sh (.bl (Eo mk (fZ b1 m1 bs) (fZ b2 m2 bs)));rw[Eo,ash (asJ hp),ash (asJ hq),ash (asJ hr)]
def nM:FG QN ["ask","boxes"] ["value"] (av IK):=fG
abbrev wG:=top 4
abbrev wH:=Bool×List Ask×AT
abbrev Dz:Ap:=["asks","boxes","ask"]
def mF:wH->At:=fun(l,qs,bs)=>[A6 l (qs.map KH),.lst (bs.map .int)]
def mG:wH->Prop:=fun(l,qs,bs)=>∀q∈qs,okQ bs q
def mH:wH->T:=fun(l,qs,bs)=>(.sh (.bl (qs.all (hQ bs))):T)
structure NX(X:Cx)(CL:BC):Prop extends cj X where
 tS:Ln X 0 "asks"
 bN:Ln X 1 "boxes"
 AQ:Ln X 2 "ask"
 IQ:Gl X "holds"
 acO:Fc X CL "holds" 2 2 ve vf vg
def NZ{b:Bx}(E:NX X CL) :
   qT X CL b wG Dz mF mG mH:=by
 rintro⟨l,qs,bs⟩ h;dsimp only [mG,mF,mH]at h ⊢;have hti:∀(p p':Pos) (o:DO),Vv X CL b (.Name "ask" p) (.Name "asks" p') [some (.sh (A6 l (qs.map KH))),some (.sh (.lst (bs.map .int))),o] (qs.map KH) [some (.sh (A6 l (qs.map KH))),some (.sh (.lst (bs.map .int))),o]:=by
   intro p p' o;cases l
   . exact G3 (v_ E.tS.1)
   . exact g7 (v_ E.tS.1)
 refine lT E.g E.AQ (fun j δ=>(∃o,δ=[some (.sh (A6 l (qs.map KH))),some (.sh (.lst (bs.map .int))),o])/\∀q∈qs.take j,hQ bs q=true) (hti _ _ none) ⟨⟨_,rfl⟩,Uf⟩ (fun j δ ⟨⟨o,e⟩,_⟩=>by subst e;exact ar8 rfl) ?_ ?_
 . rintro j d δ hj ⟨⟨o,rfl⟩,hp⟩;rw[asi]at hj;obtain⟨q,hq,rfl⟩:=asF.mp hj;have hm:q∈qs:=asu hq;refine g8 (Vp (B9 (c_ (q.1,q.2.1,q.2.2.1,q.2.2.2.1,q.2.2.2.2,bs) E.acO E.IQ (ah (aO E.AQ) (ah (aO E.bN) aH)) (h q hm) rfl))) (fun hc=>?_) (fun hc=>?_)
   . refine bA FD ?_;show T.sh _=T.sh (.bl (qs.all (hQ bs)));have hf:hQ bs q=false:=by simpa [hQ] using hc
     rw[List.all_eq_false.mpr ⟨q,hm,by simp[hf]⟩]
   . refine aA (aA ⟨⟨_,rfl⟩,?_⟩);have hf:hQ bs q=true:=by simpa [hQ] using hc
     intro q' hq';rw[as9,hq]at hq';rcases asf.mp hq' with h'|h'
     . exact hp q' h'
     . have:q'=q:=by simpa using h'
       rw[this];exact hf
 . rintro δ ⟨⟨o,rfl⟩,hp⟩;refine bA FD ?_;show T.sh _=T.sh (.bl (qs.all (hQ bs)));rw[ar3,ate]at hp;rw[auf.mpr hp]
def lF:FG Dz ["asks","boxes"] ["holds"] (av wG):=fG
abbrev jV:=inClass (top 32) 1
abbrev jW:=Nat×Nat×At×At×At×Ap×(List (bT×List R7))×Nat×At×AT×Cn×Str
abbrev oV:Ap:=["self","sign","row"]
def gn:jW->At:=fun(m,f,bx,bg,pr,hs,R,a,pa,bs,ex,sg)=>[.ins "FlatRun" (jJ (eX bx (hs.map .str) bg pr (fW R)) (.int a) pa bs ex),.str sg]
def dY:jW->Prop:=fun(m,f,bx,bg,pr,hs,R,a,pa,bs,ex,sg)=>qm m f hs R/\a<f/\bs.length=m
def gu:jW->T:=fun(m,f,bx,bg,pr,hs,R,a,pa,bs,ex,sg)=>(.sh (.tup [.tup ((sE R hs a sg bs).1.map It.d),.int (sE R hs a sg bs).2]):T)
structure yt(X:Cx)(CL:BC):Prop extends cj X where
 bD:Ln X 0 "self"
 f9:Ln X 1 "sign"
 iL:Ln X 2 "row"
 wI:Gl X "all_hold"
 N1:Fc X CL "all_hold" 3 2 mF mG mH
 aE:kO X.K (CL "FlatRun")
 aY:kO X.K (CL "Table")
 cu:aI X.K (CL "Table") "signs"
 bQ:aI X.K (CL "FlatRun") "place"
 jz:aI X.K (CL "FlatRun") "table"
 cH:aI X.K (CL "Table") "rows"
 bU:aI X.K (CL "Table") "boxes"
 aU:aI X.K (CL "FlatRun") "boxes"
def yu{b:Bx}(E:yt X CL) :
   qT X CL b jV oV gn dY gu:=by
 rintro⟨m,f,bx,bg,pr,hs,R,a,pa,bs,ex,sg⟩ h;dsimp only [dY,gn,gu]at h ⊢;obtain⟨hG,ha,hb⟩:=h;refine g8 (G5 (l:=hs) (aO E.f9) (ja E.aY E.cu (ja E.aE E.jz (aO E.bD) F2) jE) rfl rfl).1 (fun hp=>?_) (fun hp=>aA ?_)
 . have hx:sg∈hs:=asB hp;obtain⟨q1,q2,q3⟩:=hG.row ha hx;refine lT E.g E.iL (fun j δ=>(∃o,δ=[some (.sh (.ins "FlatRun" (jJ (eX bx (hs.map .str) bg pr (fW R)) (.int a) pa bs ex))),some (.sh (.str sg)),o])/\∀r∈(qa R a sg).take j,AJ bs r=false) (g7 (xB (xO a sg) E.u (iJ E.aY E.cH (iJ E.aE E.jz (v_ E.bD.1) F2) nq) (aF (kD (aL (iJ E.aE E.bQ (v_ E.bD.1) zA) (aL (v_ E.f9.1) bK)) aG) (t2:=jD (xO a sg)) rfl) (BE q1))) ⟨⟨_,rfl⟩,fun r hr=>absurd hr aso⟩ (fun j δ ⟨⟨_,e⟩,_⟩=>by subst e;exact ar8 rfl) ?turn ?fin
   case turn=>
     rintro j d δ hj ⟨⟨o,rfl⟩,Fv⟩;rw[asi]at hj;obtain⟨r,hr,rfl⟩:=asF.mp hj;have hrm:=asu hr;have hrg:=(q3 r hrm).2;refine g8 (B9 (aF (c_ (false,r.1.map ZY,bs) E.N1 E.wI (ah (adX (bV (aO E.iL) ai Hs) (congrArg D.tup (hrg.asks hb).1.symm)) (ah (ja E.aE E.aU (aO E.bD) zB) aH)) (hrg.asks hb).2 rfl) (t2:=.sh (.bl (AJ bs r))) rfl)) (fun hh=>?_) (fun hh=>aA (aA ⟨⟨_,rfl⟩,fun r' hr'=>?_⟩))
     . refine bA (aM (ds:=[.tup (r.2.1.map It.d),.int (r.2.2:Nat)]) (aq (dI (bV (aO E.iL) ai CB) (gC Ht _)) (aq (dI (bV (aO E.iL) ai Sy) rfl) aX)) aG) ?_;have ef:(qa R a sg).find? (AJ bs)=some r:=by
         obtain⟨Se,e⟩:=asl.mp hr;refine List.find?_eq_some_iff_getElem.mpr ⟨hh,j,Se,e,fun i hi=>?_⟩;have:=Fv ((qa R a sg)[i]'We) (List.mem_iff_getElem.mpr ⟨i,by rw[asK];omega,by rw[List.getElem_take]⟩);rw[this];rfl
       have es:sE R hs a sg bs=r.2:=by
         unfold sE;rw[ass hx,ef]
       rw[es]
     . rw[as9,hr]at hr';rcases asf.mp hr' with z|z
       . exact Fv r' z
       . have:r'=r:=by simpa using z
         rw[this];exact hh
   case fin=>
     rintro δ ⟨⟨o,rfl⟩,Fv⟩;rw[ar3,ate]at Fv;have ef:(qa R a sg).find? (AJ bs)=none:=List.find?_eq_none.mpr fun r hr=>by rw[Fv r hr];decide
     have es:sE R hs a sg bs=([],a):=by
       unfold sE;rw[ass hx,ef]
     refine aA ?_;refine bA (aM (ds:=[.tup [],.int a]) (aq (aM (ds:=[]) aX aG) (aq (iJ E.aE E.bQ (v_ E.bD.1) zA) aX)) aG) ?_;rw[es];rfl
 . have es:sE R hs a sg bs=([],a):=by
     unfold sE;rw[ash (asJ hp)]
   refine bA (aM (ds:=[.tup [],.int a]) (aq (aM (ds:=[]) aX aG) (aq (iJ E.aE E.bQ (v_ E.bD.1) zA) aX)) aG) ?_;rw[es];rfl
def dw:FG oV ["self","sign"] ["all_hold"] (av jV):=fG
abbrev nO:=inClass (top 30) 2
abbrev jX:=Addr×Nat×Nat×At×At×At×Ap×(List (bT×List R7))×Nat×Bn×AT×Dx×Ap
abbrev ua:Ap:=["self","called","waiting","rows","many","sign","going","step"]
def eY:jX->Bn:=fun(y,m,f,bx,bg,pr,hs,R,a,pt,bs,eo,cs)=>[.pin y (.ins "FlatRun" (cB (eX bx (hs.map .str) bg pr (fW R)) (.int a) pt bs (oF eo))),.sh (.lst (cs.map .str))]
def dz:jX->Bn:=fun(y,m,f,bx,bg,pr,hs,R,a,pt,bs,eo,cs)=>[.pin y (.ins "FlatRun" (cB (eX bx (hs.map .str) bg pr (fW R)) (.int (F3 R hs (cs,a,bs))) pt (F4 R hs (cs,a,bs)) (oF eo))),.sh (.lst (cs.map .str))]
def dB:jX->Prop:=fun(y,m,f,bx,bg,pr,hs,R,a,pt,bs,eo,cs)=>qm m f hs R/\a<f/\bs.length=m/\cs.length<=1000
def eZ:jX->T:=fun(y,m,f,bx,bg,pr,hs,R,a,pt,bs,eo,cs)=>(.lst ((vC R hs (cs,a,bs)).map T.sh):T)
structure DB(X:Cx)(CL:BC):Prop extends cj X where
 bD:Ln X 0 "self"
 jU:Ln X 1 "called"
 mW:Ln X 2 "waiting"
 aN:Ln X 3 "rows"
 bM:Ln X 4 "many"
 f9:Ln X 5 "sign"
 IU:Ln X 6 "going"
 gf:Ln X 7 "step"
 dR:Gl X "list"
 IV:Gl X "MOST_SIGNS"
 lG:Gl X "performed"
 dg:Gl X "len"
 dS:X.mg "list" = none
 IW:∃u,X.mg "MOST_SIGNS" = some (.int 8 u)
 uc:Fc X CL "performed" 5 2 jj gi jk
 dh:X.mg "len" = none
 yw:Fq X CL "FlatRun" "step_at" 4 2 gn dY gu
 aE:kO X.K (CL "FlatRun")
 aY:kO X.K (CL "Table")
 bQ:aI X.K (CL "FlatRun") "place"
 bU:aI X.K (CL "Table") "boxes"
 aU:aI X.K (CL "FlatRun") "boxes"
def DC{b:Bx}(E:DB X CL)(y m f bx bg pr hs R a pt bs eo cs)(h:dB (y,m,f,bx,bg,pr,hs,R,a,pt,bs,eo,cs)) :
   cQ X CL b (dF nO) (v9 ua (eY (y,m,f,bx,bg,pr,hs,R,a,pt,bs,eo,cs))) {nx:=fun δ=>eZ (y,m,f,bx,bg,pr,hs,R,a,pt,bs,eo,cs)=.sh .non/\Keeps δ (dz (y,m,f,bx,bg,pr,hs,R,a,pt,bs,eo,cs)),rt:=fun zk δ=>zk=eZ (y,m,f,bx,bg,pr,hs,R,a,pt,bs,eo,cs)/\Keeps δ (dz (y,m,f,bx,bg,pr,hs,R,a,pt,bs,eo,cs))}:=by
 dsimp only [dB,eY,eZ,dz]at h ⊢;obtain⟨hG,ha,hb,hc⟩:=h;refine aK E.g E.mW (sN E.dS (v_ E.jU.1) E.dR cz) ?_;refine aK E.g E.aN (i9 (tl:=[]) bK aG) ?_;refine aK E.g E.bM lJ ?_;refine Pu E.g (fun k δ=>∃(j:Nat) (o5 o6 o7:DO),k+j=8/\δ=[some (.pin y (.ins "FlatRun" (cB (eX bx (hs.map .str) bg pr (fW R)) (.int (qo R hs j (cs,a,bs)).2.2.1) pt (qo R hs j (cs,a,bs)).2.2.2 (oF eo)))),some (.sh (.lst (cs.map .str))),some (.lst (((qo R hs j (cs,a,bs)).2.1.map .str).map T.sh)),some (.lst ((qo R hs j (cs,a,bs)).1.map T.sh)),some (.sh (.int j)),o5,o6,o7]) 8 ⟨0,_,_,_,rfl,rfl⟩ ?loop
 case loop=>
   rintro k δ ⟨j,o5,o6,o7,hm,rfl⟩;obtain⟨k1,k2,k5,k3,k4⟩:=wm hG (cs:=cs) ha hb j;have akS:=@KJ R hs (cs,a,bs) j;have aez:=@CQ R hs (cs,a,bs) j;have hE:(qo R hs j (cs,a,bs)).2.1=[]\/j=8->qo R hs 8 (cs,a,bs)=qo R hs j (cs,a,bs):=fun z=>by
     rcases z with z|z
     . have:=akS z (8-j)
       rwa [show j+(8-j)=8 by omega]at this
     . rw[z]
   unfold F4 F3 vC;generalize hs8:qo R hs j (cs,a,bs)=s at k1 k2 k3 k4 k5 hE aez ⊢;obtain⟨rs,w,cp,cur⟩:=s;dsimp only at k1 k2 k3 k4 k5 hE ⊢;refine⟨_,_,J1 (Mh (V6 (vL E.mW.1)) (fun _=>GV (Vo (aO E.bM) (au (J8 E.IW E.IV))).1)),fun hp=>?_,fun hp=>?_⟩
   . rw[asI]at hp;obtain⟨hp1,Jy⟩:=hp;have hj8:(j:Int)<8:=asB Jy;cases w with
     | nil=>cases hp1
     | cons sg w=>
       have pY:=aez (rs:=rs) (sg:=sg) (w:=w) (a:=cp) (bs:=cur) rfl;obtain⟨s1,s2,s5⟩:=M8 hG k5 sg cur;have s3:(aV (sE R hs cp sg cur).1).length<=(sE R hs cp sg cur).1.length:=atF _ _;rw[asN]at k2;refine agm E.g E.bM rfl ai ?_;refine G8 E.g E.f9 (Wk (t:=.sh (.str sg)) (tl:=(w.map D.str).map T.sh) (kT E.mW.1 rfl) rfl rfl) ?_;refine aK E.g E.IU (aF (q_ (m,f,bx,bg,pr,hs,R,cp,T.eU pt,cur,yP eo,sg) E.yw (vE E.bD.1 rfl zC) (wk Wl Wl Wl Wl Wl) (ah (aO E.f9) aH) rfl (by dsimp only [dY];exact⟨hG,k5,k3⟩) (by show D.aT [D.tup _,_]=true;rw[D.aT,D.kB,gC Ht];rfl)) (t2:=.sh (.tup [.tup ((sE R hs cp sg cur).1.map It.d),.int (sE R hs cp sg cur).2])) rfl) ?_;refine aK E.g E.gf (aF (c_ (false,(sE R hs cp sg cur).1,cur) E.uc E.lG (ah (bV (aO E.IU) ai Hs) (ah (ja E.aE E.aU (vE E.bD.1 rfl zC) zB) aH)) (by dsimp only [gi];exact⟨We,fun x hx=>XH (s2 x hx) k3⟩) (ML (qe _) (Hu _ _) (gC (fun _=>rfl) _))) (t2:=.tup [.lst ((((sE R hs cp sg cur).1.foldl It.af cur).map .int).map T.sh),.lst (((sX (sE R hs cp sg cur).1 cur).map J.d).map T.sh),.lst (((aV (sE R hs cp sg cur).1).map .str).map T.sh)]) rfl) ?_;refine qh E.aE E.bQ E.bD.1 (yU (v_ E.IU.1) ai CB) rfl (xT _ _ _ _ _) ?_;rw[CY];refine qh E.aE E.aU E.bD.1 (xx (kR 0 E.gf.1 rfl rfl)) rfl (xT _ _ _ _ _) ?_;rw[CZ];refine vA E.aN.1 rfl (aM (aq fY (aq (v_ E.f9.1) aX)) aG) rfl (by rw[ar3];omega) ?_;refine PC E.aN.1 rfl (kR 1 E.gf.1 rfl rfl) rfl (by simp[xG];omega) ?_;refine PC E.mW.1 rfl (kR 2 E.gf.1 rfl rfl) rfl (by simp;omega) (aA ⟨k-1,We,j+1,some (.sh (.str sg)),some (.sh (.tup [.tup ((sE R hs cp sg cur).1.map It.d),.int (sE R hs cp sg cur).2])),some (.tup [.sh .any,.sh .any,.sh .any]),We,?_⟩);rw[pY];dsimp only;rw[asn,asn,asn,asA,ar7];rfl
   . have hz:w=[]\/j=8:=by
       cases w with
       | nil=>exact .inl rfl
       | cons sg w=>
         right;have hp:(true&&decide ((j:Int)<8))=false:=hp;have:=asJ ((Bool.true_and _).symm.trans hp);omega
     rw[hE hz];dsimp only;refine g8 (V6 (vL E.mW.1)) (fun hq=>?_) (fun hq=>aA ?_)
     . have hw:w≠[]:=by
         rintro rfl;cases hq
       rw[ash hw];refine vA E.aN.1 rfl (aM (aq fY (aq (aF (Bj E.dh (vL E.mW.1) E.dg) (t2:=.sh (.int ((w.length:Nat):Int))) (by rw[ar3])) aX)) aG) rfl (by rw[ar3];omega) (aA (bA (vM E.aN.1) ⟨?_,wc (ds:=[_])⟩));rw[asn];rfl
     . have hw:w=[]:=by
         cases w with
         | nil=>rfl
         | cons sg w=>cases hq
       subst hw;rw[ass rfl,asx];exact bA (vM E.aN.1) ⟨rfl,wc (ds:=[_])⟩
def bw:FG ua ["self","called"] ["list","MOST_SIGNS","performed","len"] (av nO):=fG
abbrev pI:=inClass (top 30) 0
abbrev k7:=Addr×Nat×Nat×At×At×At×Ap×(List (bT×List R7))×AT×Cc
abbrev vI:Ap:=["self","boxes","place","script","step"]
def gS:k7->Bn:=fun(y,m,f,bx,bg,pr,hs,R,bs,xs)=>[.pin y (.ins "FlatRun" [("table",.sh (eX bx (hs.map .str) bg pr (fW R)))]),.sh (.lst (bs.map .int)),.sh (.int 0),.sh (.tup (xs.map It.d))]
def fF:k7->Bn:=fun(y,m,f,bx,bg,pr,hs,R,bs,xs)=>[.pin y (.ins "FlatRun" (Bd (eX bx (hs.map .str) bg pr (fW R)) (.int (F3 R hs (aV xs,0,xs.foldl It.af bs))) [] (F4 R hs (aV xs,0,xs.foldl It.af bs)) (oF (some ((sX xs bs).map J.d++vC R hs (aV xs,0,xs.foldl It.af bs)))))),.sh (.lst (bs.map .int)),.sh (.int 0),.sh (.tup (xs.map It.d))]
def gT:k7->Prop:=fun(y,m,f,bx,bg,pr,hs,R,bs,xs)=>qm m f hs R/\0<f/\bs.length=m/\xs.length<=200/\(∀x∈xs,Qt m x)
def gU:k7->T:=fun(y,m,f,bx,bg,pr,hs,R,bs,xs)=>(.sh .non:T)
structure EB(X:Cx)(CL:BC):Prop extends cj X where
 bD:Ln X 0 "self"
 bN:Ln X 1 "boxes"
 mD:Ln X 2 "place"
 aQ:Ln X 3 "script"
 gf:Ln X 4 "step"
 lG:Gl X "performed"
 uc:Fc X CL "performed" 5 2 jj gi jk
 nP:FqM X CL "FlatRun" "dealt" 6 2 eY dB eZ dz
 aE:kO X.K (CL "FlatRun")
 aY:kO X.K (CL "Table")
 bQ:aI X.K (CL "FlatRun") "place"
 ck:aI X.K (CL "FlatRun") "past"
 bU:aI X.K (CL "Table") "boxes"
 aU:aI X.K (CL "FlatRun") "boxes"
 iM:aI X.K (CL "FlatRun") "first_rows"
def EC{b:Bx}(E:EB X CL)(y m f bx bg pr hs R bs xs)(h:gT (y,m,f,bx,bg,pr,hs,R,bs,xs)) :
   cQ X CL b (dF pI) (v9 vI (gS (y,m,f,bx,bg,pr,hs,R,bs,xs))) {nx:=fun δ=>gU (y,m,f,bx,bg,pr,hs,R,bs,xs)=.sh .non/\Keeps δ (fF (y,m,f,bx,bg,pr,hs,R,bs,xs)),rt:=fun zk δ=>zk=gU (y,m,f,bx,bg,pr,hs,R,bs,xs)/\Keeps δ (fF (y,m,f,bx,bg,pr,hs,R,bs,xs))}:=by
 dsimp only [gT,gS,gU,fF]at h ⊢;obtain⟨hG,hf,hb,hx,hxo⟩:=h;have K1:(aV xs).length<=xs.length:=atF _ _;have hbl:=qU xs bs;have hb2:(xs.foldl It.af bs).length=m:=hbl.trans hb;obtain⟨d1,d2⟩:=CT hG (cs:=aV xs) hf hb2;refine qh E.aE E.bQ E.bD.1 (v_ E.mD.1) rfl (ar8 rfl) ?_;rw[show jM "place" (.sh (.int 0)) [(("table":Str),T.sh (eX bx (hs.map .str) bg pr (fW R)))]=[(("table":Str),T.sh (eX bx (hs.map .str) bg pr (fW R))),(("place":Str),T.sh (.int 0))] by rw[aW Wl];rfl];refine qh E.aE E.ck E.bD.1 (i9 (tl:=[]) bK aG) rfl (ar8 rfl) ?_;rw[show jM "past" (.lst []) [(("table":Str),T.sh (eX bx (hs.map .str) bg pr (fW R))),(("place":Str),T.sh (.int 0))]=[(("table":Str),T.sh (eX bx (hs.map .str) bg pr (fW R))),(("place":Str),T.sh (.int 0)),(("past":Str),T.lst [])] by rw[aW Wl,aW Wl];rfl];refine aK E.g E.gf (aF (c_ (false,xs,bs) E.uc E.lG (ah (aO E.aQ) (ah (aO E.bN) aH)) (by dsimp only [gi];exact⟨We,fun x hm=>XH (hxo x hm) hb⟩) (ML (qe _) (Hu _ _) (gC (fun _=>rfl) _))) (t2:=.tup [.lst (((xs.foldl It.af bs).map .int).map T.sh),.lst (((sX xs bs).map J.d).map T.sh),.lst (((aV xs).map .str).map T.sh)]) rfl) ?_;refine qh E.aE E.aU E.bD.1 (xx (kR 0 E.gf.1 rfl rfl)) rfl (ar8 rfl) ?_;rw[show jM "boxes" (.sh (.lst ((xs.foldl It.af bs).map .int))) [(("table":Str),T.sh (eX bx (hs.map .str) bg pr (fW R))),(("place":Str),T.sh (.int 0)),(("past":Str),T.lst [])]=Bd (eX bx (hs.map .str) bg pr (fW R)) (.int ((0:Nat):Int)) [] (xs.foldl It.af bs) (oF none) by rw[aW Wl,aW Wl,aW Wl];rfl];generalize xs.foldl It.af bs=cur at hbl hb2 d1 d2 ⊢;refine agn E.aE E.iM E.bD.1 (aa8 (kR 1 E.gf.1 rfl rfl) (qM (dl:=[.lst ((aV xs).map .str)]) (fun z=>(z,m,f,bx,bg,pr,hs,R,0,[],cur,none,aV xs)) (.pin y (.ins "FlatRun" (Bd (eX bx (hs.map .str) bg pr (fW R)) (.int (F3 R hs (aV xs,0,cur))) [] (F4 R hs (aV xs,0,cur)) (oF none)))) E.nP E.bD.1 (.pin rfl) (aL (xx (kR 2 E.gf.1 rfl rfl)) bK) (fun z _=>by dsimp only [dB];exact⟨hG,hf,hb2,We⟩) (fun z _=>rfl) (fun z hz=>by subst hz;exact⟨rfl,.inr rfl,trivial⟩) (acf Wl Wl Wl Wl Wl) (fun z hz=>by subst hz;rfl)) (by rw[sizeLine_eq,List.length_map,xG];omega)) rfl (XG _ _ _ _ _) (aA ⟨rfl,?_⟩);rw[show jM "first_rows" (.lst (((sX xs bs).map J.d++vC R hs (aV xs,0,cur)).map T.sh)) (Bd (eX bx (hs.map .str) bg pr (fW R)) (.int (F3 R hs (aV xs,0,cur))) [] (F4 R hs (aV xs,0,cur)) (oF none))=Bd (eX bx (hs.map .str) bg pr (fW R)) (.int (F3 R hs (aV xs,0,cur))) [] (F4 R hs (aV xs,0,cur)) (oF (some ((sX xs bs).map J.d++vC R hs (aV xs,0,cur)))) by
   unfold Bd;rw[aW Wl,aW Wl,aW Wl,aW Wl];rfl]
 exact wc (ds:=[_,_,_])
def dN:FG vI ["self","boxes","place","script"] ["performed"] (av pI):=fG
abbrev nQ:=inClass (top 32) 0
abbrev nR:=Nat×Da×Cc×At×Ap×(List (bT×List R7))
abbrev ud:Ap:=["self","table"]
def qE:nR->At:=fun(f,bx,xs,pr,hs,R)=>[(eX (bx.map gI) (hs.map .str) (xs.map It.d) pr (fW R))]
def iV:nR->Prop:=fun(f,bx,xs,pr,hs,R)=>qm bx.length f hs R/\0<f/\bx.length<=1000/\xs.length<=200/\(∀x∈xs,Qt bx.length x)
def qF:nR->B1:=fun(f,bx,xs,pr,hs,R)=>(Bd (eX (bx.map gI) (hs.map .str) (xs.map It.d) pr (fW R)) (.int (F3 R hs (aV xs,0,xs.foldl It.af (bx.map (·.2))))) [] (F4 R hs (aV xs,0,xs.foldl It.af (bx.map (·.2)))) (oF (some ((sX xs (bx.map (·.2))).map J.d++vC R hs (aV xs,0,xs.foldl It.af (bx.map (·.2)))))):B1)
structure DE(X:Cx)(CL:BC):Prop extends cj X where
 bD:Ln X 0 "self"
 bC:Ln X 1 "table"
 YB:Gl X "Runner"
 pJ:FkM X CL "Runner" "__init__" 7 4 gS gT gU fF
 aE:kO X.K (CL "FlatRun")
 aY:kO X.K (CL "Table")
 jz:aI X.K (CL "FlatRun") "table"
 f6:aI X.K (CL "Table") "begin"
 bU:aI X.K (CL "Table") "boxes"
 aU:aI X.K (CL "FlatRun") "boxes"
def DF{b:Bx}(E:DE X CL)(f:Nat)(bx:Da)(xs:Cc)(pr:At)(hs:Ap)(R:List (bT×List R7))(y:Addr)(h:qm bx.length f hs R/\0<f/\bx.length<=1000/\xs.length<=200/\(∀x∈xs,Qt bx.length x)) :
   cQ X CL b (dF nQ) (VH ud y "FlatRun" [(eX (bx.map gI) (hs.map .str) (xs.map It.d) pr (fW R))]) {nx:=fun δ=>δ[0]? = some (some (.pin y (.ins "FlatRun" (Bd (eX (bx.map gI) (hs.map .str) (xs.map It.d) pr (fW R)) (.int (F3 R hs (aV xs,0,xs.foldl It.af (bx.map (·.2))))) [] (F4 R hs (aV xs,0,xs.foldl It.af (bx.map (·.2)))) (oF (some ((sX xs (bx.map (·.2))).map J.d++vC R hs (aV xs,0,xs.foldl It.af (bx.map (·.2)))))))))),rt:=fun _ _=>False}:=by
 obtain⟨hG,hf,hb,hx,hxo⟩:=h;refine qh E.aE E.jz E.bD.1 (v_ E.bC.1) rfl (ar8 rfl) ?_;have hbl:(bx.map (·.2)).length=bx.length:=ar3 ..;refine PD (kM1 (fun z=>(z,bx.length,f,bx.map gI,xs.map It.d,pr,hs,R,bx.map (·.2),xs)) (.pin y (.ins "FlatRun" (Bd (eX (bx.map gI) (hs.map .str) (xs.map It.d) pr (fW R)) (.int (F3 R hs (aV xs,0,xs.foldl It.af (bx.map (·.2))))) [] (F4 R hs (aV xs,0,xs.foldl It.af (bx.map (·.2)))) (oF (some ((sX xs (bx.map (·.2))).map J.d++vC R hs (aV xs,0,xs.foldl It.af (bx.map (·.2)))))))))
   E.pJ E.YB (ajS E.bD.1 rfl (V0 (xx (aF (lY (p:=fun _=>true) (g:=fun d=>T.sh d.at2) (cg .nil Wl) E.g.calm (g7 (iJ E.aY E.bU (v_ E.bC.1) sY)) (.inr rfl) (fun C s0 H0 f0 b' d hd=>?JF) (aty (jC (by simp;omega)))) (t2:=.lst (((bx.map (·.2)).map .int).map T.sh)) ?ceq)) (V0 lJ (V0 (iJ E.aY E.f6 (v_ E.bC.1) sZ) Mu))))
   (fun z _=>by dsimp only [gT];exact⟨hG,hf,hbl,hx,hxo⟩) (fun z _=>rfl) (fun z hz=>by cases hz.1;exact⟨rfl,.inr rfl,trivial⟩) (fun z hz=>by cases hz.1;rfl)) (aA rfl)
 case ceq=>
   refine congrArg T.lst ?_;rw[iH,asC,asC,asC];rfl
 case JF=>
   obtain⟨q,_,rfl⟩:=asq.mp hd;exact⟨rfl,fun _=>dI (bV (je 0) ai CB) rfl⟩
def gV:FG ud ["self","table"] ["Runner"] (av nQ):=fG
abbrev pK:=inClass (top 30) 3
abbrev k8:=Addr×Nat×Nat×At×At×At×Ap×(List (bT×List R7))×Nat×List wo×AT×Dx×Str
abbrev vJ:Ap:=["self","sign","place","boxes","rows"]
def gW:k8->Bn:=fun(y,m,f,bx,bg,pr,hs,R,a,l,bs,eo,sg)=>[.pin y (.ins "FlatRun" (cB (eX bx (hs.map .str) bg pr (fW R)) (.int a) (dJ l) bs (oF eo))),.sh (.str sg)]
def fH:k8->Bn:=fun(y,m,f,bx,bg,pr,hs,R,a,l,bs,eo,sg)=>[.pin y (.ins "FlatRun" (cB (eX bx (hs.map .str) bg pr (fW R)) (.int (F3 R hs ([sg],a,bs))) (dJ (l++[(a,bs,vC R hs ([sg],a,bs))])) (F4 R hs ([sg],a,bs)) (oF eo))),.sh (.str sg)]
def fJ:k8->Prop:=fun(y,m,f,bx,bg,pr,hs,R,a,l,bs,eo,sg)=>qm m f hs R/\a<f/\bs.length=m/\l.length<=1000
def gX:k8->T:=fun(y,m,f,bx,bg,pr,hs,R,a,l,bs,eo,sg)=>(.lst ((vC R hs ([sg],a,bs)).map T.sh):T)
structure ED(X:Cx)(CL:BC):Prop extends cj X where
 bD:Ln X 0 "self"
 f9:Ln X 1 "sign"
 mD:Ln X 2 "place"
 bN:Ln X 3 "boxes"
 aN:Ln X 4 "rows"
 dR:Gl X "list"
 dS:X.mg "list" = none
 nP:FqM X CL "FlatRun" "dealt" 6 2 eY dB eZ dz
 aE:kO X.K (CL "FlatRun")
 aY:kO X.K (CL "Table")
 bQ:aI X.K (CL "FlatRun") "place"
 bU:aI X.K (CL "Table") "boxes"
 aU:aI X.K (CL "FlatRun") "boxes"
 ck:aI X.K (CL "FlatRun") "past"
def EE{b:Bx}(E:ED X CL)(y m f bx bg pr hs R a l bs eo sg)(h:fJ (y,m,f,bx,bg,pr,hs,R,a,l,bs,eo,sg)) :
   cQ X CL b (dF pK) (v9 vJ (gW (y,m,f,bx,bg,pr,hs,R,a,l,bs,eo,sg))) {nx:=fun δ=>gX (y,m,f,bx,bg,pr,hs,R,a,l,bs,eo,sg)=.sh .non/\Keeps δ (fH (y,m,f,bx,bg,pr,hs,R,a,l,bs,eo,sg)),rt:=fun zk δ=>zk=gX (y,m,f,bx,bg,pr,hs,R,a,l,bs,eo,sg)/\Keeps δ (fH (y,m,f,bx,bg,pr,hs,R,a,l,bs,eo,sg))}:=by
 dsimp only [fJ,gW,gX,fH]at h ⊢;obtain⟨hG,ha,hb,hpa⟩:=h;obtain⟨_,ZM⟩:=CT hG (cs:=[sg]) ha hb;refine aK E.g E.mD (Bq (p:=[.fld "place"]) (Cw E.aE E.bQ (kT E.bD.1 rfl) rfl rfl CV) rfl M9) ?_;refine aK E.g E.bN (Bq (p:=[.fld "boxes"]) (Cw E.aE E.aU (kT E.bD.1 rfl) rfl rfl CW) rfl Nb) ?_;refine G8 E.g E.aN (qM (dl:=[.lst [.str sg]]) (fun z=>(z,m,f,bx,bg,pr,hs,R,a,dJ l,bs,eo,[sg])) (.pin y (.ins "FlatRun" (cB (eX bx (hs.map .str) bg pr (fW R)) (.int (F3 R hs ([sg],a,bs))) (dJ l) (F4 R hs ([sg],a,bs)) (oF eo)))) E.nP E.bD.1 (.pin rfl) (aL (xx (ds:=[.str sg]) (i9 (aL (v_ E.f9.1) bK) aG)) bK) (fun z _=>by dsimp only [dB];exact⟨hG,ha,hb,Uf⟩) (t:=.lst ((vC R hs ([sg],a,bs)).map T.sh)) (fun z _=>rfl) (fun z hz=>by subst hz;exact⟨rfl,.inr rfl,trivial⟩) (BG Wl Wl Wl Wl Wl) (fun z hz=>by subst hz;rfl)) ?_;rw[C2];dsimp only;generalize vC R hs ([sg],a,bs)=fr at ZM ⊢;generalize F3 R hs ([sg],a,bs)=a2;generalize F4 R hs ([sg],a,bs)=b2;have hpl:(dJ l).length<=1000:=by unfold dJ;rw[ar3];exact hpa
 generalize dJ l=pt at hpl ⊢;refine agu (i:=4) rfl fun z=>?_;refine agk (p:=[.fld "past"]) (Cw E.aE E.ck (kT E.bD.1 rfl) rfl rfl mS) rfl zE (kD (aL (v_ E.mD.1) (aL (v_ E.bN.1) (aL (WH E.aN.1 rfl) bK))) aG) rfl zE We ?_;rw[C1];exact bA (aka (δ2:=[some (.pin y (.ins "FlatRun" (cB (eX bx (hs.map .str) bg pr (fW R)) (.int a2) (pt++[.tup [.sh (.int a),.sh (.lst (bs.map .int)),.lst (fr.map T.sh)]]) b2 (oF eo)))),some (.sh (.str sg)),some (.sh (.int a)),some (.sh (.lst (bs.map .int))),some (.sh (.val (.ref z)))]) (WK (i:=0) [.fld "past",.ix pt.length,.ix 2] (jd E.dS (Ss (i:=0) (p:=[.fld "past",.ix pt.length,.ix 2]) E.aN.1 rfl rfl F6 (fM fr)) ZM E.dR cz) rfl F6) (by rw[S8];rfl)) ⟨rfl,wc (ds:=[_])⟩
def dO:FG vJ ["self","sign"] ["list"] (av pK):=fG
def akT(s:AT):∀x∈ZX s,Qt (xQ s).length x:=fun x hx=>by
 unfold ZX at hx;simp only[asb,aso,as7]at hx;rcases hx with rfl|rfl|rfl
 . exact trivial
 . exact trivial
 . exact XI (zy s)
def ph(F:Bi)(q:wo):wo:=(F.getD q.1 0,q.2.1,q.2.2.filter tD)
def tD2(l:At):(l.filter tD).filter tD=l.filter tD:=by
 rw[List.filter_filter];congr 1;funext d;cases tD d<;>rfl
def YC(F:Bi)(r:At)(l:List wo):gO (r.filter tD) (l.map (ph F))=(gO r l).filter tD:=by
 unfold gO;rw[auh,List.filter_flatMap,List.flatMap_map];rfl
theorem Lv.ph(F:Bi)(h:Lv r l):Lv (r.filter tD) (l.map (Law.ph F)):=by
 refine⟨asV (aup _ _) h.b,fun d hd=>h.c d (ata.mp hd).1,fun q hq=>?_⟩;obtain⟨p,hp,rfl⟩:=asq.mp hq;obtain⟨h1,h2⟩:=h.q p hp;exact⟨asV (aup _ _) h1,fun d hd=>h2 d (ata.mp hd).1⟩
structure Sd(n m:Nat)(A:Nat)(B:AT)(l:List wo):Prop where
 a:A<n
 b:B.length=m
 c:∀q∈l,q.1<n/\q.2.1.length=m/\q.2.2.length<=200/\∀d∈q.2.2,Ep d
variable{A:Nat}{B:AT}
theorem Sd.st(h:Sd n m A B l)(h1:r.length<=1000)(h2:∀d∈r,Ep d):Lv r l:=⟨h1,h2,fun q hq=>(h.c q hq).2.2⟩
theorem Sd.pre(h:Sd n m A B l)(F:Bi):(∀q∈l,q.2.2.length<=200/\∀d∈q.2.2,Ep d)/\∀q∈l.map (ph F),q.2.2.length<=200/\∀d∈q.2.2,Ep d:=by
 have g:=h.st (r:=[]) Wp (fun d hd=>by cases hd);exact⟨g.q,(g.ph F).q⟩
theorem Sd.back(h:Sd n m A B l)(F:Bi):∃A2 B2 l2,Sd n m A2 B2 l2/\l2.length<=l.length/\bkP (.int A) l=.int (A2:Nat)/\bkP (.int (F.getD A 0:Nat)) (l.map (ph F))=.int (F.getD A2 0:Nat)/\bkB B l=B2/\bkB B (l.map (ph F))=B2/\l.dropLast=l2/\(l.map (ph F)).dropLast=l2.map (ph F)/\(bkR (l.map (ph F))).filter tD=(bkR l).filter tD/\(l.map (ph F)).isEmpty=l.isEmpty/\∀d∈(bkR l).filter tD,Ep d:=by
 rcases List.eq_nil_or_concat l with rfl|⟨l0,q,rfl⟩
 . exact⟨A,B,[],h,asp _,rfl,rfl,rfl,rfl,rfl,rfl,rfl,rfl,fun d hd=>by cases hd⟩
 . rw[List.concat_eq_append]at h ⊢;obtain⟨c1,c2,c3,c4⟩:=h.c q Uf;rw[asn,au4];obtain⟨k1,k2,k3,k4,k5⟩:=IC (.int A) B l0 q;obtain⟨j1,j2,j3,j4,j5⟩:=IC (.int (F.getD A 0:Nat)) B (l0.map (Law.ph F)) (Law.ph F q);rw[k1,k2,k3,k4,k5,j1,j2,j3,j4,j5];exact⟨q.1,q.2.1,l0,⟨c1,c2,fun p hp=>h.c p (ase _ hp)⟩,Uf,rfl,rfl,rfl,rfl,rfl,rfl,tD2 _,rfl,fun d hd=>c4 d (ata.mp hd).1⟩
theorem Sd.feed(h:Sd n m A B l)(g:qm m n hs R){sg:Str}(hg:PyData.strOk sg=true):Sd n m (F3 R hs ([sg],A,B)) (F4 R hs ([sg],A,B)) (l++[(A,B,vC R hs ([sg],A,B))]):=by
 obtain⟨_,_,h5,h3,_⟩:=wm g (cs:=[sg]) h.a h.b 8;obtain⟨r1,_⟩:=CT g (cs:=[sg]) h.a h.b;refine⟨h5,h3,fun q hq=>?_⟩;rcases asf.mp hq with z|z
 . exact h.c q z
 . rw[asw.mp z];exact⟨h.a,h.b,asV r1 Wp,HJ g h.a h.b fun x hx=>by rw[asw.mp hx];exact hg⟩
def IX{x:Bool}{l:At}(h:∀d∈l,Ep d):kQ 60 (.tup [.bl x,.lst l]):=.tup fun d hd=>by
 simp only[asb,aso,as7]at hd;rcases hd with rfl|rfl
 . exact .bl _ _
 . exact xU h
def QO(x:Bool)(l:At):(T.tup [.sh (.bl x),.lst (l.map T.sh)]).bG=.tup [.bl x,.lst l]:=by rw[T.bG,T.eU,T.eU,T.eU,T.bG,fM]
def akU(h:kQ 60 d):¬ (!Bk d d)=true:=by rw[iI h];decide
abbrev YD:=top 54
abbrev YF:=AT
abbrev aeA:Ap:=["script","parts","table","one","other","cell","sign"]
def vh:YF->At:=fun a=>[.lst (a.map .int)]
def vm:YF->Prop:=fun a=>a.length<=63
def vn:YF->T:=fun a=>(.sh (.bl true):T)
structure akV(X:Cx)(CL:BC):Prop extends cj X where
 aQ:Ln X 0 "script"
 eL:Ln X 1 "parts"
 bC:Ln X 2 "table"
 lV:Ln X 3 "one"
 gk:Ln X 4 "other"
 cU:Ln X 5 "cell"
 f9:Ln X 6 "sign"
 IY:Gl X "_law_parts"
 IZ:Gl X "_law_table"
 Gh:Gl X "FlatRun"
 DG:Gl X "merged"
 I0:Gl X "_law_alike"
 AU:Gl X "_law_back"
 dg:Gl X "len"
 jI:Gl X "_law_told"
 EF:Gl X "_law_stayed"
 acP:Fc X CL "_law_parts" 6 3 uQ uR uS
 acQ:Fc X CL "_law_table" 3 1 uT uU uV
 Gi:Fm X CL "FlatRun" 9 2 qE iV qF
 YG:Fc X CL "merged" 5 1 rJ rK rL
 acR:Fc X CL "_law_alike" 2 2 uY uZ u9
 YH:FcM X CL "_law_back" 2 1 tY ym tZ qz
 dh:X.mg "len" = none
 mV:Fc X CL "_law_told" 1 1 jF jG jH
 YJ:Fc X CL "_law_stayed" 1 2 rP rQ rR
 vK:FqM X CL "FlatRun" "feed" 7 2 gW fJ gX fH
 jR:Fq X CL "FlatRun" "fed" 1 1 iN iO iP
 gE:Fq X CL "FlatRun" "numbers" 1 1 fc fh fj
def akW{b:Bx}(E:akV X CL) :
   qT X CL b YD aeA vh vm vn:=by
 intro a h;dsimp only [vm,vh,vn]at h ⊢;have hs:a.length<=63:=by omega
 have UL:=agP a (q:=24) Wp true;have hG:=acg a (q:=24) Wp true;have hn:=Qq a 24;have UH:=MV a;have hsl:=Bw a;have hso:=zy a;have hbl:=Qc a;have hxb:=akT a;have gl:(ZX a).length<=200:=by show 3<=200;decide
 rw[← hn]at hG;refine aK E.g E.eL (Bm (aF (c_ (a,24,true) E.acP E.IY (ah (aO E.aQ) (ah ai (ah (au FD) aH))) ⟨We,Wp⟩ (SY UL)) (t2:=pt7 (xQ a) (jg a) (ZX a) (pr7 a 24) (SW a 24 true)) rfl) (abQ ..)) ?_;generalize SW a 24 true=R at UL hG ⊢;generalize xQ a=bs at UL hG hbl hxb ⊢;generalize ZX a=bg at UL gl hxb ⊢;generalize jg a=hh at UL hG UH hsl hso ⊢;generalize pr7 a 24=pr at UL hG hn ⊢;clear hn;have tb:=UL.t;have ib:D.aT (bs.map gI)=true:=gC (fun _=>rfl) _;refine aK E.g E.bC (Bm (aF (c_ (bs,hh,bg,pr,R) E.acQ E.IZ (ah (aO E.eL) aH) ⟨UL.i,tb.c,tb.d,fun q hq r hr=>((tb.b q hq).2 r hr).b⟩ (S6 UL)) rfl) (Kz ..)) ?_;obtain⟨n,hn⟩:∃n,n=pr.length:=⟨_,rfl⟩;rw[← hn]at hG tb;obtain⟨F,hF⟩:∃F,F=mh R hh n:=⟨_,rfl⟩;have hl:F.length=n:=by rw[hF];exact q8 _
 have hN:cX F=F:=by rw[hF];exact uH _
 have tl:=tb.least UH hN hl;have gL:=hG.least UH hF;have hn0:0<n:=tb.f.1;have hc0:0<cn F:=gL.t.f.1;have hml:(bs.map (·.2)).length=bs.length:=ar3 ..;have K1:(bg.foldl It.af (bs.map (·.2))).length=bs.length:=(qU bg _).trans hml;obtain⟨T1,hT1⟩:∃T1,T1=eX (bs.map gI) (hh.map .str) (bg.map It.d) pr (fW R):=⟨_,rfl⟩;obtain⟨L,hL⟩:∃L,L=tF R hh F (cn F*hh.length):=⟨_,rfl⟩;obtain⟨T2,hT2⟩:∃T2,T2=eX (bs.map gI) (hh.map .str) ((bg.filter It.told).map It.d) (XA pr F) (fW L):=⟨_,rfl⟩;have hls:=fun {cs:Ap} {A:Nat} {B:AT} (ha:A<n) (hb:B.length=bs.length)=>Td (cs:=cs) hG UH hF ha hb;rw[← hL]at hls gL tl;obtain⟨A0,hA0⟩:∃A0,A0=F3 R hh (aV bg,0,bg.foldl It.af (bs.map (·.2))):=⟨_,rfl⟩;obtain⟨B0,hB0⟩:∃B0,B0=F4 R hh (aV bg,0,bg.foldl It.af (bs.map (·.2))):=⟨_,rfl⟩;obtain⟨r0,hr0⟩:∃r0,r0=(sX bg (bs.map (·.2))).map J.d++vC R hh (aV bg,0,bg.foldl It.af (bs.map (·.2))):=⟨_,rfl⟩;have st0:Sd n bs.length A0 B0 []:=by
   obtain⟨_,_,h5,h3,_⟩:=wm hG (cs:=aV bg) hn0 K1 8;rw[hA0,hB0];exact⟨h5,h3,fun q hq=>absurd hq aso⟩
 have hrl:r0.length<=1000:=by
   have:=(CT hG (cs:=aV bg) hn0 K1).1;rw[hr0,asa,ar3,xG];omega
 have hrw:∀d∈r0,Ep d:=fun d hd=>by
   rw[hr0]at hd;rcases asf.mp hd with z|z
   . exact Nf _ hxb d z
   . exact HJ hG hn0 K1 (KN hxb) d z
 refine aK E.g E.lV (aF (mkF (n,bs,bg,pr,hh,R) E.Gi E.Gh (aL (v_ E.bC.1) bK) (by dsimp only [iV];exact⟨hG,hn0,We,gl,hxb⟩)) (t2:=.ins "FlatRun" (cB T1 (.int A0) (dJ []) B0 (oF (some r0)))) (by rw[hA0,hB0,hr0,hT1];rfl)) ?_;have z0:=XQ tb hF;have e2:(vC L hh (aV (bg.filter It.told),0,(bg.filter It.told).foldl It.af (bs.map (·.2)))=(vC R hh (aV bg,0,bg.foldl It.af (bs.map (·.2)))).filter tD)/\F3 L hh (aV (bg.filter It.told),0,(bg.filter It.told).foldl It.af (bs.map (·.2)))=F.getD A0 0/\F4 L hh (aV (bg.filter It.told),0,(bg.filter It.told).foldl It.af (bs.map (·.2)))=B0:=by
   have:=hls (cs:=aV bg) hn0 K1;rw[z0]at this;rw[qW,xH,hA0,hB0];exact this
 refine aK E.g E.gk (aF (mkF (cn F,bs,bg.filter It.told,XA pr F,hh,L) E.Gi E.Gh (aL (Bm (aF (c_ (bs.map gI,pr,bg,hh,R) E.YG E.DG (ah (aO E.bC) aH) ⟨hn▸tb,UH,ib,UL.i,We⟩ (by show(T.ins "Table" _).clean=true;rw[T.clean,← hn,← hF,← hL];exact qX ib (dX _) (cZ _) (HG UL.i _) (nu tl))) (t2:=.ins "Table" (xJ (bs.map gI) (hh.map .str) ((bg.filter It.told).map It.d) (XA pr F) (fW L))) (by rw[hL,hF,hn];rfl)) (Kz ..)) bK) (by dsimp only [iV];exact⟨gL,hc0,We,Nat.le_trans (List.length_filter_le _ _) gl,fun x hx=>hxb x (List.mem_filter.mp hx).1⟩)) (t2:=.ins "FlatRun" (cB T2 (.int (F.getD A0 0:Nat)) (dJ []) B0 (oF (some (r0.filter tD))))) (by rw[hr0,List.filter_append,Qw,← e2.1,← e2.2.1,← e2.2.2,hT2];rfl)) ?_;clear hA0 hB0 hr0 e2;have aru:=hT1;have hal:∀{A:Nat} {B:AT} {l:List wo} {δ:AR} {p1 p2 p3 p4:Pos},Sd n bs.length A B l->l.length<=63->δ[3]? = some (some (.ins "FlatRun" (cB T1 (.int A) (dJ l) B (oF (some r0)))))->δ[4]? = some (some (.ins "FlatRun" (cB T2 (.int (F.getD A 0:Nat)) (dJ (l.map (ph F))) B (oF (some (r0.filter tD))))))->bO X CL b (.Call (.Name "_law_alike" p1) [.Name "one" p2,.Name "other" p3] [] p4) δ (.sh (.bl true)) δ:=fun {A B l δ p1 p2 p3 p4} st hl h3 h4=>aF (c_ (T1,.int A,T2,.int (F.getD A 0:Nat),l,l.map (ph F),B,r0,r0.filter tD) E.acR E.I0 (ah (vE E.lV.1 h3 nL) (ah (vE E.gk.1 h4 nL) aH)) ⟨by rw[ar3],YC F r0 l,st.st hrl hrw,(st.st hrl hrw).ph F,hl⟩ rfl) rfl;refine g8 (Vp (B9 (hal (l:=[]) st0 Wp rfl rfl))) (fun hp=>by cases hp) (fun _=>aA ?_);refine lT E.g E.cU (fun j δ=>∃(A:Nat) (B:AT) (l:List wo) (o5 o6:DO),(Sd n bs.length A B l/\l.length<=j)/\δ=[some (.sh (.lst (a.map .int))),some (.sh (.lst [.lst (bs.map gI),.lst (hh.map .str),.tup (bg.map It.d),.lst pr,.dct (iK (fW R))])),some (.sh (eX (bs.map gI) (hh.map .str) (bg.map It.d) pr (fW R))),some (.ins "FlatRun" (cB T1 (.int A) (dJ l) B (oF (some r0)))),some (.ins "FlatRun" (cB T2 (.int (F.getD A 0:Nat)) (dJ (l.map (ph F))) B (oF (some (r0.filter tD))))),o5,o6]) (g7 (v_ E.aQ.1)) ⟨A0,B0,[],_,_,⟨st0,asp _⟩,rfl⟩ (fun j δ ⟨_,_,_,_,_,_,e⟩=>by subst e;exact ar8 rfl) ?turn ?fin
 case turn=>
   rintro j d δ hj ⟨A,B,l,o5,o6,⟨st,hlj⟩,rfl⟩;rw[asi]at hj;obtain⟨c,hc,rfl⟩:=asF.mp hj;have arv:j<63:=by have:=(asl.mp hc).1;omega
   refine Cd (fun δ=>∃(A:Nat) (B:AT) (l:List wo) (o6:DO),(Sd n bs.length A B l/\l.length<=j+1)/\δ=[some (.sh (.lst (a.map .int))),some (.sh (.lst [.lst (bs.map gI),.lst (hh.map .str),.tup (bg.map It.d),.lst pr,.dct (iK (fW R))])),some (.sh (eX (bs.map gI) (hh.map .str) (bg.map It.d) pr (fW R))),some (.ins "FlatRun" (cB T1 (.int A) (dJ l) B (oF (some r0)))),some (.ins "FlatRun" (cB T2 (.int (F.getD A 0:Nat)) (dJ (l.map (ph F))) B (oF (some (r0.filter tD))))),some (.sh (.int c)),o6]) (gA (au (bH (aO E.cU) ai Wp)) ai).1 (fun _=>?bk) (fun _=>?fd) ?rest
   case bk=>
     obtain⟨A2,B2,l2,st2,hl2,b1,b2,b3,b4,b5,b6,b7,b8,b9⟩:=st.back F;obtain⟨p1,p2⟩:=st.pre F;refine ad9 (PV E.u (cM1 (fun z=>(z,T1,.int A,l,B,r0)) (.ins "FlatRun" (cB T1 (bkP (.int A) l) (dJ l.dropLast) (bkB B l) (oF (some r0)))) E.YH E.AU (ad6 E.lV.1 rfl rfl Mu) (fun y _=>⟨by show l.length<=1000;omega,p1⟩) (t:=.tup [.sh (.bl l.isEmpty),.lst (((bkR l).filter tD).map T.sh)]) (fun _ _=>rfl) (fun y _=>⟨rfl,.inl rfl,trivial⟩)) (QO ..) (cM1 (fun z=>(z,T2,.int (F.getD A 0:Nat),l.map (ph F),B,r0.filter tD)) (.ins "FlatRun" (cB T2 (bkP (.int (F.getD A 0:Nat)) (l.map (ph F))) (dJ (l.map (ph F)).dropLast) (bkB B (l.map (ph F))) (oF (some (r0.filter tD))))) E.YH E.AU (ad6 E.gk.1 rfl rfl Mu) (fun y _=>⟨by show(l.map (ph F)).length<=1000;rw[ar3];omega,p2⟩) (t:=.tup [.sh (.bl l.isEmpty),.lst (((bkR l).filter tD).map T.sh)]) (fun _ _=>by show T.tup [.sh (.bl (l.map (ph F)).isEmpty),.lst (((bkR (l.map (ph F))).filter tD).map T.sh)]=_;rw[b7,b8]) (fun y _=>⟨rfl,.inl rfl,trivial⟩)) (QO ..) (IX b9) (IX b9)) (fun hp=>absurd hp (akU (IX b9))) (fun _=>aA (aA ?_));rw[b1,b2,b3,b4,b5,b6];exact⟨A2,B2,l2,_,⟨st2,We⟩,rfl⟩
   case fd=>
     have l0:=asP (c / 5) (b:=(hh.length:Int)+1) We;have l1:=asQ (c / 5) (b:=(hh.length:Int)+1) We;have e1:hh.map D.str++[.str "strange0"]=(hh++[("strange0":Str)]).map D.str:=by rw[asn];rfl
     refine aK E.g E.f9 (dI (cY (ds:=(hh++[("strange0":Str)]).map D.str) (e1▸cD (Bl (cY (aO E.eL) ai CB) (cD (lX (ds:=[.str "strange0"]) (aq fY aX) aG)) (dX _) rfl (by rw[asD];simp;omega))) (au (bH (au (fk (aO E.cU) ai ⟨Wp,Wp⟩)) (au (bX (au (d8 (ar3 ..) E.dh (cY (aO E.eL) ai CB) E.dg)) ai)) We)) (v7 Str.empty l0 (by rw[asa];exact l1))) rfl) ?_;have hsg:PyData.strOk ((hh++[("strange0":Str)]).getD (c / 5 % ((hh.length:Int)+1)).toNat Str.empty)=true:=Qm (fun x hx=>by
       rcases asf.mp hx with z|z
       . exact hso x z
       . rw[asw.mp z];decide +kernel) _
     generalize (hh++[("strange0":Str)]).getD (c / 5 % ((hh.length:Int)+1)).toNat Str.empty=sg at hsg ⊢;have st2:=st.feed hG hsg;obtain⟨g1,g2,g3⟩:=hls (cs:=[sg]) st.a st.b;have hcs:∀x∈[sg],PyData.strOk x=true:=fun x hx=>by rw[asw.mp hx];exact hsg
     have w1:=HJ hG st.a st.b hcs;have w2:=(CT hG (cs:=[sg]) st.a st.b).1;have w3:∀d∈(vC R hh ([sg],A,B)).filter tD,Ep d:=fun d hd=>w1 d (ata.mp hd).1;have hFA:F.getD A 0<cn F:=HF hN (by rw[hl];exact st.a);refine ad9 (PV E.u (cFm (vC R hh ([sg],A,B)) E.mV E.jI (Wo (Wq (qM (dl:=[.str sg]) (fun z=>(z,bs.length,n,bs.map gI,bg.map It.d,pr,hh,R,A,l,B,some r0,sg)) (.ins "FlatRun" (cB T1 (.int (F3 R hh ([sg],A,B))) (dJ (l++[(A,B,vC R hh ([sg],A,B))])) (F4 R hh ([sg],A,B)) (oF (some r0)))) E.vK E.lV.1 (.own rfl) (aL (v_ E.f9.1) bK) (fun z _=>by dsimp only [fJ];exact⟨hG,st.a,st.b,We⟩) (t:=.lst ((vC R hh ([sg],A,B)).map T.sh)) (fun z _=>rfl) (fun z _=>⟨rfl,.inl (by rw[hT1]),trivial⟩) (BG Wl Wl Wl Wl Wl) (fun z _=>by rw[hT1];rfl)) (fM _)) aa9) ⟨We,w1⟩) (fM _) (qM (dl:=[.str sg]) (fun z=>(z,bs.length,cn F,bs.map gI,(bg.filter It.told).map It.d,XA pr F,hh,L,F.getD A 0,l.map (ph F),B,some (r0.filter tD),sg)) (.ins "FlatRun" (cB T2 (.int (F3 L hh ([sg],F.getD A 0,B))) (dJ (l.map (ph F)++[(F.getD A 0,B,vC L hh ([sg],F.getD A 0,B))])) (F4 L hh ([sg],F.getD A 0,B)) (oF (some (r0.filter tD))))) E.vK E.gk.1 (.own rfl) (aL (v_ E.f9.1) bK) (fun z _=>by dsimp only [fJ];exact⟨gL,hFA,st.b,by rw[List.length_map];omega⟩) (t:=.lst ((vC L hh ([sg],F.getD A 0,B)).map T.sh)) (fun z _=>rfl) (fun z _=>⟨rfl,.inl (by rw[hT2]),trivial⟩) (BG Wl Wl Wl Wl Wl) (fun z _=>by rw[hT2];rfl)) (by rw[g1];exact fM _) (xU w3) (xU w3)) (fun hp=>absurd hp (akU (xU w3))) (fun _=>aA (aA ?_));rw[g1,g2,g3];have em:l.map (ph F)++[(F.getD A 0,B,(vC R hh ([sg],A,B)).filter tD)]=(l++[(A,B,vC R hh ([sg],A,B))]).map (ph F):=by rw[asn];rfl
     rw[em];exact⟨_,_,_,_,⟨st2,by rw[asa,aun];omega⟩,rfl⟩
   case rest=>
     rintro δ ⟨A,B,l,o6,⟨st,hlj⟩,rfl⟩;have no:∀{cd pl:D} {pa:At} {r:At},(jJ cd pl pa B (yP (some r))).lookup ("fed":Str)=none/\(jJ cd pl pa B (yP (some r))).lookup ("numbers":Str)=none:=fun {cd pl pa r}=>⟨wk Wl Wl Wl Wl Wl,wk Wl Wl Wl Wl Wl⟩;have e0:(gD (l.map (ph F))).length=(gD l).length:=by unfold gD;rw[ar3,ar3,ar3]
     refine g8 (J1 (FH (v5 E.u (d1:=.int (gD l).length) (d2:=.int (gD (l.map (ph F))).length) (au (aF (ZN (T1,.int A,gD l,B,yP (some r0)) E.jR (vE E.lV.1 rfl nL) no.1 rfl trivial rfl) rfl)) (au (aF (ZN (T2,.int (F.getD A 0:Nat),gD (l.map (ph F)),B,yP (some (r0.filter tD))) E.jR (vE E.gk.1 rfl nL) no.1 rfl trivial rfl) rfl)) (.int _ _) (.int _ _)).1 (fun _=>Ca (v5 E.u (d1:=.lst (B.map .int)) (d2:=.lst (B.map .int)) (cD (aF (ZN (T1,.int A,gD l,B,yP (some r0)) E.gE (vE E.lV.1 rfl nL) no.2 rfl trivial (nj _)) rfl)) (cD (aF (ZN (T2,.int (F.getD A 0:Nat),gD (l.map (ph F)),B,yP (some (r0.filter tD))) E.gE (vE E.gk.1 rfl nL) no.2 rfl trivial (nj _)) rfl)) (zR _) (zR _)).1))) (fun hp=>absurd hp (by rw[e0,iI (show kQ 60 _ from .int _ _),iI (zR _)];decide)) (fun _=>aA (aA ⟨A,B,l,_,_,⟨st,hlj⟩,rfl⟩))
 case fin=>
   rintro δ ⟨A,B,l,o5,o6,⟨st,hlj⟩,rfl⟩;rw[ar3]at hlj;exact bA (aF (Vr (hal st We rfl rfl) (fun _=>Vq (aF (c_ (bs,hh,bg,pr,R) E.YJ E.EF (ah (aO E.bC) (ah (aO E.eL) aH)) UL rfl) (t2:=.sh (.bl true)) rfl))) (t2:=.sh (.bl true)) rfl) rfl
def ia:FG aeA ["script"] ["_law_parts","_law_table","FlatRun","merged","_law_alike","_law_back","len","_law_told","_law_stayed"] (av YD):=fG
def cl(ay ao aj az:Addr):Str->Addr:=fun c=>if c="Table" then ay else if c="Runner" then ao else if c="FlatRun" then aj else if c="NoStep" then az else 0
variable{ay ao aj az:Addr}
def jl:cl ay ao aj az "Table" = ay:=by unfold cl;rw[ass rfl]
def kL:cl ay ao aj az "Runner" = ao:=by unfold cl;rw[ash Wl];rw[ass rfl]
def aP:cl ay ao aj az "FlatRun" = aj:=by unfold cl;rw[ash Wl];rw[ash Wl];rw[ass rfl]
def kM:cl ay ao aj az "NoStep" = az:=by unfold cl;rw[ash Wl];rw[ash Wl];rw[ash Wl];rw[ass rfl]
def ahv(h:Ph x=true):cl ay ao aj az x=0:=by unfold cl;rw[ash (fun e=>by rw[e]at h;exact absurd h Wl)];rw[ash (fun e=>by rw[e]at h;exact absurd h Wl)];rw[ash (fun e=>by rw[e]at h;exact absurd h Wl)];rw[ash (fun e=>by rw[e]at h;exact absurd h Wl)]
def all_mk{l:PySem.W.OpenLaw}{w:World}{K:Frag}{h:Heap}{mg:Bz}{fa YK Gj QS QT QV YL YM aeB YN QW YQ K6 YR QX mJ QY DH YS Gk YT aeC Gm vN K7 Gn jY mK iW QZ jm f_back K8 Q0 vO K9 YV DI AV Q5 DJ iD jZ jn j6 k9 aeD:Addr}(XX:K.In h)(G:h.Ns mainGlobals mg)(hfa:mg "law" = some (.ref fa))
   {ahw TJ acS acT acU ahx ahy akX ahz acV ahA YW ahB acW Ja acX rH NC TL ahC akY zM pC DG TN DK Jb zV acY EG ahD YX rW pH Dv NS wF lG IQ wI yx DL EH DM EI aeE:FuncData}
   (Jc:oB K "Table" ay) (DN:plainGet K ay Str.empty=true) (DP:hasDictIn K ay=true) (DQ:plainOver K ay=true) (DR:findIn K (.ref ay) "__setattr__" = some (some (.builtin "object.__setattr__"))) (yy:makesIn K ay=true) (yz:keepIn K (.ref ay)=true)
   (pL:findIn K (.ref ay) "boxes" = some none)
   (pM:findIn K (.ref ay) "signs" = some none)
   (pN:findIn K (.ref ay) "begin" = some none)
   (pP:findIn K (.ref ay) "flats" = some none)
   (rY:findIn K (.ref ay) "rows" = some none)
   (DS:oB K "Runner" ao) (zW:plainGet K ao Str.empty=true) (zX:hasDictIn K ao=true) (zY:plainOver K ao=true) (zZ:findIn K (.ref ao) "__setattr__" = some (some (.builtin "object.__setattr__"))) (Gp:makesIn K ao=true) (Gq:keepIn K (.ref ao)=true)
   (nS:findIn K (.ref ao) "place" = some none)
   (pQ:findIn K (.ref ao) "past" = some none)
   (nT:findIn K (.ref ao) "boxes" = some none)
   (jb:findIn K (.ref ao) "first_rows" = some none)
   (z6:oB K "FlatRun" aj) (wJ:plainGet K aj Str.empty=true) (wK:hasDictIn K aj=true) (wL:plainOver K aj=true) (wM:findIn K (.ref aj) "__setattr__" = some (some (.builtin "object.__setattr__"))) (wO:makesIn K aj=true) (wQ:keepIn K (.ref aj)=true)
   (lO:findIn K (.ref aj) "table" = some none)
   (lP:findIn K (.ref aj) "place" = some none)
   (nU:findIn K (.ref aj) "past" = some none)
   (lQ:findIn K (.ref aj) "boxes" = some none)
   (iQ:findIn K (.ref aj) "first_rows" = some none)
   (DT:oB K "NoStep" az)
   {TQ TV:Str} {DU:Addr} {TX Gr TY:BY} {T3 T4:Bool} {T5:Ap} {N2:Option Bool} {T6:ET} {T7 T8 T9 Ua Ub:Option Value} (z7:K.lookup az=some (excClassObj TQ TV az DU TX Gr T3 T5 TY T4 N2 T6 T7 T8 T9 Ua Ub "ValueError.__new__")) (z8:nsOkIn K DU=true) (z9:nsIn K DU "__init__" = some none) (Aa:tailIn K Hh Gr=true)
   (kN:exmOne K (.ref az) (.ref az)=some true)
   (N3:oB K "_law_name" YK) (ahE:kr K "_law_name" "_law_name" Ng YK ahw)
   (Ab:oB K "_law_cell_at" Gj) (Uc:kr K "_law_cell_at" "_law_cell_at" zG Gj TJ)
   (Jd:oB K "_law_mixed" QS) (acZ:kr K "_law_mixed" "_law_mixed" HK QS acS)
   (Je:oB K "_law_signs" QT) (ac0:kr K "_law_signs" "_law_signs" HM QT acT)
   (Jf:oB K "_law_small" QV) (ac1:kr K "_law_small" "_law_small" HQ QV acU)
   (N4:oB K "_law_term" YL) (ahF:kr K "_law_term" "_law_term" Nj YL ahx)
   (N5:oB K "_law_deed" YM) (ahG:kr K "_law_deed" "_law_deed" Nm YM ahy)
   (YY:oB K "_law_ask" aeB) (akZ:kr K "_law_ask" "_law_ask" XW aeB akX)
   (N6:oB K "_law_face" YN) (ahH:kr K "_law_face" "_law_face" HW YN ahz)
   (Jg:oB K "_law_faces" QW) (ac2:kr K "_law_faces" "_law_faces" HZ QW acV)
   (N7:oB K "_law_next" YQ) (ahI:kr K "_law_next" "_law_next" Ig YQ ahA)
   (DV:oB K "_law_marked" K6) (YZ:kr K "_law_marked" "_law_marked" C7 K6 YW)
   (N8:oB K "_law_flat" YR) (ahJ:kr K "_law_flat" "_law_flat" Nr YR ahB)
   (Jh:oB K "_law_parts" QX) (ac3:kr K "_law_parts" "_law_parts" BL QX acW)
   (mL:findIn K (.ref ay) "__init__" = some (some (.ref mJ))) (mO:isFn K (.ref mJ)=true) (yC:kr K "__init__" "Table.__init__" rD mJ Ja)
   (Ji:oB K "_law_table" QY) (ac4:kr K "_law_table" "_law_table" Io QY acX)
   (wR:oB K "numbered" DH) (N9:kr K "numbered" "numbered" rG DH rH)
   (Oa:oB K "told" YS) (ahK:kr K "told" "told" Nx YS NC)
   (Ac:oB K "seen_at" Gk) (Ud:kr K "seen_at" "seen_at" zJ Gk TL)
   (Ob:oB K "seen" YT) (ahL:kr K "seen" "seen" Iu YT ahC)
   (Y0:oB K "led" aeC) (ak0:kr K "led" "led" Yn aeC akY)
   (Ad:oB K "classes" Gm) (Ue:kr K "classes" "classes" uX Gm zM)
   (pR:oB K "merged_rows" vN) (EJ:kr K "merged_rows" "merged_rows" kX vN pC)
   (DW:oB K "merged" K7) (Y3:kr K "merged" "merged" yi K7 DG)
   (Ae:oB K "_law_told" Gn) (Ug:kr K "_law_told" "_law_told" zN Gn TN)
   (nV:findIn K (.ref aj) "story" = some (some (.ref jY))) (nW:isFn K (.ref jY)=true) (nX:kr K "story" "Runner.story" nJ jY DK)
   (mP:findIn K (.ref aj) "fed" = some (some (.ref mK))) (mQ:isFn K (.ref mK)=true) (mR:kr K "fed" "Runner.fed" rM mK Jb)
   (iX:findIn K (.ref aj) "numbers" = some (some (.ref iW))) (iY:isFn K (.ref iW)=true) (iZ:kr K "numbers" "Runner.numbers" kJ iW zV)
   (Jj:oB K "_law_alike" QZ) (ac5:kr K "_law_alike" "_law_alike" Iz QZ acY)
   (lg:findIn K (.ref aj) "back" = some (some (.ref jm))) (lq:isFn K (.ref jm)=true) (jo:kr K "back" "Runner.back" kZ jm EG)
   (Oc:oB K "_law_back" f_back) (Od:kr K "_law_back" "_law_back" NF f_back ahD)
   (DX:oB K "_law_stayed" K8) (Y4:kr K "_law_stayed" "_law_stayed" Dr K8 YX)
   (Jk:oB K "value" Q0) (ac6:kr K "value" "value" IG Q0 rW)
   (pS:oB K "with_number" vO) (EK:kr K "with_number" "with_number" pF vO pH)
   (DY:oB K "redone" K9) (Y5:kr K "redone" "redone" Dt K9 Dv)
   (Oe:oB K "done" YV) (ahM:kr K "done" "done" NP YV NS)
   (wU:oB K "all_done" DI) (Og:kr K "all_done" "all_done" wB DI wF)
   (uf:oB K "performed" AV) (La:kr K "performed" "performed" t8 AV lG)
   (Jl:oB K "holds" Q5) (ac7:kr K "holds" "holds" IK Q5 IQ)
   (wV:oB K "all_hold" DJ) (Oh:kr K "all_hold" "all_hold" wG DJ wI)
   (j7:findIn K (.ref aj) "step_at" = some (some (.ref iD))) (j8:isFn K (.ref iD)=true) (j9:kr K "step_at" "FlatRun.step_at" jV iD yx)
   (kg:findIn K (.ref aj) "dealt" = some (some (.ref jZ))) (kh:isFn K (.ref jZ)=true) (ki:kr K "dealt" "Runner.dealt" nO jZ DL)
   (vP:findIn K (.ref ao) "__init__" = some (some (.ref jn))) (vQ:isFn K (.ref jn)=true) (pT:kr K "__init__" "Runner.__init__" pI jn EH)
   (nY:specialIn K (.ref ao) "__getattribute__" = some (some (.builtin "type.__getattribute__"))) (n5:readsIn K ao (.type "type")=true) (n6:findCls K (.ref ao) (.type "type") "__init__" = some (.val (.ref jn)))
   (n9:findIn K (.ref aj) "__init__" = some (some (.ref j6))) (oh:isFn K (.ref j6)=true) (ug:kr K "__init__" "FlatRun.__init__" nQ j6 DM)
   (pU:findIn K (.ref aj) "feed" = some (some (.ref k9))) (pV:isFn K (.ref k9)=true) (pW:kr K "feed" "Runner.feed" pK k9 EI)
   (Q6:oB K "law" aeD) (Y6:kr K "law" "law" YD aeD aeE)
   (Jm:nsIn K mainGlobals "range" = some none)
   (Y7:nsIn K mainGlobals "len" = some none)
   (Y8:nsIn K mainGlobals "max" = some none)
   (Jo:nsIn K mainGlobals "tuple" = some none)
   (Oi:nsIn K mainGlobals "list" = some none)
   (Y9:nsIn K mainGlobals "min" = some none)
   (Za:nsIn K mainGlobals "str" = some none)
   {Q7:Addr} {Zb:ET} {uW:Nat} {Zc:EQ} {Oj Ol Om Oo:Tok} (Jp:nsIn K mainGlobals "MARKS" = some (some (.ref Q7))) (yE:K.lookup Q7=some ⟨.type "tuple",Zb,.seq #[.str "out" Oj,.str "keep" Ol,.str "way" Om,.str "in" Oo] uW,Zc⟩)
   (Zd:nsIn K mainGlobals "set" = some none)
   (uh:nsIn K mainGlobals "enumerate" = some none)
   {Ze:Tok} (Jq:nsIn K mainGlobals "AFTER" = some (some (.int 3 Ze)))
   {EL:Tok} (rZ:nsIn K mainGlobals "MOST_SIGNS" = some (some (.int 8 EL)))
   : ∃fd:FuncData,(∀(s:Shared) (v:Value),BindsTo s fd ⟨[v],[]⟩ [("script",v)])/\∀base:Heap,K.In base->base.Ns mainGlobals mg->dP l.prog w K mg base pZ 11 fa fd ["script"] (GX K (fun _=>0) 1 vh vm vn):=by
 have e:=hfa.symm.trans (atG XX G Q6);cases e;have yF:=yC.binds (ps:=["self","boxes","signs","begin","flats","rows"]) fun _ _ _ _ _ _=>by refine kG ?_;exact fun _ _ _ _ _ _=>rfl
 have DZ:=nX.binds (ps:=["self"]) fun _ _ _ _ _ _=>by refine kG ?_;exact fun _=>rfl
 have yG:=mR.binds (ps:=["self"]) fun _ _ _ _ _ _=>by refine kG ?_;exact fun _=>rfl
 have qG:=iZ.binds (ps:=["self"]) fun _ _ _ _ _ _=>by refine kG ?_;exact fun _=>rfl
 have vR:=jo.binds (ps:=["self"]) fun _ _ _ _ _ _=>by refine kG ?_;exact fun _=>rfl
 have ahN:=atG XX G Oc;have ahO:=Od.binds (ps:=["run"]) fun _ _ _ _ _ _=>by refine kG ?_;exact fun _=>rfl
 have yH:=j9.binds (ps:=["self","sign"]) fun _ _ _ _ _ _=>by refine kG ?_;exact fun _ _=>rfl
 have um:=ki.binds (ps:=["self","called"]) fun _ _ _ _ _ _=>by refine kG ?_;exact fun _ _=>rfl
 have ER:=pT.binds (ps:=["self","boxes","place","script"]) fun _ _ _ _ _ _=>by refine kG ?_;exact fun _ _ _ _=>rfl
 have D0:=ug.binds (ps:=["self","table"]) fun _ _ _ _ _ _=>by refine kG ?_;exact fun _ _=>rfl
 have EV:=pW.binds (ps:=["self","sign"]) fun _ _ _ _ _ _=>by refine kG ?_;exact fun _ _=>rfl
 have apz:=atG XX G Q6;have apA:=Y6.binds (ps:=["script"]) fun _ _ _ _ _ _=>by refine kG ?_;exact fun _=>rfl
 have Q8:=atG XX G Jc;have aY:kO K ay:=⟨DN,DP,DQ,DR⟩;have gP:kO K ((cl ay ao aj az) "Table"):=by rw[jl];exact aY
 have cF:aI K ((cl ay ao aj az) "Table") "boxes":=by rw[jl];exact pL
 have g6:aI K ((cl ay ao aj az) "Table") "signs":=by rw[jl];exact pM
 have lu:aI K ((cl ay ao aj az) "Table") "begin":=by rw[jl];exact pN
 have ly:aI K ((cl ay ao aj az) "Table") "flats":=by rw[jl];exact pP
 have i6:aI K ((cl ay ao aj az) "Table") "rows":=by rw[jl];exact rY
 have Zf:=atG XX G DS;have Zg:kO K ao:=⟨zW,zX,zY,zZ⟩;have ak1:kO K ((cl ay ao aj az) "Runner"):=by rw[kL];exact Zg
 have Zh:aI K ((cl ay ao aj az) "Runner") "place":=by rw[kL];exact nS
 have ZZ:aI K ((cl ay ao aj az) "Runner") "past":=by rw[kL];exact pQ
 have Zi:aI K ((cl ay ao aj az) "Runner") "boxes":=by rw[kL];exact nT
 have Lw:aI K ((cl ay ao aj az) "Runner") "first_rows":=by rw[kL];exact jb
 have Uh:=atG XX G z6;have aE:kO K aj:=⟨wJ,wK,wL,wM⟩;have e7:kO K ((cl ay ao aj az) "FlatRun"):=by rw[aP];exact aE
 have sf:aI K ((cl ay ao aj az) "FlatRun") "table":=by rw[aP];exact lO
 have fK:aI K ((cl ay ao aj az) "FlatRun") "place":=by rw[aP];exact lP
 have gH:aI K ((cl ay ao aj az) "FlatRun") "past":=by rw[aP];exact nU
 have bS:aI K ((cl ay ao aj az) "FlatRun") "boxes":=by rw[aP];exact lQ
 have lH:aI K ((cl ay ao aj az) "FlatRun") "first_rows":=by rw[aP];exact iQ
 have D3:=atG XX G DT;have Af:Cu K az:=⟨⟨_,_,_,_,_,_,_,_,_,_,_,_,_,_,_,_,z7,z8,z9,Aa⟩⟩;have r6:=atx XX G Jm;have oW:=atx XX G Y7;have Zj:=atx XX G Y8;have r9:=atx XX G Jo;have pX:=atx XX G Oi;have ak2:=atx XX G Y9;have ak3:=atx XX G Za;have Q9:=atG XX G Jp;have ak4:=atx XX G Zd;have Lb:=atx XX G uh;have ac8:∃u,mg "AFTER" = some (.int 3 u):=⟨_,atG XX G Jq⟩;have Jr:∃u,mg "MOST_SIGNS" = some (.int 8 u):=⟨_,atG XX G rZ⟩;refine⟨aeE,?bind,fun base _ _=>?_⟩
 case bind=>
   obtain⟨oc,od,kV,doc,pm,an,jc,ct,Uz,rfl,lk,ko⟩:=Y6.ex;exact fun s v=>.of_eq rfl
 have q:=@agq l.prog w mg base K h (cl ay ao aj az) XX G;have Zk:=q 0 tH tK tL ahE rg.1 N3 fun hr u p=>agV (by exact⟨u,gL rg 0,gL rg 1,gL rg 2,gL rg 3,gL rg 4,gG rg 0,r6⟩) p;have mX:=q 0 fO fP fQ Uc rm.1 Ab fun hr u p=>Tf (by exact⟨u,gL rm 0,gL rm 1,gG rm 0,oW⟩) p;have sd:=q 0 gY gZ g5 acZ xV.1 Jd fun hr u p=>acj (by exact⟨u,gL xV 0,gL xV 1,gL xV 2⟩) p;have ac9:=q 1 uJ uK uL ac0 jh.1 Je fun hr u p=>acm (by exact⟨u,gL jh 0,gL jh 1,gL jh 2,gL jh 3,gL jh 4,gL jh 5,gG jh 0,gG jh 1,gG jh 2,di Zk hr,di mX hr,di sd hr⟩) p;have Ra:=q 0 qp qq qt ac1 C3.1 Jf fun hr u p=>aco (by exact⟨u,gL C3 0,gL C3 1⟩) p;have Zm:=q 1 tM tN tO ahF BH.1 N4 fun hr u p=>agZ (by exact⟨u,gL BH 0,gL BH 1,gG BH 0,di Ra hr⟩) p;have Zn:=q 2 tP ny tQ ahG mj.1 N5 fun hr u p=>ag1 (by exact⟨u,gL mj 0,gL mj 1,gL mj 2,gL mj 3,gL mj 4,gG mj 0,gG mj 1,gG mj 2,di Zk hr,oW,di Zm hr⟩) p;have ak5:=q 2 BI BJ BK akZ zI.1 YY fun hr u p=>akz (by exact⟨u,gL zI 0,gL zI 1,gL zI 2,gG zI 0,gG zI 1,di sd hr,di Zm hr⟩) p;have ahP:=q 3 xW qu xX ahH acq N6 fun hr u p=>ag4 (by exact⟨u,qS cK 0,JB cK 1,dG cK 1 rfl,qS cK 2,JB cK 3,dG cK 3 rfl,JB cK 4,dG cK 4 rfl,qS cK 5,JB cK 6,dG cK 6 rfl,qS cK 7,qS cK 8,JB cK 9,dG cK 9 rfl,qS cK 10,qS cK 11,sy cK 12,sy cK 13,sy cK 14,sy cK 15,sy cK 16,sy cK 17,sy cK 18,di mX hr,Zj,oW,di sd hr,r6,r9,di Zn hr,di ak5 hr⟩) p;have ada:=q 4 uM uN uO ac2 dM.1 Jg fun hr u p=>acs (by exact⟨u,gL dM 0,gL dM 1,gL dM 2,gL dM 3,gL dM 4,gL dM 5,gL dM 6,gL dM 7,gL dM 8,gL dM 9,gL dM 10,gG dM 0,gG dM 1,gG dM 2,gG dM 3,gG dM 4,di sd hr,di mX hr,r6,di ahP hr,oW⟩) p;have ahQ:=q 1 xY xZ x6 ahI acv N7 fun hr u p=>ag7 (by exact⟨u,qS fU 0,JB fU 1,dG fU 1 rfl,qS fU 2,qS fU 3,qS fU 4,qS fU 5,qS fU 6,JB fU 7,dG fU 7 rfl,qS fU 8,sy fU 9,sy fU 10,sy fU 11,sy fU 12,sy fU 13,sy fU 14,Zj,di sd hr,di mX hr,r6,oW,pX⟩) p;have Zo:=q 0 rz rA rB YZ mU.1 DV fun hr u p=>Ye (by exact⟨u,gL mU 0,gL mU 1,gL mU 2,gL mU 3,gL mU 4⟩) p;have ahR:=q 1 x8 tU x9 ahJ oJ.1 N8 fun hr u p=>ag9 (by exact⟨u,gL oJ 0,gL oJ 1,gL oJ 2,gL oJ 3,gG oJ 0,gG oJ 1,gG oJ 2,di sd hr,di mX hr,r9⟩) p;have adb:=q 5 uQ uR uS ac3 Yj Jh fun hr u p=>acB (by exact⟨u,JB bu 0,dG bu 0 rfl,qS bu 1,qS bu 2,JB bu 3,dG bu 3 rfl,qS bu 4,qS bu 5,JB bu 6,dG bu 6 rfl,qS bu 7,qS bu 8,qS bu 9,qS bu 10,qS bu 11,qS bu 12,qS bu 13,qS bu 14,qS bu 15,qS bu 16,qS bu 17,sy bu 18,sy bu 19,sy bu 20,sy bu 21,sy bu 22,sy bu 23,sy bu 24,sy bu 25,sy bu 26,sy bu 27,sy bu 28,Zj,ak2,oW,di ac9 hr,r6,di sd hr,di mX hr,di ada hr,di ahQ hr,di Zo hr,di Zn hr,ak3,di Ra hr,di ahR hr⟩) p;have yI:dP l.prog w K mg base pZ 1 mJ _ ["self","boxes","signs","begin","flats","rows"] (spI K (cl ay ao aj az) "Table" 6 nA nB nE):=Pr yC cE.1 fun jc Ar outer s H E b a y hr hp=>by
   obtain⟨p0,p1,p2,p3,p4,p5⟩:=a;refine Im ?_ p0 p1 p2 p3 p4 p5 y hp;exact⟨⟨⟨cE.nd,rfl,.never⟩,hr.units⟩,gL cE 0,gL cE 1,gL cE 2,gL cE 3,gL cE 4,gL cE 5,gL cE 6,gG cE 0,gG cE 1,pX,r9,e7,gP,cF,bS,g6,lu,ly,i6⟩
 have ade:=q 2 uT uU uV ac4 nF.1 Ji fun hr u p=>acD (by exact⟨u,gL nF 0,gL nF 1,gL nF 2,gL nF 3,gG nF 0,gG nF 1,pX,⟨⟨_,_,_,by rw[jl];exact⟨yy,mL,mO,yz⟩,yI,by rw[jl];exact Q8,yF⟩,hr.mono Wp⟩⟩) p;have Oq:=q 0 mw mz mC N9 KW wR fun hr u p=>Nv (by exact⟨u,qS lE 0,JB lE 1,dG lE 1 rfl,qS lE 2,sy lE 3,oW⟩) p;have Ot:=q 0 qv qw qx ahK QJ.1 Oa fun hr u p=>ahh (by exact⟨u,gL QJ 0,akg Q9 yE⟩) p;have Ui:=q 1 oM oN oO Ud nG.1 Ac fun hr u p=>Tp (by exact⟨u,gL nG 0,gL nG 1,gL nG 2,gG nG 0,r9,di Ot hr,gP,i6⟩) p;have ahS:=q 2 yd ye yf ahL acE Ob fun hr u p=>ahk (by exact⟨u,JB yg 0,dG yg 0 rfl,JB yg 1,dG yg 1 rfl,sy yg 2,r9,di Ui hr,gP,g6⟩) p;have ak6:=q 0 BP BQ BR ak0 tV.1 Y0 fun hr u p=>akK (by exact⟨u,gL tV 0,gL tV 1,gL tV 2,gL tV 3,gL tV 4,gL tV 5,gG tV 0,r9,gP,g6,i6⟩) p;have Uj:=q 3 oR oS oU Ue NB Ad fun hr u p=>Tt (by exact⟨u,JB gM 0,dG gM 0 rfl,JB gM 1,dG gM 1 rfl,qS gM 2,sy gM 3,sy gM 4,sy gM 5,sy gM 6,di Oq hr,r6,oW,ak4,di ahS hr,di ak6 hr,gP,ly⟩) p;have EW:=q 1 jr jt ju EJ Dg pR fun hr u p=>Et (by exact⟨u,qS nI 0,JB nI 1,dG nI 1 rfl,r9,di Ot hr⟩) p;have Zq:=q 4 rJ rK rL Y3 Tw DW fun hr u p=>Yr (by exact⟨u,JB cJ 0,dG cJ 0 rfl,JB cJ 1,dG cJ 1 rfl,qS cJ 2,qS cJ 3,qS cJ 4,qS cJ 5,qS cJ 6,qS cJ 7,sy cJ 8,sy cJ 9,sy cJ 10,sy cJ 11,sy cJ 12,sy cJ 13,sy cJ 14,di Uj hr,r6,oW,Lb,di EW hr,⟨⟨_,_,_,by rw[jl];exact⟨yy,mL,mO,yz⟩,yI,by rw[jl];exact Q8,yF⟩,hr.mono Wp⟩,di Ot hr,e7,gP,g6,cF,bS,ly,lu,i6⟩) p;have Ag:=q 0 jF jG jH Ug Dj.1 Ae fun hr u p=>TF (by exact⟨u,gL Dj 0⟩) p;have D4:dP l.prog w K mg base pZ 1 jY _ ["self"] (GX K (cl ay ao aj az) 1 iR iS iU):=uA nX fD.1 fun jc Ar outer s H E b a hr hp=>by
   refine Dm ?_ hp;exact⟨⟨⟨fD.nd,rfl,.never⟩,hr.units⟩,gL fD 0,gL fD 1,gL fD 2,gG fD 0,pX,e7,gH,lH⟩
 have yJ:dP l.prog w K mg base pZ 1 mK _ ["self"] (GX K (cl ay ao aj az) 1 iN iO iP):=uA mR kY.1 fun jc Ar outer s H E b a hr hp=>by
   refine Iw ?_ hp;exact⟨⟨⟨kY.nd,rfl,.never⟩,hr.units⟩,gL kY 0,gG kY 0,oW,e7,gH⟩
 have qH:dP l.prog w K mg base pZ 1 iW _ ["self"] (GX K (cl ay ao aj az) 1 fc fh fj):=uA iZ iz.1 fun jc Ar outer s H E b a hr hp=>by
   refine zQ ?_ hp;exact⟨⟨⟨iz.nd,rfl,.never⟩,hr.units⟩,gL iz 0,gG iz 0,pX,e7,gP,cF,bS⟩
 have adf:=q 1 uY uZ u9 ac5 yk.1 Jj fun hr u p=>acG (by exact⟨u,gL yk 0,gL yk 1,gG yk 0,di Ag hr,⟨⟨_,_,_,by rw[aP];exact⟨nV,nW,nX.kp⟩,D4,DZ⟩,hr.mono Wp,by rw[aP];exact aE⟩,⟨⟨_,_,_,by rw[aP];exact⟨mP,mQ,mR.kp⟩,yJ,yG⟩,hr.mono Wp,by rw[aP];exact aE⟩,⟨⟨_,_,_,by rw[aP];exact⟨iX,iY,iZ.kp⟩,qH,qG⟩,hr.mono Wp,by rw[aP];exact aE⟩⟩) p;have EX:dP l.prog w K mg base pZ 1 jm _ ["self"] (Sb K (cl ay ao aj az) 1 gQ jv gR fE):=Cr jo bR.1 (fun a hp=>by
   obtain⟨p0,p1,p2,p3,p4,p5,p6⟩:=a;dsimp only [gQ,fE]
   repeat (first|exact trivial|refine⟨rfl,?_⟩)) fun jc Ar outer s H E b a hr hp=>by
   obtain⟨p0,p1,p2,p3,p4,p5,p6⟩:=a;refine Ew ?_ p0 p1 p2 p3 p4 p5 p6 hp;exact⟨⟨⟨bR.nd,rfl,.never⟩,hr.units⟩,gL bR 0,gL bR 1,gG bR 0,gG bR 1,oW,by rw[kM];exact D3,by rw[kM];exact Af,e7,gP,fK,cF,bS,gH⟩
 have D5:dP l.prog w K mg base (CX8 l.prog w) 1 jm _ ["self"] (spR K (cl ay ao aj az) 1 iA iB iC):=agg jo bR.1 fun jc Ar outer s H E b a hr hp hE=>by
   obtain⟨p0,p1,p2,p3⟩:=a;refine Dp ?_ p0 p1 p2 p3 hp hE;exact⟨⟨⟨bR.nd,rfl,aa0 rfl rfl⟩,hr.units⟩,gL bR 0,gL bR 1,gG bR 0,gG bR 1,oW,by rw[kM];exact D3,by rw[kM];exact Af,e7,gP,fK,cF,bS,gH⟩
 have ahT:dP l.prog w K mg base pZ 2 f_back _ ["run"] (Sb K (cl ay ao aj az) 1 tY ym tZ qz):=Cr Od rO.1 (fun a hp=>by
   obtain⟨p0,p1,p2,p3,p4,p5⟩:=a;dsimp only [tY,qz]
   repeat (first|exact trivial|refine⟨rfl,?_⟩)) fun jc Ar outer s H E b a hr hp=>by
   obtain⟨p0,p1,p2,p3,p4,p5⟩:=a;refine ahr ?_ p0 p1 p2 p3 p4 p5 hp;exact⟨⟨⟨rO.nd,rfl,.never⟩,hr.units⟩,gL rO 0,gL rO 1,gL rO 2,gG rO 0,gG rO 1,by rw[kM];exact D3,by rw[kM];exact Af,di Ag hr,⟨⟨_,_,_,by rw[aP];exact⟨lg,lq,jo.kp⟩,D5,vR⟩,hr.mono Wp,by rw[aP];exact aE⟩,⟨⟨_,_,_,by rw[aP];exact⟨lg,lq,jo.kp⟩,EX,vR⟩,hr.mono Wp,by rw[aP];exact aE⟩,rfl,rfl,rfl,by rw[kM];exact kN⟩
 have Zr:=q 0 rP rQ rR Y4 zU.1 DX fun hr u p=>Yu (by exact⟨u,gL zU 0,gL zU 1,e7,gP,cF,bS,g6,lu,ly,i6⟩) p;have Rb:=q 0 qA qB qC ac6 t6.1 Jk fun hr u p=>acJ (by exact⟨u,gL t6 0,gL t6 1,gL t6 2,gL t6 3⟩) p;have EY:=q 0 jw jx jy EK gF.1 pS fun hr u p=>Ez (by exact⟨u,gL gF 0,gL gF 1,gL gF 2,gL gF 3,gG gF 0,pX⟩) p;have Zt:=q 1 rS rT rV Y5 qD.1 DY fun hr u p=>Yx (by exact⟨u,gL qD 0,gL qD 1,gG qD 0,gG qD 1,di EY hr,ac8⟩) p;have ahU:=q 2 yo yp yq ahM rX.1 Oe fun hr u p=>aht (by exact⟨u,gL rX 0,gL rX 1,gL rX 2,gL rX 3,gG rX 0,gG rX 1,di Rb hr,di Zt hr⟩) p;have Ou:=q 3 mE jS jT Og eS.1 wU fun hr u p=>NT (by exact⟨u,gL eS 0,gL eS 1,gL eS 2,gL eS 3,gL eS 4,gL eS 5,gL eS 6,gG eS 0,gG eS 1,pX,di ahU hr⟩) p;have AW:=q 4 jj gi jk La cV.1 uf fun hr u p=>K5 (by exact⟨u,gL cV 0,gL cV 1,gL cV 2,gL cV 3,gL cV 4,gL cV 5,gL cV 6,gG cV 0,gG cV 1,gG cV 2,pX,akg Q9 yE,di Ou hr⟩) p;have adg:=q 1 ve vf vg ac7 nM.1 Jl fun hr u p=>acN (by exact⟨u,gL nM 0,gL nM 1,gL nM 2,gL nM 3,gL nM 4,gG nM 0,di Rb hr⟩) p;have Ov:=q 2 mF mG mH Oh lF.1 wV fun hr u p=>NZ (by exact⟨u,gL lF 0,gL lF 1,gL lF 2,gG lF 0,di adg hr⟩) p;have yK:dP l.prog w K mg base pZ 4 iD _ ["self","sign"] (GX K (cl ay ao aj az) 2 gn dY gu):=uA j9 dw.1 fun jc Ar outer s H E b a hr hp=>by
   refine yu ?_ hp;exact⟨⟨⟨dw.nd,rfl,.never⟩,hr.units⟩,gL dw 0,gL dw 1,gL dw 2,gG dw 0,di Ov hr,e7,gP,g6,fK,sf,i6,cF,bS⟩
 have uo:dP l.prog w K mg base pZ 6 jZ _ ["self","called"] (Sb K (cl ay ao aj az) 2 eY dB eZ dz):=Cr ki bw.1 (fun a hp=>by
   obtain⟨p0,p1,p2,p3,p4,p5,p6,p7,p8,p9,p10,p11,p12⟩:=a;dsimp only [eY,dz]
   repeat (first|exact trivial|refine⟨rfl,?_⟩)) fun jc Ar outer s H E b a hr hp=>by
   obtain⟨p0,p1,p2,p3,p4,p5,p6,p7,p8,p9,p10,p11,p12⟩:=a;refine DC ?_ p0 p1 p2 p3 p4 p5 p6 p7 p8 p9 p10 p11 p12 hp;exact⟨⟨⟨bw.nd,rfl,.never⟩,hr.units⟩,gL bw 0,gL bw 1,gL bw 2,gL bw 3,gL bw 4,gL bw 5,gL bw 6,gL bw 7,gG bw 0,gG bw 1,gG bw 2,gG bw 3,pX,Jr,di AW hr,oW,⟨⟨_,_,_,by rw[aP];exact⟨j7,j8,j9.kp⟩,yK,yH⟩,hr.mono Wp,by rw[aP];exact aE⟩,e7,gP,fK,cF,bS⟩
 have EZ:dP l.prog w K mg base pZ 7 jn _ ["self","boxes","place","script"] (Sb K (cl ay ao aj az) 4 gS gT gU fF):=Cr pT dN.1 (fun a hp=>by
   obtain⟨p0,p1,p2,p3,p4,p5,p6,p7,p8,p9⟩:=a;dsimp only [gS,fF]
   repeat (first|exact trivial|refine⟨rfl,?_⟩)) fun jc Ar outer s H E b a hr hp=>by
   obtain⟨p0,p1,p2,p3,p4,p5,p6,p7,p8,p9⟩:=a;refine EC ?_ p0 p1 p2 p3 p4 p5 p6 p7 p8 p9 hp;exact⟨⟨⟨dN.nd,rfl,.never⟩,hr.units⟩,gL dN 0,gL dN 1,gL dN 2,gL dN 3,gL dN 4,gG dN 0,di AW hr,⟨⟨_,_,_,by rw[aP];exact⟨kg,kh,ki.kp⟩,uo,um⟩,hr.mono Wp,by rw[aP];exact aE⟩,e7,gP,fK,gH,cF,bS,lH⟩
 have D6:dP l.prog w K mg base pZ 9 j6 _ ["self","table"] (spI K (cl ay ao aj az) "FlatRun" 2 qE iV qF):=Pr ug gV.1 fun jc Ar outer s H E b a y hr hp=>by
   obtain⟨p0,p1,p2,p3,p4,p5⟩:=a;refine DF ?_ p0 p1 p2 p3 p4 p5 y hp;exact⟨⟨⟨gV.nd,rfl,.never⟩,hr.units⟩,gL gV 0,gL gV 1,gG gV 0,⟨⟨_,_,_,by rw[kL];exact⟨nY,n5,n6,pT.kp⟩,EZ,by rw[kL];exact Zf,ER⟩,hr.mono Wp⟩,e7,gP,sf,lu,cF,bS⟩
 have E1:dP l.prog w K mg base pZ 7 k9 _ ["self","sign"] (Sb K (cl ay ao aj az) 2 gW fJ gX fH):=Cr pW dO.1 (fun a hp=>by
   obtain⟨p0,p1,p2,p3,p4,p5,p6,p7,p8,p9,p10,p11,p12⟩:=a;dsimp only [gW,fH]
   repeat (first|exact trivial|refine⟨rfl,?_⟩)) fun jc Ar outer s H E b a hr hp=>by
   obtain⟨p0,p1,p2,p3,p4,p5,p6,p7,p8,p9,p10,p11,p12⟩:=a;refine EE ?_ p0 p1 p2 p3 p4 p5 p6 p7 p8 p9 p10 p11 p12 hp;exact⟨⟨⟨dO.nd,rfl,.never⟩,hr.units⟩,gL dO 0,gL dO 1,gL dO 2,gL dO 3,gL dO 4,gG dO 0,pX,⟨⟨_,_,_,by rw[aP];exact⟨kg,kh,ki.kp⟩,uo,um⟩,hr.mono Wp,by rw[aP];exact aE⟩,e7,gP,fK,cF,bS,gH⟩
 have ala:dP l.prog w K mg base pZ 11 _ _ ["script"] (GX K (cl ay ao aj az) 1 vh vm vn):=uA Y6 ia.1 fun jc Ar outer s H E b a hr hp=>by
   refine akW ?_ hp;exact⟨⟨⟨ia.nd,rfl,.never⟩,hr.units⟩,gL ia 0,gL ia 1,gL ia 2,gL ia 3,gL ia 4,gL ia 5,gL ia 6,gG ia 0,gG ia 1,gG ia 2,gG ia 3,gG ia 4,gG ia 5,gG ia 6,gG ia 7,gG ia 8,di adb hr,di ade hr,⟨⟨_,_,_,by rw[aP];exact⟨wO,n9,oh,wQ⟩,D6,by rw[aP];exact Uh,D0⟩,hr.mono Wp⟩,di Zq hr,di adf hr,⟨⟨_,_,_,ahT,ahN,Od.kp,ahO⟩,hr.mono Wp⟩,oW,di Ag hr,di Zr hr,⟨⟨_,_,_,by rw[aP];exact⟨pU,pV,pW.kp⟩,E1,EV⟩,hr.mono Wp,by rw[aP];exact aE⟩,⟨⟨_,_,_,by rw[aP];exact⟨mP,mQ,mR.kp⟩,yJ,yG⟩,hr.mono Wp,by rw[aP];exact aE⟩,⟨⟨_,_,_,by rw[aP];exact⟨iX,iY,iZ.kp⟩,qH,qG⟩,hr.mono Wp,by rw[aP];exact aE⟩⟩
 exact ala.imp (afX (fun _=>rfl) (fun _=>rfl) fun x hx=>ahv hx)
def walk{l:PySem.W.OpenLaw}{q:Program}{loose:Ap}{XP:Bz->Heap->Prop}{YP:World->Heap->Prop}{d:DefRec}{K:Params->Frag}(hn:l.most=some 63)(hdf:d.params.defaults=[])
   (hY:∀(w:World) (h:Heap),YP w h->(K w.params).In h)
   (F:∀(w:World) (mg:Bz) (fa:Addr) (h:Heap),(K w.params).In h->h.Ns mainGlobals mg->mg d.name=some (.ref fa) →
     ∃fd:FuncData,(∀(s:Shared) (u:Value),BindsTo s fd ⟨[u],[]⟩ [("script",u)])/\∀base:Heap,(K w.params).In base->base.Ns mainGlobals mg->dP l.prog w (K w.params) mg base pZ 11 fa fd ["script"] (GX (K w.params) (fun _=>0) 1 vh vm vn)) :
   PySem.W.WalkO q loose XP YP l.row.toRowW d [] (fun f vs=>PySem.call f vs):=
 L2.aaq (n:=63) (k:=11) (x:="script") (CX:=fun _=>pZ) (sp:=fun w=>GX (K w.params) (fun _=>0) 1 vh vm vn) hn Wp hdf ⟨rfl,Wp,Wp⟩ hY F (fun _ _ a ns hl _ hS=>afQ rfl hl rfl hS) fun _ _ _ _ _ z=>z
end Law
end
namespace PySem.W.Fast
def tw17840394354305476189:=0
def tw5676102367817980840:=0
def tw13229754594188712996:=0
def tw13791543086721391164:=0
def tw8752663354977928749:=0
def tw15490457477019051155:=0
def tw6304808328706354297:=0
def tw6911500762803971162:=0
def tw8182961753614905171:=0
def tw4127308765154199985:=0
def tw17414316601184371255:=0
def tw3952248092632286750:=0
def tw15368609543864213514:=0
def tw9163119373810381399:=0
def tw13221838952444927898:=0
def tw11162338266758436661:=0
def tw9519829323028518647:=0
def tw15739221993247352120:=0
def tw14627729493767785993:=0
def tw4536639553288898205:=0
def tw1997112635780328565:=0
def tw13438007825563968410:=0
def tw2220633837661666251:=0
def tw4440559567116369:=0
def tw1851641737309911980:=0
def tw1149774873336821150:=0
def tw1305182283181767158:=0
def tw2998595272352134871:=0
def tw16256424934818897868:=0
def tw11743513511589502731:=0
def tw1979347028886911296:=0
def tw10872889309654133861:=0
def tw1631935449264751551:=0
def tw17096934358799030555:=0
def tw5837042994212938317:=0
def tw12379897156490975562:=0
def tw3914625367953474411:=0
def tw49869879886727153:=0
def tw2200992487158912285:=0
def tw8725607026712149729:=0
def tw13748083896270557841:=0
def tw9248935768792756248:=0
def tw2751365503188111812:=0
def tw445906824209712729:=0
def tw12572790660805566953:=0
def tw5632629801030113363:=0
def tw1389833476360364121:=0
def tw599131716601399014:=0
def tw6376131064230427842:=0
def tw9693326722301651522:=0
def tw8720416661275814725:=0
def tw2842926565901616189:=0
def tw426524303813751597:=0
def tw16497242308793008806:=0
def tw7564703055646717469:=0
def tw17667239343118833940:=0
def tw1601316830597202941:=0
def tw17769436257695250216:=0
def tw11410596930063036625:=0
end PySem.W.Fast
open PySem PySem.W PyProof.Rows L2
set_option maxRecDepth 100000 in
set_option maxHeartbeats 0 in
theorem PySem.Challenge.cw_moodtree_k61_whole_least_runs_alike_holds : PySem.Challenge.rw_moodtree_k61_whole_least_runs_alike.Holds := by
 w_on; o_law; k_head; (case hw => w_witness2)
 k_fill
 refine Law.walk (l := PySem.Challenge.rw_moodtree_k61_whole_least_runs_alike) rfl rfl (fun w h Y => PySem.W.kIn_of Y) ?F
 case F =>
   intro w mg fa h KX G hmg
   refine' Law.all_mk KX G hmg ?Jc ?DN ?DP ?DQ ?DR ?yy ?yz ?pL ?pM ?pN ?pP ?rY ?DS ?zW ?zX ?zY ?zZ ?Gp ?Gq ?nS ?pQ ?nT ?jb ?z6 ?wJ ?wK ?wL ?wM ?wO ?wQ ?lO ?lP ?nU ?lQ ?iQ ?DT ?z7 ?z8 ?z9 ?Aa ?kN ?N3 (bB ?pe ?ahV ?ahW) ?Ab (bB ?Uk ?Ul ?Um) ?Jd (bB ?cG ?adh ?adi) ?Je (bB ?Il ?adj ?adk) ?Jf (bB ?adl ?adn ?ado) ?N4 (bB ?IJ ?ahX ?ahY) ?N5 (bB ?g9 ?ahZ ?ah0) ?YY (bB ?AQ ?alb ?alc) ?N6 (bB ?ah1 ?ah2 ?ah3) ?Jg (bB ?oH ?adp ?adq) ?N7 (bB ?ah4 ?ah5 ?ah6) ?DV (bB ?Zu ?Zv ?Zw) ?N8 (bB ?jA ?ah7 ?k_flat) ?Jh (bB ?eL ?ads ?adt) ?mL ?mO (bB ?Js ?Jt ?Ju) ?Ji (bB ?bC ?adu ?oQ) ?wR (bB ?Ow ?Ox ?Oz) ?Oa (bB ?ah8 ?ah9 ?aia) ?Ac (bB ?Uo ?Up ?Uq) ?Ob (bB ?aib ?aic ?aid) ?Y0 (bB ?ald ?ale ?alf) ?Ad (bB ?Ur ?Us ?Ut) ?pR (bB ?E2 ?E3 ?E4) ?DW (bB ?Zx ?Zy ?Zz) ?Ae (bB ?Uu ?Uv ?Uw) ?nV ?nW (bB ?D7 ?D8 ?D9) ?mP ?mQ (bB ?Jv ?Jw ?Jx) ?iX ?iY (bB ?Ah ?Ai ?Aj) ?Jj (bB ?uP ?adv ?adw) ?lg ?lq (bB ?E5 ?E6 ?E7) ?Oc (bB ?aie ?aif ?aih) ?DX (bB ?ZC ?ZD ?ZE) ?Jk (bB ?adx ?ady ?adz) ?pS (bB ?E8 ?E9 ?Fb) ?DY (bB ?ZF ?ZG ?ZH) ?Oe (bB ?aii ?aij ?aik) ?wU (bB ?OB ?OD ?OG) ?uf (bB ?Lc ?Ld ?Le) ?Jl (bB ?adA ?adB ?adC) ?wV (bB ?OI ?OJ ?OL) ?j7 ?j8 (bB ?yL ?yM ?yN) ?kg ?kh (bB ?Ea ?Eb ?Ec) ?vP ?vQ (bB ?Fd ?Fe ?pJ) ?nY ?n5 ?n6 ?n9 ?oh (bB ?Ed ?Ef ?Eg) ?pU ?pV (bB ?Ff ?Fg ?Fi) ?Q6 (bB ?alg ?alh ?ali) ?Jm ?Y7 ?Y8 ?Jo ?Oi ?Y9 ?Za ?Jp ?yE ?Zd ?uh ?Jq ?rZ
   case Jc | DN | DP | DQ | DR | yy | yz | pL | pM | pN | pP | rY | DS | zW | zX | zY | zZ | Gp | Gq | nS | pQ | nT | jb | z6 | wJ | wK | wL | wM | wO | wQ | lO | lP | nU | lQ | iQ | DT | z7 => (try delta L3.oB); k_is
   case z8 => kernel_rfl
   case z9 => (try delta L3.oB); k_is
   case Aa => kernel_rfl
   case kN => kts_exm
   case N3 | pe | ahV | ahW | Ab | Uk | Ul | Um | Jd | cG | adh | adi | Je | Il | adj | adk | Jf | adl | adn | ado | N4 | IJ | ahX | ahY | N5 | g9 | ahZ | ah0 | YY | AQ | alb | alc | N6 | ah1 | ah2 | ah3 | Jg | oH | adp | adq | N7 | ah4 | ah5 | ah6 | DV | Zu | Zv | Zw | N8 | jA | ah7 | k_flat | Jh | eL | ads | adt | mL | mO | Js | Jt | Ju | Ji | bC | adu | oQ | wR | Ow | Ox | Oz | Oa | ah8 | ah9 | aia | Ac | Uo | Up | Uq | Ob | aib | aic | aid | Y0 | ald | ale | alf | Ad | Ur | Us | Ut | pR | E2 | E3 | E4 | DW | Zx | Zy | Zz | Ae | Uu | Uv | Uw | nV | nW | D7 | D8 | D9 | mP | mQ | Jv | Jw | Jx | iX | iY | Ah | Ai | Aj | Jj | uP | adv | adw | lg | lq | E5 | E6 | E7 | Oc | aie | aif | aih | DX | ZC | ZD | ZE | Jk | adx | ady | adz | pS | E8 | E9 | Fb | DY | ZF | ZG | ZH | Oe | aii | aij | aik | wU | OB | OD | OG | uf | Lc | Ld | Le | Jl | adA | adB | adC | wV | OI | OJ | OL | j7 | j8 | yL | yM | yN | kg | kh | Ea | Eb | Ec | vP | vQ | Fd | Fe | pJ | nY | n5 | n6 | n9 | oh | Ed | Ef | Eg | pU | pV | Ff | Fg | Fi | Q6 | alg | alh | ali | Jm | Y7 | Y8 | Jo | Oi | Y9 | Za | Jp | yE | Zd | uh | Jq | rZ => (try delta L3.oB); k_is
