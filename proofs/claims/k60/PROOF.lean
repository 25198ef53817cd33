import PyProof.Rows.All
import Wide.All
import OpenK.AllK
import Wide.FinOn
import Lean
import PyProof.EqAt
import PyProof.EqKinds
import PyProof.TupleCall
import PySem.Challenge.RW_moodtree_k60_whole_least_is_least
set_option Elab.async false
set_option linter.all false
set_option maxRecDepth 100000
set_option maxHeartbeats 4000000
noncomputable section
namespace L2
open PySem PySem.Spec PyProof.Rows
abbrev al6:=@wpAny_bind
abbrev al8:=@List.length_map
abbrev al9:=@List.getElem?_eq_getElem
abbrev ama:=@List.mem_cons_self
abbrev amb:=@List.getD_eq_getElem?_getD
abbrev amc:=@List.mem_append_right
abbrev amd:=@wpAny_pure
abbrev ame:=@List.mem_cons_of_mem
abbrev amf:=@List.getElem?_eq_some_iff
abbrev amg:=@List.getElem?_map
abbrev amh:=@Nat.le_of_ble_eq_true
abbrev ami:=@List.mem_cons
abbrev amj:=@List.mem_map
abbrev amk:=@List.mem_append_left
abbrev aml:=@Nat.le_refl
abbrev amm:=@List.append_assoc
abbrev amn:=@List.length_append
abbrev amo:=@Heap.get?_push_of_some
abbrev amq:=@if_neg
abbrev amr:=@List.mem_append
abbrev ams:=@List.map_append
abbrev amt:=@List.mem_of_getElem?
abbrev amu:=@Bool.false_ne_true
abbrev amv:=@List.length_range
abbrev amw:=@List.not_mem_nil
abbrev amx:=@if_pos
abbrev amy:=@List.map_map
abbrev amA:=@Option.some.inj
abbrev amB:=@List.map_cons
abbrev amC:=@Heap.lt_size
abbrev amD:=@Heap.get?_push_size
abbrev amE:=@sizeLine_eq
abbrev amF:=@List.getElem?_append_left
abbrev amG:=@Option.map_eq_some_iff
abbrev amH:=@List.mem_range
abbrev amI:=@Bool.and_eq_true
abbrev amJ:=@List.size_toArray
abbrev amK:=@List.nodup_append
abbrev amL:=@List.map_congr_left
abbrev amM:=@List.mem_singleton
abbrev amN:=@decide_eq_false
abbrev amO:=@of_decide_eq_true
abbrev amP:=@List.lookup_cons
abbrev amQ:=@List.append_nil
abbrev amR:=@Nat.zero_le
abbrev amS:=@Int.toNat_natCast
abbrev amT:=@List.idxOf_lt_length_iff
abbrev amU:=@Int.emod_nonneg
abbrev amV:=@Nat.ne_of_lt
abbrev amW:=@Int.emod_lt_of_pos
abbrev amX:=@Nat.lt_of_lt_of_le
abbrev amY:=@List.length_take
abbrev amZ:=@List.getElem?_range
abbrev am0:=@Int.zero_add
abbrev am1:=@List.Perm.append_left
abbrev am2:=@List.perm_append_comm
abbrev am3:=@List.getElem?_eq_none
abbrev am4:=@List.Sublist.refl
abbrev am5:=@List.cons_append
abbrev am6:=@decide_eq_true
abbrev am7:=@List.Sublist.append
abbrev am8:=@List.length_cons
abbrev am9:=@Nat.le_trans
abbrev ana:=@List.nodup_cons
abbrev anb:=@of_decide_eq_false
abbrev anc:=@PySem.W.mg_none_of
abbrev ane:=@List.range_succ
abbrev anf:=@wpAny_call_entry
abbrev ang:=@List.nodup_nil
abbrev anh:=@List.take_add_one
abbrev ani:=@or_false
abbrev anj:=@List.mem_iff_getElem?
abbrev ank:=@wpAny_newObj_type
abbrev anl:=@List.reverse_cons
abbrev anm:=@List.nil_append
abbrev ano:=@List.getElem_mem
abbrev anp:=@List.take_append_drop
abbrev anq:=@wpAny_dictEntries
abbrev anr:=@PyProof.Rows.slot_tuple_getitem
abbrev ans:=@wpAny_callSpecial?_slot
abbrev ant:=@List.perm_middle
abbrev anu:=@beq_eq_false_iff_ne
abbrev anv:=@List.filterMap_cons
abbrev anw:=@PySem.mem_of_lookup
abbrev anx:=@List.replicate_succ
abbrev anz:=@wpAny_holding
abbrev anA:=@Heap.get?_update_self
abbrev anB:=@Nat.div_add_mod
abbrev anC:=@wpAny_mono
abbrev anD:=@List.mem_of_mem_take
abbrev anE:=@List.take_length
abbrev anF:=@List.flatMap_def
abbrev anG:=@Heap.SameBut.update
abbrev anH:=@List.sublist_append_right
abbrev anI:=@List.mem_or_eq_of_mem_set
abbrev anJ:=@List.length_replicate
abbrev anK:=@wpAny_Call_Name_kw
abbrev anL:=@List.map_nil
abbrev anM:=@beq_self_eq_true
abbrev anN:=@Bool.false_eq_true
abbrev anO:=@List.getElem_idxOf
abbrev anP:=@Ne.symm
abbrev anQ:=@PySem.F.slot_dict_itemiterator_next
abbrev anR:=@wpAny_truthy_bool
abbrev anS:=@PySem.F.slot_dict_keyiterator_next
abbrev anT:=@List.idxOf_append
abbrev anU:=@List.mem_filter
abbrev anV:=@PyProof.Rows.callWith_type1
abbrev anW:=@Nat.le_of_lt
abbrev anY:=@wpAny_field
abbrev anZ:=@Heap.get?_update_other
abbrev an0:=@List.getElem?_append_right
abbrev an1:=@if_false
abbrev an2:=@List.mem_of_find?_eq_some
abbrev an3:=@List.find?_cons
abbrev an4:=@wpAny_specialOf
abbrev an5:=@wpAny_typeNameOfWhole_itemiter
abbrev an6:=@List.filter_map
abbrev an7:=@List.flatten_cons
abbrev an8:=@List.ext_getElem?
abbrev an9:=@Paired.length
abbrev aoa:=@wpAny_typeNameOfWhole_keyiter
abbrev aob:=@List.pairwise_singleton
abbrev aoc:=@Array.length_toList
abbrev aod:=@List.length_drop
abbrev aoe:=@Obj.data_mapFields
abbrev aof:=@wpAny_passesOwn
abbrev aog:=@Array.getElem?_toList
abbrev aoh:=@wpAny_dictEpoch
abbrev aoi:=@Array.getElem?_eq_getElem
abbrev aoj:=@Nat.mul_le_mul
abbrev aok:=@List.all_eq_true
abbrev aol:=@wpAny_isInstance
abbrev aom:=@List.flatMap_append
abbrev aon:=@wpAny_getItem_str_slice
abbrev aoo:=@wpAny_attempt
abbrev aop:=@PySem.W.mg_of
abbrev aoq:=@List.map_take
abbrev aor:=@PySem.W.kia_one
abbrev aos:=@wpAny_setField_rec
abbrev aot:=@Nat.eq_zero_or_pos
abbrev aou:=@List.map_singleton
abbrev aov:=@List.getElem_range
abbrev aow:=@Nat.mod_lt
abbrev aox:=@F.slot_tuple_hash
abbrev aoy:=@if_true
abbrev aoz:=@List.length_singleton
abbrev aoA:=@builtinLookup_eq_fast
abbrev aoB:=@wpAny_setField
abbrev aoC:=@wpAny_notOrdered_dict
abbrev aoD:=@Nat.mod_eq_of_lt
abbrev aoE:=@List.idxOf_cons_self
abbrev aoF:=@Nat.mul_le_mul_right
abbrev aoG:=@Nat.lt_irrefl
abbrev aoH:=@List.any_cons
abbrev aoI:=@Array.getElem?_eq_some_iff
abbrev aoJ:=@Nat.le_succ
abbrev aoK:=@Nat.add_mul
abbrev aoL:=@Nat.one_mul
abbrev aoM:=@Nat.mul_pos
abbrev aoN:=@Array.toList_append
abbrev aoO:=@Int.toNat_of_nonneg
abbrev aoP:=@Bool.eq_iff_iff
abbrev aoQ:=@List.length_set
abbrev aoR:=@Nat.ne_of_gt
abbrev aoS:=@codeAny_mono
abbrev aoT:=@PySem.F.args_tuple_add_2
abbrev aoU:=@Nat.lt_of_le_of_lt
abbrev aoV:=@Nat.mul_comm
abbrev aoW:=@Nat.lt_or_ge
abbrev aoX:=@List.eq_of_mem_replicate
abbrev aoY:=@beq_iff_eq
abbrev aoZ:=@Heap.size_push
abbrev ao0:=@List.Perm.refl
abbrev ao1:=@PySem.F.entry_tuple_add
abbrev ao2:=@List.length_eq_zero_iff
abbrev ao3:=@List.filter_cons_of_neg
abbrev ao4:=@List.getElem?_cons_succ
abbrev ao5:=@eqIsQuiet_byValue
abbrev ao6:=@List.getElem?_inj
abbrev Key:=Sum Int Str
def An:Key->Value->Bool
 | .inl k,v=>Value.isInt k v
 | .inr x,v=>Value.isStrOf x v
def agp(w:World):Key->Int
 | .inl k=>hashInt k
 | .inr x=>hashStr w x
theorem eo:∀{k:Key} {v:Value},An k v=true->(∃i t,k=Sum.inl i/\v=Value.int i t)\/(∃x t,k=Sum.inr x/\v=Value.str x t)
 | .inl i,v,h=>by
   obtain⟨t,e⟩:=Value.isInt_shape (k:=i) (v:=v) h
   exact .inl ⟨i,t,rfl,e⟩
 | .inr x,v,h=>by
   obtain⟨t,e⟩:=Value.isStrOf_shape (x:=x) (v:=v) h
   exact .inr ⟨x,t,rfl,e⟩
theorem Kg(i:Int)(t:Tok):An (.inl i) (.int i t)=true:=by simp[An,Value.isInt]
theorem Kh(x:Str)(t:Tok):An (.inr x) (.str x t)=true:=by simp[An,Value.isStrOf]
theorem YX(a b:Int):decide ((Sum.inl a:Key)=Sum.inl b)=(a==b):=by
 by_cases e:a=b
 . subst e;simp
 . have h:¬ (Sum.inl a:Key)=Sum.inl b:=fun q=>e (Sum.inl.inj q)
   rw[amN h]
   exact(anu.mpr e).symm
theorem YY(a b:Str):decide ((Sum.inr a:Key)=Sum.inr b)=decide (a=b):=by
 by_cases e:a=b
 . subst e;simp
 . have h:¬ (Sum.inr a:Key)=Sum.inr b:=fun q=>e (Sum.inr.inj q)
   rw[amN h,amN e]
theorem YZ(a:Int)(b:Str):decide ((Sum.inl a:Key)=Sum.inr b)=false:=amN (fun q=>nomatch q)
theorem Y0(a:Str)(b:Int):decide ((Sum.inr a:Key)=Sum.inl b)=false:=amN (fun q=>nomatch q)
def fD(prog:Program)(w:World):PySem.KeyKind prog w Key where
 is:=An
 hash:=agp w
 inj:=fun v a b ha hb=>by
   rcases eo ha with⟨i,t,rfl,rfl⟩|⟨x,t,rfl,rfl⟩
   . rcases eo hb with⟨j,u,rfl,e⟩|⟨y,u,rfl,e⟩
     . injection e with e1 _;rw[e1]
     . exact nomatch e
   . rcases eo hb with⟨j,u,rfl,e⟩|⟨y,u,rfl,e⟩
     . exact nomatch e
     . injection e with e1 _;rw[e1]
 byValue:=fun k v h=>by
   rcases eo h with⟨i,t,rfl,rfl⟩|⟨x,t,rfl,rfl⟩<;>rfl
 pyHash:=fun hv h=>by
   rcases eo hv with⟨i,t,rfl,rfl⟩|⟨x,t,rfl,rfl⟩
   . exact wpAny_pyHash_int h
   . exact wpAny_pyHash_str h
 eqBool:=fun hu hv h=>by
   rcases eo hu with⟨i,t,rfl,rfl⟩|⟨x,t,rfl,rfl⟩
   . rcases eo hv with⟨j,u,rfl,rfl⟩|⟨y,u,rfl,rfl⟩
     . rw[YX]at h;exact wpAny_eqBool_int h
     . rw[YZ]at h;exact SeqAt.EqAt.int_str i t y u _ _ _ _ h
   . rcases eo hv with⟨j,u,rfl,rfl⟩|⟨y,u,rfl,rfl⟩
     . rw[Y0]at h;exact SeqAt.EqAt.str_int x t j u _ _ _ _ h
     . rw[YY]at h;exact wpAny_eqBool_str h
 «strs»:=fun k x t v h=>by
   rcases eo h with⟨i,u,rfl,e⟩|⟨y,u,rfl,e⟩
   . exact nomatch e
   . injection e with e1 _
     subst e1
     cases v<;>rfl
theorem DK(prog:Program)(w:World)(i:Int)(t:Tok):(fD prog w).is (.inl i) (.int i t)=true:=Kg i t
theorem DL(prog:Program)(w:World)(x:Str)(t:Tok):(fD prog w).is (.inr x) (.str x t)=true:=Kh x t
inductive V where
 | non|bl (b:Bool)|int (i:Int)|str (x:Str)|Kl (b:Array UInt8)|flt (b:UInt64)|ref (a:Addr)|ty (n:String)
 deriving DecidableEq
def RelV:V->Value->Prop
 | .non,u=>u=Value.none
 | .bl b,u=>u=Value.bool b
 | .int i,u=>∃t,u=Value.int i t
 | .str x, u => ∃ t, u = Value.str x t
 | .Kl b,u=>∃t,u=Value.bytes b t
 | .flt b,u=>∃t,u=Value.float b t
 | .ref a,u=>u=Value.ref a
 | .ty n,u=>u=Value.type n
abbrev Vals:List V->List Value->Prop:=Paired RelV
variable{us:List Value}
theorem Vals.length{xs:List V}(r:Vals xs us):xs.length=us.length:=an9 r
theorem Vals.get:∀{xs:List V} {us:List Value} {i:Nat} {x:V},Vals xs us->xs[i]? = some x->∃u,us[i]? = some u/\RelV x u
 | _,_,_,_,.nil,e=>by simp at e
 | _,_,0,_,.cons r _,e=>by simp at e;subst e;exact⟨_,rfl,r⟩
 | _,_,i+1,x,.cons _ t,e=>by
   obtain⟨u,h1,h2⟩:=Vals.get (i:=i) (x:=x) t (by simpa using e)
   exact⟨u,by simpa using h1,h2⟩
theorem Vals.set{x:V}{u:Value}(r:RelV x u):∀{xs:List V} {us:List Value} (i:Nat),Vals xs us->Vals (xs.set i x) (us.set i u)
 | _,_,_,.nil=>.nil
 | _,_,0,.cons _ t=>.cons r t
 | _,_,i+1,.cons q t=>.cons q (Vals.set r i t)
theorem Vals.append:∀{xs ys:List V} {us ws:List Value},Vals xs us->Vals ys ws->Vals (xs++ys) (us++ws)
 | _,_,_,_,.nil,s=>s
 | _,_,_,_,.cons r t,s=>.cons r (Vals.append t s)
theorem Vals.take:∀{xs:List V} {us:List Value} (n:Nat),Vals xs us->Vals (xs.take n) (us.take n)
 | _,_,0,_=>.nil
 | _,_,_+1,.nil=>.nil
 | _,_,n+1,.cons r t=>.cons r (Vals.take n t)
theorem Vals.drop:∀{xs:List V} {us:List Value} (n:Nat),Vals xs us->Vals (xs.drop n) (us.drop n)
 | _,_,0,r=>r
 | _,_,_+1,.nil=>.nil
 | _,_,n+1,.cons _ t=>Vals.drop n t
def qP:Option V->Option Value->Prop
 | some v,some u=>RelV v u
 | none,none=>True
 | _,_=>False
def KV{κ:Type}:List (κ×V)->List (κ×Value)->Prop:=Paired fun(p:κ×V) (q:κ×Value)=>p.1=q.1/\RelV p.2 q.2
def kV:Key->V
 | .inl i=>.int i
 | .inr x=>.str x
inductive HO where
 | lst (xs:List V)
 | tup (xs:List V)
 | dK (kvs:List (Key×V))|dT (kvs:List (List Key×V))
 | set (S:Int->Bool) (n:Nat)
 | ins (C dx:Addr) (fs:List (Str×V))
 | own (x:Addr)
 | xd (fs:List (Str×V))
 | met (f x:Addr)
 | Y3 (lo hi:Int)
 | bP (o:Obj) (u:HO)
 | XR (ps:Array Value)
 | tabs (q:Str)
 | uA (q:Str)
 | ext (φ:Heap->Prop)
abbrev Hp:=Addr->Option HO
def upd(H:Hp)(a:Addr)(o:HO):Hp:=fun b=>if b=a then some o else H b
variable{H:Hp}{a:Addr}{o:HO}
theorem az:upd H a o a=some o:=by unfold upd;rw[amx rfl]
variable{b:Addr}
theorem ao(h:b≠a):upd H a o b=H b:=by unfold upd;rw[amq h]
theorem ade{u:HO}(h:H a=some o)(h':H b=some u)(d:o≠u):a≠b:=by
 intro e;subst e;rw[h]at h';exact d (amA h')
theorem aM(h:H a=some o)(h':H b=none):a≠b:=by
 intro e;subst e;rw[h]at h';cases h'
section
variable(P:Program)(w:World)
def dw(H:Hp)(h:Heap)(a:Addr):HO->Prop
 | .lst xs=>xs.length<=sizeLine/\∃(its:List Value) (n:Nat),Vals xs its/\h.get? a=some {cls:=.type "list",data:=.seq its.toArray n}
 | .tup xs=>xs.length<=sizeLine/\∃its:List Value,Vals xs its/\IsTup h a its.toArray
 | .dK kvs=>kvs.length<=sizeLine/\(a==sysModules)=false/\∃vs,KV kvs vs/\h.DictOf (fD P w) a vs
 | .dT kvs=>kvs.length<=sizeLine/\(a==sysModules)=false/\∃xs:List (List Key×Addr×Value),
     Paired (fun(p:List Key×V) (q:List Key×Addr×Value)=>p.1=q.1/\H q.2.1=some (.tup (p.1.map kV))/\RelV p.2 q.2.2) kvs xs ∧
     ∃o es ep,h.get? a=some o/\o.ExactDict/\o.data=.dict es ep/\es.toList=xs.map (entryOfKey (tupleKind (fD P w)))/\(xs.map (·.1)).Nodup
 | .set S n=>h.SetOf (intKind P w) a S n
 | .ins C dx fs=>H dx=some (.own a)/\fs.length<=1000/\dx≠a/\h.get? a=some (PySem.W.instObj C dx) ∧
     ∃mA,h.Ns1 dx mA/\(∀f,qP (fs.lookup f) (mA f))/\PySem.Within mA (fs.map (·.1))
 | .own _=>∃o,h.get? a=some o
 | .xd fs=>∃mA,h.Ns1 a mA/\∀f,qP (fs.lookup f) (mA f)
 | .Y3 lo hi=>∃t u v,h.get? a=some {cls:=.type "range",data:=.fields #[.int lo t,.int hi u,.int 1 v]}
 | .bP o u=>h.get? a=some o/\dw H h a u
 | .XR ps=>h.get? a=some {cls:=.none,data:=.fields ps}
 | .tabs q=>∃ps:Array Value,h.get? a=some {cls:=.none,data:=.fields ps}/\TriplesOk ps.toList/\∀pos cv,codeAmong pos ps.toList=some cv->∃c,cv=.ref c/\H c=some (.uA q)
 | .uA q=>∃o vs t,h.get? a=some o/\o.data=.fields vs/\vs[1]? = some (.str q t)
 | .met f x=>h.get? a=some (PySem.W.methodObj (.ref f) (.ref x))
 | .ext φ=>φ h/\(∃o,h.get? a=some o)/\∀h1 h2:Heap,φ h1->(∀o,h1.get? a=some o->h2.get? a=some o)->φ h2
def qF(H:Hp)(h:Heap):Prop:=∀a o,H a=some o->dw P w H h a o
end
variable{P:Program}{w:World}{H':Hp}{h h':Heap}
theorem dw.lt(x:dw P w H h a o):a<h.objs.size:=by
 cases o with
 | lst xs=>obtain⟨_,_,_,_,e⟩:=x;exact amC e
 | tup xs=>obtain⟨_,_,_,p⟩:=x;exact p.lt
 | dK kvs=>obtain⟨_,_,_,_,o,_,_,e,_⟩:=x;exact amC e
 | dT kvs=>obtain⟨_,_,_,_,o,_,_,e,_⟩:=x;exact amC e
 | set S n=>obtain⟨o,_,_,_,e,_⟩:=x;exact amC e
 | ins C dx fs=>obtain⟨_,_,_,e,_⟩:=x;exact amC e
 | own y=>obtain⟨_,e⟩:=x;exact amC e
 | xd fs=>obtain⟨_,⟨_,_,_,e,_⟩,_⟩:=x;exact amC e
 | Y3 lo hi=>obtain⟨_,_,_,e⟩:=x;exact amC e
 | bP ob u=>obtain⟨e,_⟩:=x;exact amC e
 | XR ps=>exact amC (show h.get? a=some _ from x)
 | tabs q=>obtain⟨_,e,_⟩:=x;exact amC e
 | uA q=>obtain⟨_,_,_,e,_⟩:=x;exact amC e
 | met f y=>exact amC (show h.get? a=some _ from x)
 | ext φ=>obtain⟨_,⟨_,e⟩,_⟩:=x;exact amC e
theorem Paired.Y4{α β:Type}{F G:α->β->Prop}:∀{l₁:List α} {l₂:List β},Paired F l₁ l₂->(∀a b,F a b->G a b)->Paired G l₁ l₂
 | _,_,.nil,_=>.nil
 | _,_,.cons r t,f=>.cons (f _ _ r) (Paired.Y4 t f)
theorem dw.v7(x:dw P w H h a o)(k:∀b u,(b=a\/H b=some (.own a))->h.get? b=some u->h'.get? b=some u)
   (ho:∀b,H b=some (.own a)->H' b=some (.own a)) (ht:∀b xs,H b=some (.tup xs)->H' b=some (.tup xs)) (iO:∀b q,H b=some (.uA q)->H' b=some (.uA q):=by intro _ _ q;exact q):dw P w H' h' a o:=by
 induction o with
 | lst xs=>obtain⟨z,its,n,r,e⟩:=x;exact⟨z,its,n,r,k _ _ (.inl rfl) e⟩
 | tup xs=>obtain⟨z,its,r,ob,e,c⟩:=x;exact⟨z,its,r,ob,k _ _ (.inl rfl) e,c⟩
 | dK kvs=>obtain⟨z,y,vs,r,ob,es,ep,e,c⟩:=x;exact⟨z,y,vs,r,ob,es,ep,k _ _ (.inl rfl) e,c⟩
 | dT kvs=>
   obtain⟨z,y,xs,r,ob,es,ep,e,c⟩:=x
   exact⟨z,y,xs,Paired.Y4 r fun p q z=>⟨z.1,ht _ _ z.2.1,z.2.2⟩,ob,es,ep,k _ _ (.inl rfl) e,c⟩
 | set S n=>obtain⟨ob,es,ep,t,e,c⟩:=x;exact⟨ob,es,ep,t,k _ _ (.inl rfl) e,c⟩
 | ins C dx fs=>
   obtain⟨d,z,ne,e,mA,⟨od,es,ep,e2,c⟩,r⟩:=x
   exact⟨ho _ d,z,ne,k _ _ (.inl rfl) e,mA,⟨od,es,ep,k _ _ (.inr d) e2,c⟩,r⟩
 | own y=>obtain⟨ob,e⟩:=x;exact⟨ob,k _ _ (.inl rfl) e⟩
 | xd fs=>obtain⟨mA,⟨od,es,ep,e,c⟩,r⟩:=x;exact⟨mA,⟨od,es,ep,k _ _ (.inl rfl) e,c⟩,r⟩
 | Y3 lo hi=>obtain⟨t,u,v,e⟩:=x;exact⟨t,u,v,k _ _ (.inl rfl) e⟩
 | bP ob u ih=>obtain⟨e,q⟩:=x;exact⟨k _ _ (.inl rfl) e,ih q⟩
 | XR ps=>
   have e:h.get? a=some {cls:=.none,data:=.fields ps}:=x
   show h'.get? a=some {cls:=.none,data:=.fields ps}
   exact k a _ (.inl rfl) e
 | met f y=>
   have e:h.get? a=some (PySem.W.methodObj (.ref f) (.ref y)):=x
   show h'.get? a=some (PySem.W.methodObj (.ref f) (.ref y))
   exact k a _ (.inl rfl) e
 | tabs q=>obtain⟨ps,e,tr,cs⟩:=x;exact⟨ps,k _ _ (.inl rfl) e,tr,fun pos cv z=>let ⟨c,e1,e2⟩:=cs pos cv z;⟨c,e1,iO _ _ e2⟩⟩
 | uA q=>obtain⟨ob,vs,t,e,r⟩:=x;exact⟨ob,vs,t,k _ _ (.inl rfl) e,r⟩
 | ext φ=>obtain⟨p,⟨o,e⟩,st⟩:=x;exact⟨st _ _ p fun o q=>k _ _ (.inl rfl) q,⟨o,k _ _ (.inl rfl) e⟩,st⟩
theorem qF.lt(x:qF P w H h)(e:H a=some o):a<h.objs.size:=(x a o e).lt
theorem qF.fresh(x:qF P w H h)(e:h.objs.size<=a):H a=none:=by
 cases q:H a with
 | none=>rfl
 | some u=>exact absurd (amX (x.lt q) e) (aoG _)
theorem qF.kept(x:qF P w H h)(k:∀b u,h.get? b=some u->h'.get? b=some u):qF P w H h':=fun a o e=>
 (x a o e).v7 (fun b u _ q=>k b u q) (fun _ q=>q) fun _ _ q=>q
theorem qF.laid(x:qF P w H h)(k:∀b u,h.get? b=some u->h'.get? b=some u)(hp:h.objs.size<=a)(new:dw P w (upd H a o) h' a o):qF P w (upd H a o) h':=fun b u e=>by
 have hn:=x.fresh hp
 by_cases hb:b=a
 . subst hb;rw[az]at e;cases e;exact new
 . rw[ao hb]at e
   exact(x b u e).v7 (fun c v _ q=>k c v q) (fun c q=>by rw[ao (aM q hn)];exact q) (fun c xs q=>by rw[ao (aM q hn)];exact q) fun c z q=>by rw[ao (aM q hn)];exact q
def Rd(H:Hp)(a:Addr)(u:HO):Prop:=H a=some u\/∃o,H a=some (.bP o u)
theorem Rd.ok{u:HO}(r:Rd H a u)(x:qF P w H h):dw P w H h a u:=by
 rcases r with r|⟨o,r⟩
 . exact x a u r
 . obtain⟨_,q⟩:=x a _ r
   exact q
def Mut:Option HO->Prop
 | some (.lst _)=>True
 | some (.dK _)=>True
 | some (.dT _)=>True
 | some (.set _ _)=>True
 | some (.ins _ _ _)=>True
 | some (.ext _)=>True
 | some (.tabs _)=>True
 | _=>False
variable{x e:Addr}{o':HO}
theorem qF.write(ok:qF P w H h)(mu:Mut (H x))(he:e=x\/H e=some (.own x))(k:∀b u,b≠e->h.get? b=some u->h'.get? b=some u)(heo:∃u,h'.get? e=some u)
   (new:dw P w (upd H x o') h' x o'):qF P w (upd H x o') h':=fun b u q=>by
 have adg:∀c y,H c=some (.own y)->c≠x:=fun c y r z=>by subst z;rw[r]at mu;exact mu
 have agq:∀c xs,H c=some (.tup xs)->c≠x:=fun c xs r z=>by subst z;rw[r]at mu;exact mu
 have agr:∀c q,H c=some (.uA q)->c≠x:=fun c q r z=>by subst z;rw[r]at mu;exact mu
 by_cases hb:b=x
 . subst hb;rw[az]at q;cases q;exact new
 . rw[ao hb]at q
   by_cases Y5:b=e
   . have q':H b=some (.own x):=by
       rcases he with z|z
       . exact absurd (Y5.trans z) hb
       . rw[Y5];exact z
     rw[q]at q';cases q'
     obtain⟨v,hv⟩:=heo
     exact⟨v,by rw[Y5];exact hv⟩
   . refine(ok b u q).v7 (fun c v hc r=>k c v ?_ r) (fun c r=>by rw[ao (adg c b r)];exact r) (fun c xs r=>by rw[ao (agq c xs r)];exact r) fun c z r=>by rw[ao (agr c z r)];exact r
     rcases hc with rfl|hc
     . exact Y5
     . rintro rfl
       rcases he with z|z
       . exact adg c b hc z
       . rw[hc]at z;cases z;exact hb rfl
structure Un(fs ex:List Addr)(H H':Hp)(h h':Heap):Prop where
 keep:∀b o,h.get? b=some o->H b=none->b∉fs->b∉ex->h'.get? b=some o
 slot:∀b o,h.get? b=some o->H b=none->b∈fs->b∉ex->∃sl,h'.get? b=some {o with slots:=sl}
 free:∀b o,h.get? b=some o->H b=none->b∉ex->H' b=none
 there:∀b o,h.get? b=some o->b∉ex->∃o',h'.get? b=some o'
 zN:∀b xs,H b=some (.tup xs)->H' b=some (.tup xs)
 dM:∀b o u,H b=some (.bP o u)->H' b=some (.bP o u)
 zO:∀b ps,H b=some (.XR ps)->∃more,H' b=some (.XR (ps++more))
section
variable{fs ex:List Addr}{H1:Hp}{h1:Heap}
theorem Un.any(u:Un fs ex H H1 h h1){ob:Obj}(q:h.get? b=some ob)(n:H b=none)(hx:b∉ex):∃sl,h1.get? b=some {ob with slots:=sl}:=by
 by_cases hb:b∈fs
 . exact u.slot b ob q n hb hx
 . exact⟨ob.slots,u.keep b ob q n hb hx⟩
theorem Un.kept(k:∀b u,h.get? b=some u->h'.get? b=some u):Un fs ex H H h h':=
 ⟨fun b ob q _ _ _=>k b ob q,fun b ob q _ _ _=>⟨ob.slots,k b ob q⟩,fun _ _ _ n _=>n,fun b ob q _=>⟨ob,k b ob q⟩,fun _ _ q=>q,fun _ _ _ q=>q,fun _ ps q=>⟨#[],by rw[q];simp⟩⟩
theorem Un.refl:Un fs ex H H h h:=Un.kept fun _ _ q=>q
theorem Un.laid(k:∀b u,h.get? b=some u->h'.get? b=some u)(hp:h.objs.size<=a)(hn:H a=none):Un fs ex H (upd H a o) h h' where
 keep:=fun b u q _ _ _=>k b u q
 slot:=fun b u q _ _ _=>⟨u.slots,k b u q⟩
 free:=fun b u q n _=>by rw[ao (amV (amX (amC q) hp))];exact n
 there:=fun b u q _=>⟨u,k b u q⟩
 zN:=fun b xs q=>by rw[ao (aM q hn)];exact q
 dM:=fun b u xs q=>by rw[ao (aM q hn)];exact q
 zO:=fun b ps q=>⟨#[],by rw[ao (aM q hn),q];simp⟩
theorem Un.write(mu:Mut (H x))(he:e=x\/H e=some (.own x))(k:∀b u,b≠e->h.get? b=some u->h'.get? b=some u)(heo:∃u,h'.get? e=some u):Un fs ex H (upd H x o) h h':=by
 have hx:∀b,H b=none->b≠x:=fun b n z=>by subst z;rw[n]at mu;exact mu
 have hb:∀b,H b=none->b≠e:=fun b n z=>by
   subst z
   rcases he with r|r
   . exact hx b n r
   . rw[n]at r;cases r
 have hm:∀b u,H b=some u->¬ Mut (some u)->b≠x:=fun b u q nm z=>by subst z;rw[q]at mu;exact nm mu
 refine⟨fun b u q n _ _=>k b u (hb b n) q,fun b u q n _ _=>⟨u.slots,k b u (hb b n) q⟩,fun b u q n _=>by rw[ao (hx b n)];exact n,fun b u q _=>?_,
   fun b xs q=>by rw[ao (hm b _ q fun z=>z)];exact q,fun b u xs q=>by rw[ao (hm b _ q fun z=>z)];exact q,fun b ps q=>⟨#[],by rw[ao (hm b _ q fun z=>z),q];simp⟩⟩
 by_cases Y5:b=e
 . subst Y5;exact heo
 . exact⟨u,k b u Y5 q⟩
end
def trk(h:Heap)(H:Hp):List Addr:=(List.range h.objs.size).filter fun a=>(H a).isSome
def zP(h:Heap)(H:Hp):Heap:=PySem.W.hideAll h (trk h H)
theorem Km(h:Heap)(H:Hp):(zP h H).objs.size=h.objs.size:=PySem.W.hideAll_size _ _
theorem Nh{o:Obj}(e:h.get? b=some o)(n:H b=none):(zP h H).get? b=some o:=
 PySem.W.hideAll_get _ e fun hm=>by
   have q:(H b).isSome=true:=(anU.mp hm).2
   rw[n]at q;simp at q
theorem T6{o:Obj}(e:(zP h H).get? b=some o):h.get? b=some o/\H b=none:=by
 have e':h.get? b=some o:=PySem.W.of_hideAll (trk h H) e
 refine⟨e',?_⟩
 cases q:H b with
 | none=>rfl
 | some x=>
   have hm:b∈trk h H:=anU.mpr ⟨amH.mpr (amC e'),by simp[q]⟩
   have z:(zP h H).get? b=none:=PySem.W.hideAll_none (trk h H) hm
   rw[z]at e;cases e
def T7(g h:Heap)(L:Addr):List (Addr×Obj):=(List.range h.objs.size).filterMap fun a=>if a=L\/(g.get? a).isSome=true then none else(h.get? a).map fun o=>(a,o)
def rest(g h:Heap)(L d:Addr):List (Addr×Obj):=(T7 g h L).filter fun p=>decide (p.1≠d)
structure Mod(K:PySem.W.Frag)(mg:Str->Option Value)(base:Heap):Prop where
 kin:K.In base
 glob:base.Ns mainGlobals mg
 blt:∃mb,base.Ns builtinsNs mb/\∀x:Str,x≠"__name__"->mb x=bootBuiltins x
 nolimit:base.NoLimit
structure Cx where
 prog:Program
 w:World
 K:PySem.W.Frag
 mg:Str->Option Value
 base:Heap
 A:Around
 N:List Str
 s₀:Shared
 H₀:Hp
 env:Env
 outer:List Env
 stack:List Env
 ex:List Addr
 fn:Str->Bool
 calm:Bool
 pn:List (Addr×Obj)
 xe:Value->Shared->Prop
def Ao(l:List Env):List Addr:=l.filterMap (·.frame)
abbrev Cx.fs(X:Cx):List Addr:=Ao X.outer
def XS(sc:Scope)(x:Str):Prop:=sc.names.lookup x=some .local\/sc.names.lookup x=some .cell\/sc.names.lookup x=some .free
def Loc(sc:Scope)(x:Str):Prop:=sc.names.lookup x=some .local\/sc.names.lookup x=some .cell
def Look(env:Env)(h:Heap)(m:Str->Option Value)(x:Str)(u:Value):Prop:=
 (env.kindOf x=some .local/\m x=some u)\/((env.kindOf x=some .cell\/env.kindOf x=some .free)/\∃c,env.cells.lookup x=some c/\h.IsCell c (some u))
structure Cx.Ok(X:Cx):Prop where
 mod:Mod X.K X.mg X.base
 kind:X.env.scope.kind=.function
 glob:X.env.globals=mainGlobals
 blt:X.env.builtins=builtinsNs
 above:X.s₀.heap.objs.size<=X.env.locals
 inj:∀x y c,X.env.cells.lookup x=some c->X.env.cells.lookup y=some c->x=y
 has:∀x,(X.env.kindOf x=some .cell\/X.env.kindOf x=some .free)->∃c,X.env.cells.lookup x=some c
 cab:∀x c,X.fn x=true->X.env.cells.lookup x=some c->X.s₀.heap.objs.size<=c
 hd:X.calm=true->X.A.handled=none
 frames:X.A.frames=some X.stack
 stk:X.stack=X.outer\/(X.stack=X.env::X.outer/\X.env.frame=some X.env.locals)
 exf:∀b∈X.ex,b≠X.env.locals/\∀x c,X.env.cells.lookup x=some c->c≠b
 bs:∀b o,X.base.get? b=some o->X.s₀.heap.get? b=some o/\X.H₀ b=none
 Ni:X.base.objs.size<=X.s₀.heap.objs.size
 Nj:∀b o,X.base.get? b=some o->b∉X.ex
 T8:∀b∈X.ex,b∉X.fs
 qQ:X.s₀.heap.FunFrames X.base X.outer
 T9:∀b∈X.fs,X.H₀ b=none
structure Inv(X:Cx)(pins:List (Addr×Obj))(σ:List (Option V))(H:Hp)(s:Shared):Prop where
 ok:X.Ok
 os:s.os=X.s₀.os
 bare:AllBare s.gens
 base:Un X.fs X.ex X.H₀ H X.s₀.heap s.heap
 loc:∃m,s.heap.Ns X.env.locals m/\∀(i:Nat) (x:Str) (v:V),X.N[i]? = some x->σ[i]? = some (some v)->XS X.env.scope x->∃u,RelV v u/\Look X.env s.heap m x u
 cell:∀x c,X.env.cells.lookup x=some c->∃v,s.heap.IsCell c v
 free:H X.env.locals=none
 kQ:∀x c,X.env.cells.lookup x=some c->H c=none
 pin:∀p∈X.pn++pins,s.heap.get? p.1=some p.2/\H p.1=none/\p.1≠X.env.locals/\p.1∉X.fs/\∀v,p.2.data ≠ .cell v
 cQ:qF X.prog X.w H s.heap
 len:σ.length=X.N.length
variable{X:Cx}{pins:List (Addr×Obj)}{σ:List (Option V)}{s:Shared}
theorem Cx.Ok.ags(ok:X.Ok){o:Obj}(e:X.base.get? b=some o):b∉X.fs:=fun hb=>by
 have:=(ok.qQ.mem hb).1
 rw[e]at this;cases this
theorem Inv.bs(I:Inv X pins σ H s):∀b o,X.base.get? b=some o->s.heap.get? b=some o/\H b=none:=fun b o e=>
 ⟨I.base.keep b o (I.ok.bs b o e).1 (I.ok.bs b o e).2 (I.ok.ags e) (I.ok.Nj b o e),I.base.free b o (I.ok.bs b o e).1 (I.ok.bs b o e).2 (I.ok.Nj b o e)⟩
theorem Inv.bk(I:Inv X pins σ H s):∀b o,X.base.get? b=some o->s.heap.get? b=some o:=fun b o e=>(I.bs b o e).1
theorem Inv.mod(I:Inv X pins σ H s):Mod X.K X.mg X.base:=I.ok.mod
theorem Inv.Aq(I:Inv X pins σ H s):X.K.In s.heap:=I.ok.mod.kin.keeps I.bk
theorem Inv.lt(I:Inv X pins σ H s):X.env.locals<s.heap.objs.size:=let ⟨_,hn,_⟩:=I.loc;hn.lt
theorem Inv.sz(I:Inv X pins σ H s):X.s₀.heap.objs.size<=s.heap.objs.size:=am9 I.ok.above (anW I.lt)
theorem Inv.agt(I:Inv X pins σ H s)(h:s.heap.objs.size<=a):a∉X.fs:=fun hb=>by
 obtain⟨_,o,ho,_⟩:=I.ok.qQ.mem hb
 exact absurd (amX (amC ho) (am9 I.sz h)) (aoG _)
theorem Inv.Y6(I:Inv X pins σ H s):∀x c,X.env.cells.lookup x=some c->c≠X.env.locals:=fun x c e z=>by
 obtain⟨v,o,ho,hd⟩:=I.cell x c e
 obtain⟨m,⟨o',es,ep,E5,zQ,_⟩,_⟩:=I.loc
 rw[z,E5]at ho;cases ho;rw[zQ]at hd;cases hd
theorem Inv.qQ(I:Inv X pins σ H s):s.heap.FunFrames X.base X.outer:=by
 have all:∀(l:List Env),(∀b∈Ao l,b∈X.fs)->X.s₀.heap.FunFrames X.base l->s.heap.FunFrames X.base l:=by
   intro l
   induction l with
   | nil=>intro _ _;trivial
   | cons env r ih=>
     intro hs hl
     obtain⟨hk,⟨L,o,hf,hn,ho,hd⟩,hr⟩:=hl
     have hL:L∈X.fs:=hs L (by unfold Ao;rw[anv,hf];exact ama)
     obtain⟨sl,e⟩:=I.base.slot L o ho (I.ok.T9 L hL) hL fun z=>I.ok.T8 L z hL
     exact⟨hk,⟨L,_,hf,hn,e,hd⟩,ih (fun b hb=>hs b (by unfold Ao;rw[anv,hf];exact ame _ hb)) hr⟩
 exact all X.outer (fun _ hb=>hb) I.ok.qQ
theorem Inv.stack(I:Inv X pins σ H s):s.heap.FunFrames X.base X.stack:=by
 rcases I.ok.stk with e|⟨e,hf⟩
 . rw[e];exact I.qQ
 . rw[e]
   obtain⟨m,hn,_⟩:=I.loc
   refine .cons (by rw[I.ok.kind];decide) hf hn ?_ I.qQ
   exact Heap.get?_none_of_le (am9 I.ok.Ni I.ok.above)
theorem Inv.Bo(I:Inv X pins σ H s):∀b∈Ao X.stack,b∈X.env.locals::X.fs:=fun b hb=>by
 rcases I.ok.stk with e|⟨e,hf⟩
 . rw[e]at hb;exact ame _ hb
 . rw[e]at hb
   unfold Ao at hb
   rw[anv,hf]at hb
   exact hb
theorem Inv.Ic(I:Inv X pins σ H s):∀b∈Ao X.stack,H b=none:=fun b hb=>by
 rcases ami.mp (I.Bo b hb) with e|hb
 . rw[e];exact I.free
 . obtain⟨_,o,ho,_⟩:=I.ok.qQ.mem hb
   exact I.base.free b o ho (I.ok.T9 b hb) fun z=>I.ok.T8 b z hb
variable{t':Nat}
theorem Inv.step{g':Array GenState}{d':Drawn}{ch:List Addr}(I:Inv X pins σ H s)
   (Ie:∀b∈ch,(b∈X.ex\/X.s₀.heap.objs.size<=b)/\b≠X.env.locals/\(∀x c,X.env.cells.lookup x=some c->c≠b)/\∀p∈X.pn++pins,p.1≠b)
   (keep:∀b o,b≠X.env.locals->b∉X.fs->b∉ch->s.heap.get? b=some o->H b=none->h'.get? b=some o)
   (slot:∀b o,b≠X.env.locals->b∈X.fs->b∉ch->s.heap.get? b=some o->H b=none->∃sl,h'.get? b=some {o with slots:=sl}) (free:∀b o,b∉ch->s.heap.get? b=some o->H b=none->H' b=none)
   (there:∀b o,b∉ch->s.heap.get? b=some o->∃o',h'.get? b=some o')
   (zN:∀b xs,H b=some (.tup xs)->H' b=some (.tup xs)) (dM:∀b o u,H b=some (.bP o u)->H' b=some (.bP o u)) (zO:∀b ps,H b=some (.XR ps)->∃more,H' b=some (.XR (ps++more)))
   (ns:∀m,s.heap.Ns X.env.locals m->h'.Ns X.env.locals m) (cQ:qF X.prog X.w H' h') (hg:AllBare g') :
   Inv X pins σ H' {s with heap:=h',gens:=g',drawn:=d',toks:=t'}:=by
 have neL:∀b o,X.s₀.heap.get? b=some o->b≠X.env.locals:=fun b o e=>amV (amX (amC e) I.ok.above)
 have neC:∀b o,X.s₀.heap.get? b=some o->b∉X.ex->b∉ch:=fun b o e hx hb=>by
   rcases(Ie b hb).1 with z|z
   . exact hx z
   . exact absurd (amX (amC e) z) (aoG _)
 have cellK:∀x c,X.env.cells.lookup x=some c->∀v,s.heap.IsCell c v->h'.IsCell c v:=fun x c e v ⟨o,ho,hd⟩=>by
   have nch:c∉ch:=fun z=>(Ie c z).2.2.1 x c e rfl
   by_cases hc:c∈X.fs
   . obtain⟨sl,q⟩:=slot c o (I.Y6 x c e) hc nch ho (I.kQ x c e)
     exact⟨_,q,hd⟩
   . exact⟨o,keep c o (I.Y6 x c e) hc nch ho (I.kQ x c e),hd⟩
 refine⟨I.ok,I.os,hg,⟨fun b o e n hb hx=>?_,fun b o e n hb hx=>?_,fun b o e n hx=>?_,fun b o e hx=>?_,fun b xs e=>zN b xs (I.base.zN b xs e),fun b o xs e=>dM b o xs (I.base.dM b o xs e),fun b ps e=>?_⟩,?_,fun x c e=>?_,?_,fun x c e=>?_,fun p hp=>?_,cQ,I.len⟩
 . exact keep b o (neL b o e) hb (neC b o e hx) (I.base.keep b o e n hb hx) (I.base.free b o e n hx)
 . obtain⟨sl,e1⟩:=I.base.slot b o e n hb hx
   obtain⟨sl',e2⟩:=slot b _ (neL b o e) hb (neC b o e hx) e1 (I.base.free b o e n hx)
   exact⟨sl',e2⟩
 . obtain⟨o',e1⟩:=I.base.there b o e hx
   exact free b o' (neC b o e hx) e1 (I.base.free b o e n hx)
 . obtain⟨o',e1⟩:=I.base.there b o e hx
   exact there b o' (neC b o e hx) e1
 . obtain⟨m1,e1⟩:=I.base.zO b ps e
   obtain⟨m2,e2⟩:=zO b _ e1
   exact⟨m1++m2,by rw[e2,Array.append_assoc]⟩
 . obtain⟨m,hn,hl⟩:=I.loc
   refine⟨m,ns m hn,fun i x v e1 e2 e3=>?_⟩
   obtain⟨u,r,l⟩:=hl i x v e1 e2 e3
   refine⟨u,r,?_⟩
   rcases l with l|⟨k,c,e,z⟩
   . exact .inl l
   . exact .inr ⟨k,c,e,cellK x c e _ z⟩
 . obtain⟨v,z⟩:=I.cell x c e
   exact⟨v,cellK x c e v z⟩
 . obtain⟨m,⟨o,_,_,ho,_⟩,_⟩:=I.loc
   exact free _ o (fun z=>(Ie _ z).2.1 rfl) ho I.free
 . obtain⟨v,o,ho,hd⟩:=I.cell x c e
   exact free c o (fun z=>(Ie c z).2.2.1 x c e rfl) ho (I.kQ x c e)
 . obtain⟨e,n,ne,nf,d⟩:=I.pin p hp
   have nch:p.1∉ch:=fun z=>(Ie p.1 z).2.2.2 p hp rfl
   exact⟨keep p.1 p.2 ne nf nch e n,free p.1 p.2 nch e n,ne,nf,d⟩
theorem Inv.un(I:Inv X pins σ H s)(u:Un X.fs [] H H' s.heap h')(cQ:qF X.prog X.w H' h'):Inv X pins σ H' {s with heap:=h',toks:=t'}:=by
 obtain⟨m,⟨o,es,ep,ho,r⟩,_⟩:=id I.loc
 obtain⟨sl,hL⟩:=u.any ho I.free (by simp)
 exact I.step (g':=s.gens) (d':=s.drawn) (ch:=[]) (fun _ z=>nomatch z) (fun b o _ hb _ e n=>u.keep b o e n hb (by simp)) (fun b o _ hb _ e n=>u.slot b o e n hb (by simp)) (fun b o _ e n=>u.free b o e n (by simp)) (fun b o _ e=>u.there b o e (by simp)) u.zN u.dM u.zO (fun m' hm=>by
   obtain⟨o',MZ,XT,E5,r'⟩:=hm
   rw[ho]at E5;cases E5
   exact⟨_,MZ,XT,hL,r'⟩) cQ I.bare
theorem Inv.call{g':Array GenState}{d':Drawn}{ch:List Addr}(I:Inv X pins σ H s)(u:Un (Ao X.stack) ch H H' s.heap h')(cQ:qF X.prog X.w H' h')(hg:AllBare g')
   (Ie:∀b∈ch,(b∈X.ex\/X.s₀.heap.objs.size<=b)/\b≠X.env.locals/\(∀x c,X.env.cells.lookup x=some c->c≠b)/\∀p∈X.pn++pins,p.1≠b) :
   Inv X pins σ H' {s with heap:=h',gens:=g',drawn:=d',toks:=t'}:=by
 obtain⟨m,⟨o,es,ep,ho,r⟩,_⟩:=id I.loc
 obtain⟨sl,hL⟩:=u.any ho I.free fun z=>(Ie _ z).2.1 rfl
 exact I.step (ch:=ch) Ie (fun b o hL hb hc e n=>u.keep b o e n (fun z=>(ami.mp (I.Bo b z)).elim hL hb) hc) (fun b o _ _ hc e n=>u.any e n hc) (fun b o hc e n=>u.free b o e n hc) (fun b o hc e=>u.there b o e hc) u.zN u.dM u.zO (fun m' hm=>by
   obtain⟨o',MZ,XT,E5,r'⟩:=hm
   rw[ho]at E5;cases E5
   exact⟨_,MZ,XT,hL,r'⟩) cQ hg
theorem Inv.turned{it:Addr}(I:Inv X pins σ H s)(k:∀b o,b≠it->s.heap.get? b=some o->h'.get? b=some o)(hn:H it=none)(hL:it≠X.env.locals)
   (h1:it∈X.ex\/X.s₀.heap.objs.size<=it) (h2:∀x c,X.env.cells.lookup x=some c->c≠it) (h3:∀p∈X.pn++pins,p.1≠it):Inv X pins σ H {s with heap:=h',toks:=t'}:=by
 have nit:∀b u,H b=some u->b≠it:=fun b u e z=>by rw[z,hn]at e;cases e
 refine I.step (g':=s.gens) (d':=s.drawn) (ch:=[it]) (fun b hb=>?_) (fun b o _ _ hc e _=>k b o (fun z=>hc (by simp[z])) e) (fun b o _ _ hc e _=>⟨o.slots,k b o (fun z=>hc (by simp[z])) e⟩) (fun _ _ _ _ n=>n)
   (fun b o hc e=>⟨o,k b o (fun z=>hc (by simp[z])) e⟩) (fun _ _ e=>e) (fun _ _ _ e=>e) (fun b ps e=>⟨#[],by rw[e];simp⟩) (fun m hm=>?_) (fun b u e=>?_) I.bare
 . have e:b=it:=by simpa using hb
   subst e
   exact⟨h1,hL,h2,h3⟩
 . obtain⟨o,es,ep,ho,r⟩:=hm
   exact⟨o,es,ep,k _ o (anP hL) ho,r⟩
 . refine(I.cQ b u e).v7 (fun c v hc q=>k c v ?_ q) (fun _ q=>q) fun _ _ q=>q
   rcases hc with z|z
   . rw[z];exact nit b u e
   . exact nit c _ z
theorem Inv.tok(I:Inv X pins σ H s)(t:Nat):Inv X pins σ H {s with toks:=t}:=I.un (h':=s.heap) (t':=t) Un.refl I.cQ
theorem Inv.kept(I:Inv X pins σ H s)(k:∀b u,s.heap.get? b=some u->h'.get? b=some u):Inv X pins σ H {s with heap:=h',toks:=t'}:=I.un (Un.kept k) (I.cQ.kept k)
theorem Inv.laid(I:Inv X pins σ H s)(k:∀b u,s.heap.get? b=some u->h'.get? b=some u)(hp:s.heap.objs.size<=a)(new:dw X.prog X.w (upd H a o) h' a o) :
   Inv X pins σ (upd H a o) {s with heap:=h',toks:=t'}:=I.un (Un.laid k hp (I.cQ.fresh hp)) (I.cQ.laid k hp new)
theorem Inv.write(I:Inv X pins σ H s)(mu:Mut (H x))(he:e=x\/H e=some (.own x))(k:∀b u,b≠e->s.heap.get? b=some u->h'.get? b=some u)(heo:∃u,h'.get? e=some u)
   (new:dw X.prog X.w (upd H x o) h' x o):Inv X pins σ (upd H x o) {s with heap:=h',toks:=t'}:=I.un (Un.write mu he k heo) (I.cQ.write mu he k heo new)
theorem Inv.wO{Ig:List (Addr×Obj)}(I:Inv X pins σ H s)(h:∀p∈Ig,s.heap.get? p.1=some p.2/\H p.1=none/\p.1≠X.env.locals/\p.1∉X.fs/\∀v,p.2.data ≠ .cell v):Inv X Ig σ H s:=
 ⟨I.ok,I.os,I.bare,I.base,I.loc,I.cell,I.free,I.kQ,fun p hp=>(amr.mp hp).elim (fun z=>I.pin p (amk _ z)) (h p),I.cQ,I.len⟩
variable{i:Nat}
theorem DM{N:List Str}(hN:N.Nodup){j:Nat}{x:Str}(a:N[i]? = some x)(b:N[j]? = some x):i=j:=by
 obtain⟨h1,e1⟩:=amf.mp a
 obtain⟨h2,e2⟩:=amf.mp b
 exact(List.getElem_inj hN).mp (e1.trans e2.symm)
variable{M:Model}{A:Around}{E:Value->Shared->Prop}{v:V}{u:Value}{Q:Unit->Shared->Prop}
theorem Kn{x:Str}(I:Inv X pins σ H s)(hN:X.N.Nodup)(hi:X.N[i]? = some x)(hx:Loc X.env.scope x)(r:RelV v u)
   (h:∀s',Inv X pins (σ.set i (some v)) H s'->(∃a,Heap.SameBut a s.heap s'.heap/\(a=X.env.locals\/X.env.cells.lookup x=some a))->Q () s') (hf:X.fn x=true\/X.env.scope.names.lookup x=some .local:=by first|exact .inl rfl|exact .inr rfl|assumption):wpAny M A (storeName X.env x u) Q E s:=by
 obtain⟨m,hn,hl⟩:=id I.loc
 have agu:(X.env.scope.kind == .class || (X.env.scope.kind == .module&&X.env.locals != X.env.globals))=false:=by rw[I.ok.kind];rfl
 have hiσ:i<σ.length:=by rw[I.len];exact(amf.mp hi).1
 have Y6:=I.Y6
 have tracked:∀{a:Addr} {h':Heap},(∃o,s.heap.get? a=some o/\H a=none)->Heap.SameBut a s.heap h'->qF X.prog X.w H h':=fun {a h'} ha hs b ob e=>by
   obtain⟨_,_,DN⟩:=ha
   refine(I.cQ b ob e).v7 (fun c w' hc q=>(hs.2 c ?_).trans q) (fun _ q=>q) fun _ _ q=>q
   rintro rfl
   rcases hc with rfl|hc
   . rw[DN]at e;cases e
   . rw[DN]at hc;cases hc
 rcases hx with hk|hk
 . refine wpAny_storeName_local hk hn (fun h' hn' hs=>?_) agu
   obtain⟨oL,_,_,hoL,_⟩:=id hn
   refine h _ ⟨I.ok,I.os,I.bare,⟨fun b o e n hb hx=>?_,fun b o e n hb hx=>?_,I.base.free,fun b o e hx=>?_,I.base.zN,I.base.dM,I.base.zO⟩,⟨_,hn',fun j y v' e1 e2 e3=>?_⟩,fun y c e=>?_,I.free,I.kQ,fun p hp=>?_,tracked ⟨oL,hoL,I.free⟩ hs,by simpa using I.len⟩ ⟨_,hs,.inl rfl⟩
   . exact(hs.2 b (amV (amX (amC e) I.ok.above))).trans (I.base.keep b o e n hb hx)
   . obtain⟨sl,e1⟩:=I.base.slot b o e n hb hx
     exact⟨sl,(hs.2 b (amV (amX (amC e) I.ok.above))).trans e1⟩
   . obtain⟨o',e1⟩:=I.base.there b o e hx
     exact⟨o',(hs.2 b (amV (amX (amC e) I.ok.above))).trans e1⟩
   . by_cases hj:j=i
     . subst hj
       rw[hi]at e1;cases e1
       rw[List.getElem?_set_self hiσ]at e2
       cases e2
       exact⟨u,r,.inl ⟨hk,by simp⟩⟩
     . rw[List.getElem?_set_ne (anP hj)]at e2
       obtain⟨u',r',q⟩:=hl j y v' e1 e2 e3
       refine⟨u',r',?_⟩
       rcases q with⟨k,e⟩|⟨k,c,e,z⟩
       . refine .inl ⟨k,?_⟩
         have:y≠x:=fun e=>hj (DM hN e1 (e▸hi))
         simp[this,e]
       . exact .inr ⟨k,c,e,z.sameBut hs (Y6 y c e)⟩
   . obtain⟨w',z⟩:=I.cell y c e
     exact⟨w',z.sameBut hs (Y6 y c e)⟩
   . obtain⟨e,n,ne,nf,d⟩:=I.pin p hp
     exact⟨(hs.2 p.1 ne).trans e,n,ne,nf,d⟩
 . have Ko:X.fn x=true:=by
     rcases hf with z|z
     . exact z
     . rw[z]at hk;cases hk
   obtain⟨c,hc⟩:=I.ok.has x (.inl hk)
   obtain⟨w',z⟩:=I.cell x c hc
   refine wpAny_storeName_cell I.ok.kind hk hc z (fun h' Kp hs=>?_)
   obtain⟨oc,hoc,agv⟩:=id z
   refine h {s with heap:=h'} ⟨I.ok,I.os,I.bare,⟨fun b o e n hb hx=>?_,fun b o e n hb hx=>?_,I.base.free,fun b o e hx=>?_,I.base.zN,I.base.dM,I.base.zO⟩,⟨m,hn.sameBut hs (Ne.symm (Y6 x c hc)),fun j y v' e1 e2 e3=>?_⟩,fun y c' e=>?_,I.free,I.kQ,fun p hp=>?_,tracked ⟨oc,hoc,I.kQ x c hc⟩ hs,by simpa using I.len⟩ ⟨c,hs,.inr hc⟩
   . exact(hs.2 b (amV (amX (amC e) (I.ok.cab x c Ko hc)))).trans (I.base.keep b o e n hb hx)
   . obtain⟨sl,e1⟩:=I.base.slot b o e n hb hx
     exact⟨sl,(hs.2 b (amV (amX (amC e) (I.ok.cab x c Ko hc)))).trans e1⟩
   . obtain⟨o',e1⟩:=I.base.there b o e hx
     exact⟨o',(hs.2 b (amV (amX (amC e) (I.ok.cab x c Ko hc)))).trans e1⟩
   . by_cases hj:j=i
     . subst hj
       rw[hi]at e1;cases e1
       rw[List.getElem?_set_self hiσ]at e2
       cases e2
       exact⟨u,r,.inr ⟨.inl hk,c,hc,Kp⟩⟩
     . rw[List.getElem?_set_ne (anP hj)]at e2
       obtain⟨u',r',q⟩:=hl j y v' e1 e2 e3
       refine⟨u',r',?_⟩
       rcases q with q|⟨k,c',e,z'⟩
       . exact .inl q
       . refine .inr ⟨k,c',e,z'.sameBut hs ?_⟩
         rintro rfl
         exact hj (DM hN e1 (I.ok.inj _ _ _ e hc▸hi))
   . by_cases hcc:c'=c
     . subst hcc;exact⟨_,Kp⟩
     . obtain⟨w2,z2⟩:=I.cell y c' e
       exact⟨w2,z2.sameBut hs hcc⟩
   . obtain⟨e,n,ne,nf,d⟩:=I.pin p hp
     refine⟨(hs.2 p.1 ?_).trans e,n,ne,nf,d⟩
     intro q
     rw[q,hoc]at e
     have q':oc=p.2:=amA e
     exact d w' (by rw[← q'];exact agv)
theorem xV{x:Str}(I:Inv X pins σ H s)(hN:X.N.Nodup)(hi:X.N[i]? = some x)(hx:Loc X.env.scope x)(r:RelV v u)
   (h:∀s',Inv X pins (σ.set i (some v)) H s'->Q () s') (hf:X.fn x=true\/X.env.scope.names.lookup x=some .local:=by first|exact .inl rfl|exact .inr rfl|assumption):wpAny M A (storeName X.env x u) Q E s:=
 Kn I hN hi hx r (fun s' I' _=>h s' I') hf
abbrev XK:=Value->Option Addr->Hp->Prop
abbrev St:=List (Option V)
abbrev VK:=V->Hp->Prop
abbrev TE:=St->Hp->VK->Prop
abbrev TT:=St->Hp->(Bool->Hp->Prop)->Prop
abbrev TA:=St->Hp->(List V->Hp->Prop)->Prop
structure Ends where
 nx:St->Hp->Prop
 rt:VK
 bk:St->Hp->Prop:=fun _ _=>False
 ct:St->Hp->Prop:=fun _ _=>False
abbrev TS:=Ends->St->Hp->Prop
def EP(X:Cx)(pins:List (Addr×Obj))(σ:St)(Q:VK)(u:Value)(s':Shared):Prop:=∃v H',Inv X pins σ H' s'/\RelV v u/\Q v H'
def TP(X:Cx)(pins:List (Addr×Obj))(σ:St)(Q:Bool->Hp->Prop)(b:Bool)(s':Shared):Prop:=∃H',Inv X pins σ H' s'/\Q b H'
def AP(X:Cx)(pins:List (Addr×Obj))(σ:St)(Q:List V->Hp->Prop)(us:List Value)(s':Shared):Prop:=∃vs H',Inv X pins σ H' s'/\Vals vs us/\Q vs H'
def SP(X:Cx)(pins:List (Addr×Obj))(D:Ends)(f:Flow)(s':Shared):Prop:=
 match f with
 | .next=>∃σ' H',Inv X pins σ' H' s'/\D.nx σ' H'
 | .brk=>∃σ' H',Inv X pins σ' H' s'/\D.bk σ' H'
 | .cont=>∃σ' H',Inv X pins σ' H' s'/\D.ct σ' H'
 | .ret u=>∃v σ' H',Inv X pins σ' H' s'/\RelV v u/\D.rt v H'
def PE(X:Cx)(e:Expr)(t:TE):Prop:=
 ∀(pins:List (Addr×Obj)) (s:Shared) (σ:St) (H:Hp) (Q:VK),Inv X pins σ H s->t σ H Q->wpAny (model X.prog X.w) X.A (eval e X.env) (EP X pins σ Q) X.xe s
def PT(X:Cx)(e:Expr)(t:TT):Prop:=
 ∀(pins:List (Addr×Obj)) (s:Shared) (σ:St) (H:Hp) (Q:Bool->Hp->Prop),Inv X pins σ H s->t σ H Q->wpAny (model X.prog X.w) X.A (isTrue e X.env (eval e X.env)) (TP X pins σ Q) X.xe s
def PW(X:Cx)(e:Expr)(t:TT):Prop:=
 ∀(whole:Sem Value) (pins:List (Addr×Obj)) (s:Shared) (σ:St) (H:Hp) (Q:Bool->Hp->Prop),Inv X pins σ H s->t σ H Q->wpAny (model X.prog X.w) X.A (isTrue e X.env whole) (TP X pins σ Q) X.xe s
def PA(X:Cx)(es:List Expr)(t:TA):Prop:=
 ∀(pos:Pos) (pins:List (Addr×Obj)) (s:Shared) (σ:St) (H:Hp) (Q:List V->Hp->Prop),Inv X pins σ H s->t σ H Q->wpAny (model X.prog X.w) X.A (spliced (backTo pos (starEach es X.env))) (AP X pins σ Q) X.xe s
def PS(X:Cx)(st:Stmt)(t:TS):Prop:=
 ∀(pins:List (Addr×Obj)) (s:Shared) (σ:St) (H:Hp) (D:Ends),Inv X pins σ H s->t D σ H->wpAny (model X.prog X.w) X.A (exec st X.env) (SP X pins D) X.xe s
def E6(X:Cx)(st:List Stmt)(t:TS):Prop:=
 ∀(pins:List (Addr×Obj)) (s:Shared) (σ:St) (H:Hp) (D:Ends),Inv X pins σ H s->t D σ H->wpAny (model X.prog X.w) X.A (execs st X.env) (SP X pins D) X.xe s
theorem dz{α:Type}{t:Sem α}{Q Q':α->Shared->Prop}(h:wpAny M A t Q E s)(hQ:∀a s,Q a s->Q' a s):wpAny M A t Q' E s:=anC h hQ fun _ _ x=>x
section
def agw(i:Nat):TE:=fun σ H Q=>∃v,σ[i]? = some (some v)/\Q v H
def tC(v:V):TE:=fun _ H Q=>Q v H
theorem g8{x:Str}{pos:Pos}(hN:X.N[i]? = some x)(hv:XS X.env.scope x)(hd:(x==("__debug__":Str))=false:=by decide)(iO:(x==("__classdict__":Str))=false:=by decide):PE X (.Name x pos) (agw i):=by
 intro pins s σ H Q I h
 obtain⟨v,e,h⟩:=h
 obtain⟨m,hn,hl⟩:=I.loc
 obtain⟨u,r,l⟩:=hl i x v hN e hv
 have fin:EP X pins σ Q u s:=⟨v,H,I,r,h⟩
 rcases l with⟨hk,hm⟩|⟨hk,c,hc,qG⟩
 . exact wpAny_Name (wpAny_loadName_local I.ok.kind hk hn hm fin) hd
 . rcases hk with hk|hk
   . exact wpAny_Name (wpAny_loadName_cell I.ok.kind hk hc qG fin) hd
   . exact wpAny_Name (wpAny_loadName_free I.ok.kind hk hc qG fin iO) hd
theorem Nk{i j pos}:PE X (.Constant (.int i) j pos) (tC (.int i)):=fun _ _ _ H _ I h=>wpAny_Constant_int ⟨.int i,H,I.tok _,⟨_,rfl⟩,h⟩
theorem adk{b j pos}:PE X (.Constant (.bool b) j pos) (tC (.bl b)):=fun _ _ _ H _ I h=>Constant_bool ⟨.bl b,H,I,rfl,h⟩
theorem Y7{j pos}:PE X (.Constant .none j pos) (tC .non):=fun _ _ _ H _ I h=>Constant_none ⟨.non,H,I,rfl,h⟩
theorem Y8{x j pos}:PE X (.Constant (.str x) j pos) (tC (.str x)):=fun _ _ _ H _ I h=>Calls.Constant_str ⟨.str x,H,I.tok _,⟨_,rfl⟩,h⟩
def Gl(X:Cx)(x:Str):Prop:=X.env.kindOf x=some .globalImplicit
theorem r6{σ:St}{x:Str}{pos:Pos}{Q:Value->Shared->Prop}(I:Inv X pins σ H s)(hg:Gl X x)(hm:X.mg x=some u)(h:Q u s)
   (hd:(x==("__debug__":Str))=false:=by decide):wpAny (model X.prog X.w) X.A (eval (.Name x pos) X.env) Q E s:=
 Calls.Name_function_global I.ok.kind hg (Calls.loadGlobal_global (by rw[I.ok.glob];exact I.mod.glob.keeps I.bk) hm h) hd
theorem qR{σ:St}{x:Str}{pos:Pos}{Q:Value->Shared->Prop}(I:Inv X pins σ H s)(hg:Gl X x)(hm:X.mg x=none)(hv:bootBuiltins x=some u)(h:Q u s)
   (hn:x≠"__name__":=by decide) (hd:(x==("__debug__":Str))=false:=by decide):wpAny (model X.prog X.w) X.A (eval (.Name x pos) X.env) Q E s:=by
 obtain⟨mb,h1,h2⟩:=I.mod.blt
 exact Calls.Name_function_global I.ok.kind hg (Calls.loadGlobal_builtin (by rw[I.ok.glob];exact I.mod.glob.keeps I.bk) hm (by rw[I.ok.blt];exact h1.keeps I.bk) ((h2 x hn).trans hv) h) hd
theorem Ua{x:Str}{pos:Pos}(hg:Gl X x)(hm:X.mg x=some u)(r:RelV v u)(hd:(x==("__debug__":Str))=false:=by decide):PE X (.Name x pos) (tC v):=
 fun _ _ _ H _ I h=>r6 I hg hm ⟨v,H,I,r,h⟩ hd
theorem Ub{x:Str}{pos:Pos}(hg:Gl X x)(hm:X.mg x=none)(hv:bootBuiltins x=some u)(r:RelV v u)(hn:x≠"__name__":=by decide)(hd:(x==("__debug__":Str))=false:=by decide):PE X (.Name x pos) (tC v):=
 fun _ _ _ H _ I h=>qR I hg hm hv ⟨v,H,I,r,h⟩ hn hd
variable{a b:Expr}{ta tb:TE}{pos:Pos}
def PC(X:Cx)(op:CmpOp)(a b:Expr)(t:TE):Prop:=
 ∀(pins:List (Addr×Obj)) (s:Shared) (σ:St) (H:Hp) (Q:VK),Inv X pins σ H s->t σ H Q →
   wpAny (model X.prog X.w) X.A (eval a X.env) (fun v s₁=>wpAny (model X.prog X.w) X.A (eval b X.env) (fun u s₂=>wpAny (model X.prog X.w) X.A (compareOp op v u) (EP X pins σ Q) X.xe s₂) X.xe s₁) X.xe s
theorem DP(b:Expr){op:CmpOp}(h:op ≠ .In)(h2:op ≠ .NotIn):behindInMarks op b=false:=by
 have e1:(op==CmpOp.In)=false:=by cases op<;>first|rfl|exact absurd rfl h
 have e2:(op==CmpOp.NotIn)=false:=by cases op<;>first|rfl|exact absurd rfl h2
 cases b<;>simp[behindInMarks,e1,e2]
def agx(ta:TE):TE:=fun σ H Q=>ta σ H fun x H1=>Q (.bl (decide (x=.non))) H1
def adl(ta:TE):TE:=fun σ H Q=>ta σ H fun x H1=>Q (.bl (!decide (x=.non))) H1
theorem RelV.DQ{x:V}{v:Value}(r:RelV x v):(v==Value.none)=decide (x=.non):=by
 cases x with
 | non=>cases r;rfl
 | bl _=>cases r;rfl
 | int _=>obtain⟨t,rfl⟩:=r;rfl
 | str _=>obtain⟨t,rfl⟩:=r;rfl
 | Kl _=>obtain⟨t,rfl⟩:=r;rfl
 | flt _=>obtain⟨t,rfl⟩:=r;rfl
 | ref _=>cases r;rfl
 | ty _=>cases r;rfl
theorem Fp{j pos'}(ha:PE X a ta):PC X .Is a (.Constant .none j pos') (agx ta):=by
 intro pins s σ H Q I h
 refine dz (ha pins s σ H _ I h) fun v s1 zz=>?_
 obtain⟨x,H1,I1,r1,q1⟩:=zz
 exact Constant_none (is_none_gen ⟨.bl _,H1,I1,by rw[r1.DQ];rfl,q1⟩)
theorem Ih{j pos'}(ha:PE X a ta):PC X .IsNot a (.Constant .none j pos') (adl ta):=by
 intro pins s σ H Q I h
 refine dz (ha pins s σ H _ I h) fun v s1 zz=>?_
 obtain⟨x,H1,I1,r1,q1⟩:=zz
 exact Constant_none (isnot_none_gen ⟨.bl _,H1,I1,by rw[r1.DQ];rfl,q1⟩)
def tB(t:TE):TT:=fun σ H Q=>t σ H fun x H1=>∃c,x=.bl c/\Q c H1
theorem Y9{op:CmpOp}{t:TE}(h:PC X op a b t)(h1:behindInMarks op b=false:=by first|exact DP _ (by decide) (by decide)|rfl):PE X (.Compare a [op] [b] pos) t:=fun pins s σ H Q I hw=>wpAny_Compare1 (h pins s σ H Q I hw) h1
theorem xW{op:CmpOp}{t:TE}(h:PC X op a b t)(h1:behindInMarks op b=false:=by first|exact DP _ (by decide) (by decide)|rfl):PT X (.Compare a [op] [b] pos) (tB t):=by
 intro pins s σ H Q I hw
 refine wpAny_isTrue_Compare1 (dz (h pins s σ H _ I hw) fun v s1 h1=>dz h1 fun u s2 h2=>dz h2 fun c s3 zz=>?_) h1
 obtain⟨x,H1,I1,r1,q1⟩:=zz
 obtain⟨d,rfl,q⟩:=q1
 cases r1
 exact anR ⟨H1,I1,q⟩
theorem Za{e:Expr}{t:TE}(h:PE X e t)(he:∀whole,isTrue e X.env whole=(do let v ← whole;standAt e.pos;holding [v] (truthy v)):=by intro _;rfl):PT X e (tB t):=by
 intro pins s σ H Q I hw
 refine isTrue_plain (dz (h pins s σ H _ I hw) fun v s1 zz=>?_) (he _)
 obtain⟨x,H1,I1,r1,q1⟩:=zz
 obtain⟨d,rfl,q⟩:=q1
 cases r1
 exact anR ⟨H1,I1,q⟩
variable{tA tB':TT}{rest:List Expr}
def agy(t u:TT):TT:=fun σ H Q=>t σ H fun c H1=>if c=true then u σ H1 Q else Q false H1
def tOr(t u:TT):TT:=fun σ H Q=>t σ H fun c H1=>if c=true then Q true H1 else u σ H1 Q
def agz(t:TT):TT:=fun σ H Q=>t σ H fun c H1=>Q (!c) H1
theorem Uc(ha:PT X a tA):PW X (.BoolOp .And [a] pos) tA:=by
 intro wh pins s σ H Q I h
 refine isTrue_and (dz (ha pins s σ H Q I h) fun c s1 e=>?_)
 cases c with
 | true=>exact isTrue_and_nil e
 | false=>exact e
theorem Zb(ha:PT X a tA):PW X (.BoolOp .Or [a] pos) tA:=by
 intro wh pins s σ H Q I h
 refine isTrue_or (dz (ha pins s σ H Q I h) fun c s1 e=>?_)
 cases c with
 | false=>exact isTrue_or_nil e
 | true=>exact e
theorem Zc(ha:PT X a tA)(hb:PW X (.BoolOp .And (b::rest) pos) tB'):PW X (.BoolOp .And (a::b::rest) pos) (agy tA tB'):=by
 intro wh pins s σ H Q I h
 refine isTrue_and (dz (ha pins s σ H _ I h) fun c s1 zz=>?_)
 obtain⟨H1,I1,q1⟩:=zz
 cases c with
 | true=>exact hb wh pins s1 σ H1 Q I1 q1
 | false=>exact⟨H1,I1,q1⟩
theorem adn(ha:PT X a tA)(hb:PW X (.BoolOp .Or (b::rest) pos) tB'):PW X (.BoolOp .Or (a::b::rest) pos) (tOr tA tB'):=by
 intro wh pins s σ H Q I h
 refine isTrue_or (dz (ha pins s σ H _ I h) fun c s1 zz=>?_)
 obtain⟨H1,I1,q1⟩:=zz
 cases c with
 | true=>exact⟨H1,I1,q1⟩
 | false=>exact hb wh pins s1 σ H1 Q I1 q1
theorem Zd(ha:PT X a tA):PT X (.UnaryOp .Not a pos) (agz tA):=by
 intro pins s σ H Q I h
 exact isTrue_not (ha pins s σ H (fun c H1=>Q (!c) H1) I h)
def ado(ta tb:TE):TE:=fun σ H Q=>ta σ H fun x H1=>∃c,x=.bl c/\if c=true then tb σ H1 Q else Q (.bl false) H1
def adp(ta:TE):TE:=fun σ H Q=>ta σ H fun x H1=>∃c,x=.bl c/\Q (.bl (!c)) H1
theorem Ze{op}{t:TE}(h:PE X a t):PE X (.BoolOp op [a] pos) t:=fun pins s σ H Q I hw=>BoolOp_one (h pins s σ H Q I hw)
theorem Zf(ha:PE X a ta)(hb:PE X (.BoolOp .And (b::rest) pos) tb):PE X (.BoolOp .And (a::b::rest) pos) (ado ta tb):=by
 intro pins s σ H Q I h
 refine BoolOp_and (dz (ha pins s σ H _ I h) fun v s1 zz=>?_)
 obtain⟨x,H1,I1,r1,q1⟩:=zz
 obtain⟨c,rfl,q1⟩:=q1
 cases r1
 refine anR ?_
 cases c with
 | true=>exact hb pins s1 σ H1 Q I1 q1
 | false=>exact⟨.bl false,H1,I1,rfl,q1⟩
theorem Zg(ha:PE X a ta):PE X (.UnaryOp .Not a pos) (adp ta):=by
 intro pins s σ H Q I h
 refine UnaryOp_ (dz (ha pins s σ H _ I h) fun v s1 zz=>?_)
 obtain⟨x,H1,I1,r1,q1⟩:=zz
 obtain⟨c,rfl,q1⟩:=q1
 cases r1
 exact not_of (anR ⟨.bl (!c),H1,I1,rfl,q1⟩)
end
def nV(K:PySem.W.Frag)(H:Hp)(a:Addr)(xs:List V):Prop:=
 Rd H a (.lst xs) ∨
   ∃(o:Obj) (its:Array Value) (n:Nat),K.lookup a=some o/\o.cls=.type "list" /\ o.dict=none/\o.data=.seq its n/\its.size<=sizeLine/\Vals xs its.toList
def om(K:PySem.W.Frag)(H:Hp)(a:Addr)(xs:List V):Prop:=
 Rd H a (.tup xs) ∨
   ∃(o:Obj) (its:Array Value) (n:Nat),K.lookup a=some o/\o.cls=.type "tuple" /\ o.data=.seq its n/\its.size<=sizeLine/\Vals xs its.toList
def agA:Value->Option V
 | .none=>some .non
 | .bool b=>some (.bl b)
 | .int i _=>some (.int i)
 | .str x _ => some (.str x)
 | .bytes b _=>some (.Kl b)
 | .float b _=>some (.flt b)
 | .ref a=>some (.ref a)
 | .type n=>some (.ty n)
 | _=>none
theorem RelV.abs{x:V}(r:RelV x u):agA u=some x:=by
 cases x with
 | non=>cases r;rfl
 | bl _=>cases r;rfl
 | int _=>obtain⟨t,rfl⟩:=r;rfl
 | str _=>obtain⟨t,rfl⟩:=r;rfl
 | Kl _=>obtain⟨t,rfl⟩:=r;rfl
 | flt _=>obtain⟨t,rfl⟩:=r;rfl
 | ref _=>cases r;rfl
 | ty _=>cases r;rfl
theorem RelV.inj{x y:V}(r:RelV x u)(q:RelV y u):x=y:=amA (r.abs.symm.trans q.abs)
theorem Vals.inj{xs ys:List V}(h:Vals xs us)(q:Vals ys us):xs=ys:=by
 induction h generalizing ys with
 | nil=>cases q;rfl
 | cons r _ i=>cases q with
   | cons r' t'=>rw[r.inj r',i t']
variable{σ:St}{xs ys:List V}{K:PySem.W.Frag}
theorem nV.of(h:H a=some (.lst xs)):nV K H a xs:=.inl (.inl h)
theorem om.of(h:H a=some (.tup xs)):om K H a xs:=.inl (.inl h)
theorem Inv.list(I:Inv X pins σ H s)(h:nV X.K H a xs):∃its:List Value,Vals xs its/\PlainL s.heap a its.toArray/\xs.length<=sizeLine:=by
 rcases h with h|⟨o,its,n,hk,hc,hd,hs,hz,r⟩
 . obtain⟨z,its,n,r,e⟩:=h.ok I.cQ
   exact⟨its,r,⟨_,n,e,rfl,rfl,rfl⟩,z⟩
 . refine⟨its.toList,r,⟨o,n,I.Aq a o hk,hc,hd,by simpa using hs⟩,?_⟩
   have e:=r.length
   simp only[aoc]at e
   omega
theorem Inv.tuple(I:Inv X pins σ H s)(h:om X.K H a xs):∃its:List Value,Vals xs its/\IsTup s.heap a its.toArray/\xs.length<=sizeLine:=by
 rcases h with h|⟨o,its,n,hk,hc,hs,hz,r⟩
 . obtain⟨z,its,r,p⟩:=h.ok I.cQ
   exact⟨its,r,p,z⟩
 . refine⟨its.toList,r,⟨o,I.Aq a o hk,hc,n,by simpa using hs⟩,?_⟩
   have e:=r.length
   simp only[aoc]at e
   omega
theorem Inv.DR(I:Inv X pins σ H s)(h:nV X.K H a xs)(h':nV X.K H a ys):xs=ys:=by
 obtain⟨its,r,⟨o,n,e,_,_,d⟩,_⟩:=I.list h
 obtain⟨its',r',⟨o',n',e',_,_,d'⟩,_⟩:=I.list h'
 rw[e]at e';cases e'
 rw[d]at d'
 injection d' with d1 _
 have:its=its':=by simpa using congrArg Array.toList d1
 subst this
 exact r.inj r'
theorem Inv.Kq(I:Inv X pins σ H s)(h:om X.K H a xs)(h':om X.K H a ys):xs=ys:=by
 obtain⟨its,r,⟨o,e,_,n,d⟩,_⟩:=I.tuple h
 obtain⟨its',r',⟨o',e',_,n',d'⟩,_⟩:=I.tuple h'
 rw[e]at e';cases e'
 rw[d]at d'
 injection d' with d1 _
 have:its=its':=by simpa using congrArg Array.toList d1
 subst this
 exact r.inj r'
abbrev Cx.wish(X:Cx)(E:Value->Shared->Prop):Cx:={X with xe:=E}
abbrev Cx.E7(X:Cx):Cx:=X.wish fun _ _=>False
theorem Cx.Ok.wish(ok:X.Ok)(E:Value->Shared->Prop):(X.wish E).Ok:=
 ⟨ok.mod,ok.kind,ok.glob,ok.blt,ok.above,ok.inj,ok.has,ok.cab,ok.hd,ok.frames,ok.stk,ok.exf,ok.bs,ok.Ni,ok.Nj,ok.T8,ok.qQ,ok.T9⟩
theorem Cx.Ok.oA(ok:(X.wish E).Ok):X.Ok:=
 ⟨ok.mod,ok.kind,ok.glob,ok.blt,ok.above,ok.inj,ok.has,ok.cab,ok.hd,ok.frames,ok.stk,ok.exf,ok.bs,ok.Ni,ok.Nj,ok.T8,ok.qQ,ok.T9⟩
theorem Inv.wish(I:Inv X pins σ H s)(E:Value->Shared->Prop):Inv (X.wish E) pins σ H s:=⟨I.ok.wish E,I.os,I.bare,I.base,I.loc,I.cell,I.free,I.kQ,I.pin,I.cQ,I.len⟩
theorem Inv.oA(I:Inv (X.wish E) pins σ H s):Inv X pins σ H s:=⟨I.ok.oA,I.os,I.bare,I.base,I.loc,I.cell,I.free,I.kQ,I.pin,I.cQ,I.len⟩
theorem SP.oA{D:Ends}{f:Flow}{s':Shared}(h:SP (X.wish E) pins D f s'):SP X pins D f s':=by
 cases f with
 | next=>obtain⟨σ',H',I,q⟩:=h;exact⟨σ',H',I.oA,q⟩
 | brk=>obtain⟨σ',H',I,q⟩:=h;exact⟨σ',H',I.oA,q⟩
 | cont=>obtain⟨σ',H',I,q⟩:=h;exact⟨σ',H',I.oA,q⟩
 | ret u=>obtain⟨v,σ',H',I,r,q⟩:=h;exact⟨v,σ',H',I.oA,r,q⟩
theorem E6.E7{st:List Stmt}{t:TS}(h:E6 X.E7 st t):E6 X st t:=fun pins s σ H D I hw=>
 anC (h pins s σ H D (I.wish _) hw) (fun _ _ q=>q.oA) fun _ _ z=>False.elim z
section
variable{st:Stmt}{rest:List Stmt}{t u:TS}{e:Expr}{te:TE}{pos:Pos}
def adq:TS:=fun D σ H=>D.nx σ H
def agB(t u:TS):TS:=fun D σ H=>t {D with nx:=u D} σ H
theorem Ud:E6 X [] adq:=fun _ _ σ H _ I h=>wpAny_execs_nil ⟨σ,H,I,h⟩
theorem Nm(h1:PS X st t)(h2:E6 X rest u):E6 X (st::rest) (agB t u):=by
 intro pins s σ H D I h
 refine wpAny_execs_cons (dz (h1 pins s σ H {D with nx:=u D} I h) fun f s1 q=>?_)
 cases f with
 | next=>
   obtain⟨σ',H',I',q⟩:=q
   exact h2 pins s1 σ' H' D I' q
 | ret v=>exact q
 | brk=>exact q
 | cont=>exact q
theorem Inv.quiet(I:Inv X pins σ H s):interactive X.env=false:=by simp[interactive,I.ok.kind]
def ads(te:TE):TS:=fun D σ H=>te σ H fun _ H1=>D.nx σ H1
theorem Ii(he:PE X e te)(hs:swapsWith e none pos.line X.env=pure false:=by rfl):PS X (.Expr e pos) (ads te):=by
 intro pins s σ H D I h
 exact wpAny_Expr_any (dz (he pins s σ H _ I h) fun v s1 ⟨x,H1,I1,r1,q1⟩=>⟨σ,H1,I1,q1⟩) I.quiet hs
def agC(te:TE):TS:=fun D σ H=>te σ H D.rt
theorem Zh(he:PE X e te):PS X (.Return (some e) pos) (agC te):=by
 intro pins s σ H D I h
 exact wpAny_Return_some (dz (he pins s σ H _ I h) fun v s1 ⟨x,H1,I1,r1,q1⟩=>⟨x,σ,H1,I1,r1,q1⟩)
def agD(c:TT)(t u:TS):TS:=fun D σ H=>c σ H fun b H1=>if b=true then t D σ H1 else u D σ H1
theorem adt{c:Expr}{a b:List Stmt}{tc:TT}(hc:PT X c tc)(ha:E6 X a t)(hb:E6 X b u):PS X (.If c a b pos) (agD tc t u):=by
 intro pins s σ H D I h
 refine wpAny_If (dz (hc pins s σ H _ I h) fun d s1 zz=>?_)
 obtain⟨H1,I1,q1⟩:=zz
 cases d with
 | true=>exact ha pins s1 σ H1 D I1 q1
 | false=>exact hb pins s1 σ H1 D I1 q1
end
abbrev TG:=V->St->Hp->(St->Hp->Prop)->Prop
abbrev Zi:=List V->St->Hp->(St->Hp->Prop)->Prop
def PG(X:Cx)(target:Expr)(t:TG):Prop:=
 ∀(pins:List (Addr×Obj)) (s:Shared) (σ:St) (H:Hp) (v:V) (u:Value) (Q:St->Hp->Prop),Inv X pins σ H s->RelV v u->t v σ H Q →
   wpAny (model X.prog X.w) X.A (assign target X.env u) (fun _ s'=>∃σ' H',Inv X pins σ' H' s'/\Q σ' H') X.xe s
def PGs(X:Cx)(ts:List Expr)(t:Zi):Prop:=
 ∀(pins:List (Addr×Obj)) (s:Shared) (σ:St) (H:Hp) (vs:List V) (us:List Value) (Q:St->Hp->Prop),Inv X pins σ H s->Vals vs us->t vs σ H Q →
   wpAny (model X.prog X.w) X.A (assignInOrder ((assignEach ts X.env).map (·.2)) us) (fun _ s'=>∃σ' H',Inv X pins σ' H' s'/\Q σ' H') X.xe s
abbrev Zj:=V->V->V->Hp->(Hp->Prop)->Prop
def adu(X:Cx)(t:Zj):Prop:=
 ∀(pins:List (Addr×Obj)) (s:Shared) (σ:St) (H:Hp) (o i v:V) (ov iv u:Value) (Q:Hp->Prop),Inv X pins σ H s->RelV o ov->RelV i iv->RelV v u->t o i v H Q →
   wpAny (model X.prog X.w) X.A (setItem ov iv u) (fun _ s'=>∃H',Inv X pins σ H' s'/\Q H') X.xe s
abbrev TIp:=V->V->Hp->VK->Prop
def PIp(X:Cx)(op:Operator)(t:TIp):Prop:=
 ∀(pins:List (Addr×Obj)) (s:Shared) (σ:St) (H:Hp) (x y:V) (v u:Value) (Q:VK),Inv X pins σ H s->RelV x v->RelV y u->t x y H Q →
   wpAny (model X.prog X.w) X.A (inplaceOp op v u) (EP X pins σ Q) X.xe s
variable{pos:Pos}
def vD(i:Nat):TG:=fun v σ H Q=>Q (σ.set i (some v)) H
theorem kR{x:Str}(hN:X.N.Nodup)(hi:X.N[i]? = some x)(hx:Loc X.env.scope x)(hf:X.fn x=true\/X.env.scope.names.lookup x=some .local:=by first|exact .inl rfl|exact .inr rfl|assumption):PG X (.Name x pos) (vD i):=by
 intro pins s σ H v u Q I r h
 exact wpAny_assign_Name (xV I hN hi hx r (fun s' I'=>⟨_,H,I',h⟩) hf)
def Zk:Zi:=fun vs σ H Q=>vs=[]/\Q σ H
def DS(t:TG)(u:Zi):Zi:=fun vs σ H Q=>∃v r,vs=v::r/\t v σ H fun σ' H'=>u r σ' H' Q
theorem Ij:PGs X [] Zk:=by
 intro pins s σ H vs us Q I r h
 obtain⟨e,h⟩:=h
 subst e
 cases r
 exact assignInOrder_nil ⟨σ,H,I,h⟩
variable{es:List Expr}
theorem r9{e:Expr}{t:TG}{u:Zi}(h1:PG X e t)(h2:PGs X es u)
   (hs:(assignEach (e::es) X.env).map (·.2)=assign e X.env::(assignEach es X.env).map (·.2):=by rfl):PGs X (e::es) (DS t u):=by
 intro pins s σ H vs us Q I r h
 obtain⟨v,vr,e1,h⟩:=h
 subst e1
 cases r with
 | cons r rr=>
   rw[hs]
   refine assignInOrder_cons (dz (h1 pins s σ H _ _ _ I r h) fun _ s1 zz=>?_)
   obtain⟨σ1,H1,I1,q1⟩:=zz
   exact h2 pins s1 σ1 H1 _ _ Q I1 rr q1
def Zm(K:PySem.W.Frag)(n:Nat)(t:Zi):TG:=fun v σ H Q=>∃a xs,v=.ref a/\om K H a xs/\xs.length=n/\t xs σ H Q
variable{k:Nat}
theorem Nn{t:Zi}{n:Nat}(hc:X.calm=true)(h:PGs X es t)
   (hn:(assignEach es X.env).length=n:=by rfl) (E8:(assignEach es X.env).findIdx? (·.1)=none:=by rfl):PG X (.Tuple es k pos) (Zm X.K n t):=by
 intro pins s σ H v u Q I r hw
 obtain⟨a,xs,e1,hq,hl,hw⟩:=hw
 subst e1
 cases r
 obtain⟨its,rv,ht,hz⟩:=I.tuple hq
 refine assign_Tuple_tuple (I.ok.hd hc) ht (by simp[hn,← hl,rv.length]) E8 fun h' hx=>?_
 have I1:Inv X pins σ H {s with heap:=h'}:=I.kept (t':=s.toks) fun b o e=>hx b o (amV (amC e)) e
 exact h pins _ σ H xs _ Q I1 (by simpa using rv) hw
def agE(to ti:TE)(t:Zj):TG:=fun v σ H Q=>to σ H fun o H1=>ti σ H1 fun i H2=>t o i v H2 fun H3=>Q σ H3
theorem Zn{o i:Expr}{to ti:TE}{t:Zj}(ho:PE X o to)(hi:PE X i ti)(hs:adu X t)
   (ha:∀v,assign (.Subscript o i pos) X.env v=(do
     let ov ← holding [v] (eval o X.env)
     let iv ← holding [v,ov] (eval i X.env)
     standAt pos
     holding [v,ov,iv] (setItem ov iv v)
     release [v,ov,iv] []):=by intro _;rfl):PG X (.Subscript o i pos) (agE to ti t):=by
 intro pins s σ H v u Q I r h
 rw[ha]
 refine al6 (anz (dz (ho pins s σ H _ I h) fun ov s1 zz=>?_))
 obtain⟨x,H1,I1,r1,q1⟩:=zz
 refine al6 (anz (dz (hi pins s1 σ H1 _ I1 q1) fun iv s2 zz=>?_))
 obtain⟨y,H2,I2,r2,q2⟩:=zz
 refine al6 (wpAny_standAt (al6 (anz (dz (hs pins s2 σ H2 x y v ov iv u _ I2 r1 r2 r q2) fun _ s3 zz=>?_))))
 obtain⟨H3,I3,q3⟩:=zz
 exact wpAny_release ⟨σ,H3,I3,q3⟩
def adv(te:TE)(g:TG):TS:=fun D σ H=>te σ H fun x H1=>g x σ H1 D.nx
variable{tg:Expr}{te:TE}
theorem Zo{e:Expr}{g:TG}(he:PE X e te)(hg:PG X tg g)(hs:swapsWithSole [tg] e pos.line X.env=pure false:=by rfl)(hw:swappedStores [tg] e X.env=pure none:=by rfl)
   (h1:(assignEach [tg] X.env).map (·.2)=[assign tg X.env]:=by rfl):PS X (.Assign [tg] e pos) (adv te g):=by
 intro pins s σ H D I h
 refine wpAny_Assign_stores (dz (he pins s σ H _ I h) fun v s1 zz=>?_) hs hw
 obtain⟨x,H1,I1,r1,q1⟩:=zz
 rw[h1]
 exact dz (hg pins s1 σ H1 x v _ I1 r1 q1) fun _ s2 q=>q
theorem Zq{x:Str}{e:Expr}{pos':Pos}(hN:X.N.Nodup)(hi:X.N[i]? = some x)(hx:Loc X.env.scope x)(he:PE X e te)(hs:swapsWith e (some (.Name x pos')) pos.line X.env=pure false:=by rfl)(hf:X.fn x=true\/X.env.scope.names.lookup x=some .local:=by first|exact .inl rfl|exact .inr rfl|assumption) :
   PS X (.Assign [.Name x pos'] e pos) (adv te (vD i)):=by
 intro pins s σ H D I h
 refine wpAny_Assign_Name (dz (he pins s σ H _ I h) fun v s1 zz=>?_) hs
 obtain⟨y,H1,I1,r1,q1⟩:=zz
 exact xV I1 hN hi hx r1 (fun s2 I2=>⟨_,H1,I2,q1⟩) hf
def agF(i:Nat)(te:TE)(ti:TIp):TS:=fun D σ H=>∃x,σ[i]? = some (some x)/\te σ H fun y H1=>ti x y H1 fun z H2=>D.nx (σ.set i (some z)) H2
theorem Zr{x:Str}{e:Expr}{op:Operator}{ti:TIp}{pos':Pos}(hN:X.N.Nodup)(hi:X.N[i]? = some x)(hx:Loc X.env.scope x)(he:PE X e te)(ho:PIp X op ti)(hf:X.fn x=true\/X.env.scope.names.lookup x=some .local:=by first|exact .inl rfl|exact .inr rfl|assumption) :
   PS X (.AugAssign (.Name x pos') op e pos) (agF i te ti):=by
 intro pins s σ H D I h
 obtain⟨v,e1,h⟩:=h
 obtain⟨m,hn,hl⟩:=I.loc
 have vis:XS X.env.scope x:=by rcases hx with k|k;exact .inl k;exact .inr (.inl k)
 obtain⟨u,r,l⟩:=hl i x v hi e1 vis
 refine wpAny_AugAssign_Name ?_
 have go:wpAny (model X.prog X.w) X.A (eval e X.env) (fun w s₂=>wpAny (model X.prog X.w) X.A (inplaceOp op u w) (fun r s₃=>wpAny (model X.prog X.w) X.A (storeName X.env x r) (fun _=>SP X pins D .next) X.xe s₃) X.xe s₂) X.xe s:=by
   refine dz (he pins s σ H _ I h) fun w s1 zz=>?_
   obtain⟨y,H1,I1,r1,q1⟩:=zz
   refine dz (ho pins s1 σ H1 v y u w _ I1 r r1 q1) fun z s2 zz=>?_
   obtain⟨zv,H2,I2,r2,q2⟩:=zz
   exact xV I2 hN hi hx r2 (fun s3 I3=>⟨_,H2,I3,q2⟩) hf
 rcases l with⟨hk,hm⟩|⟨hk,c,hc,qG⟩
 . exact wpAny_loadName_local I.ok.kind hk hn hm go
 . rcases hk with hk|hk
   . exact wpAny_loadName_cell I.ok.kind hk hc qG go
   . rcases hx with k|k
     . have:X.env.scope.names.lookup x=some .free:=hk
       rw[k]at this;cases this
     . have:X.env.scope.names.lookup x=some .free:=hk
       rw[k]at this;cases this
def ipI(f:Int->Int->Int):TIp:=fun x y H Q=>∃i j,x=.int i/\y=.int j/\Q (.int (f i j)) H
theorem Zt:PIp X .Add (ipI fun i j=>i+j):=by
 intro pins s σ H x y v u Q I r1 r2 h
 obtain⟨i,j,e1,e2,q⟩:=h
 subst e1;subst e2
 obtain⟨t,rfl⟩:=r1
 obtain⟨t',rfl⟩:=r2
 exact iadd_int ⟨.int _,H,I.tok _,⟨_,rfl⟩,q⟩
def Zu(c:TT)(tb:TS):TS:=fun D σ H=>∃W:Nat->St->Hp->Prop,(∃m,W m σ H)/\∀m σ H,W m σ H →
 c σ H fun b H1=>if b=true then ∃N:St->Hp->Prop,(∀σ' H',N σ' H'->∃m',m'<m/\W m' σ' H')/\tb {D with nx:=N,ct:=N,bk:=D.nx} σ H1 else D.nx σ H1
theorem Np{c:Expr}{body:List Stmt}{tc:TT}{tb:TS}(hp:PassesOwn (model X.prog X.w) X.A X.env X.xe)(hc:PT X c tc)(hb:E6 X body tb):PS X (.While c body [] pos) (Zu tc tb):=by
 intro pins s σ H D I h
 obtain⟨W,⟨m0,w0⟩,turn⟩:=h
 refine wpAny_While (codeAny_whileLoop (fun n s'=>∃σ' H',Inv X pins σ' H' s'/\W n σ' H') ?_ m0 ⟨σ,H,I,w0⟩)
 rintro n s1 ⟨σ1,H1,I1,w1⟩
 refine aof hp (dz (hc pins s1 σ1 H1 _ I1 (turn n σ1 H1 w1)) fun b s2 zz=>?_)
 obtain⟨H2,I2,q2⟩:=zz
 cases b with
 | true=>
   obtain⟨N,hN,q2⟩:=q2
   rw[amx rfl]
   refine aof hp (dz (hb pins s2 σ1 H2 _ I2 q2) fun f s3 q3=>?_)
   cases f with
   | next=>
     obtain⟨σ3,H3,I3,n3⟩:=q3
     obtain⟨m',hm,w3⟩:=hN σ3 H3 n3
     exact⟨m',hm,σ3,H3,I3,w3⟩
   | cont=>
     obtain⟨σ3,H3,I3,n3⟩:=q3
     obtain⟨m',hm,w3⟩:=hN σ3 H3 n3
     exact⟨m',hm,σ3,H3,I3,w3⟩
   | brk=>exact q3
   | ret v=>exact q3
 | false=>
   rw[amq amu]
   exact wpAny_execs_nil ⟨σ1,H2,I2,q2⟩
structure It where
 go:Nat->Hp->Prop
 XU:Nat->Hp->V->Hp->Prop
 stop:Nat->Hp->Prop
def v8(X:Cx)(pins:List (Addr×Obj))(H:Hp)(b:Addr):Prop:=
 H b=none/\b≠X.env.locals/\b∉X.fs/\(b∈X.ex\/X.s₀.heap.objs.size<=b)/\(∀x c,X.env.cells.lookup x=some c->c≠b)/\∀p∈X.pn++pins,p.1≠b
theorem Inv.zR(I:Inv X pins σ H s)(hb:s.heap.objs.size<=b)(hn:H' b=none):v8 X pins H' b:=by
 refine⟨hn,aoR (amX I.lt hb),I.agt hb,.inr (am9 I.sz hb),fun x c e z=>?_,fun p hp z=>?_⟩
 . obtain⟨v,q⟩:=I.cell x c e
   exact absurd (amX q.lt (by rw[z];exact hb)) (aoG _)
 . exact absurd (amX (amC (I.pin p hp).1) (by rw[z];exact hb)) (aoG _)
structure Turn(P:Program)(w:World)(K:PySem.W.Frag)(tg:Expr)(J:It)(fp:List Addr)(it:Addr)(tn:Nat->Heap->Prop):Prop where
 mem:it∈fp
 obj:∀i h,tn i h->∀b∈fp,∃o,h.get? b=some o/\∀v,o.data ≠ .cell v
 keep:∀i h h',tn i h->(∀b∈fp,∀o,h.get? b=some o->h'.get? b=some o)->tn i h'
 item:∀(X:Cx),X.prog=P->X.w=w->X.K=K->X.calm=true->∀(i:Nat) (pins:List (Addr×Obj)) (s:Shared) (σ:St) (H:Hp) (E:Value->Shared->Prop),Inv X pins σ H s->(∀b∈fp,v8 X pins H b)->tn i s.heap->J.go i H →
   wpAny (model P w) X.A (pyNext (.ref it)) (fun r s1=>∃u,r=some u ∧
     wpAny (model P w) X.A (letOwnedTupleGo tg (.ref it) u) (fun _ s2=>∃x H',Inv X pins σ H' s2/\RelV x u/\J.XU i H x H'/\tn (i+1) s2.heap/\∀b∈fp,H' b=none) E s1) E s
 done:∀(X:Cx),X.prog=P->X.w=w->X.K=K->X.calm=true->∀(i:Nat) (pins:List (Addr×Obj)) (s:Shared) (σ:St) (H:Hp) (E:Value->Shared->Prop),Inv X pins σ H s->(∀b∈fp,v8 X pins H b)->tn i s.heap->J.stop i H →
   wpAny (model P w) X.A (pyNext (.ref it)) (fun r s1=>r=none/\Inv X pins σ H s1) E s
 self:∀(A:Around) (i:Nat) (s:Shared) (Q:Value->Shared->Prop) (E:Value->Shared->Prop),tn i s.heap->Q (.ref it) s->wpAny (model P w) A (pyIter (.ref it)) Q E s
abbrev TI:=St->Hp->(It->Hp->Prop)->Prop
def PIE(X:Cx)(pins:List (Addr×Obj))(σ:St)(tg:Expr)(R:It->Hp->Prop)(itv:Value)(s2:Shared):Prop:=
 ∃(it:Addr) (fp:List Addr) (tn:Nat->Heap->Prop) (J:It) (H':Hp),itv=.ref it/\Inv X pins σ H' s2/\Turn X.prog X.w X.K tg J fp it tn/\tn 0 s2.heap/\(∀b∈fp,v8 X pins H' b)/\R J H'
def PI(X:Cx)(tg iter:Expr)(wi:TI):Prop:=
 ∀(pins:List (Addr×Obj)) (s:Shared) (σ:St) (H:Hp) (R:It->Hp->Prop),Inv X pins σ H s->wi σ H R →
   wpAny (model X.prog X.w) X.A (eval iter X.env) (fun v s1=>wpAny (model X.prog X.w) X.A (pyIter v) (PIE X pins σ tg R) X.xe s1) X.xe s
theorem Ik{it:Addr}{o:Obj}{n:String}{vs:Array Value}(ho:s.heap.get? it=some o)(hc:o.cls=.type n)(hd:o.data=.fields vs)
   (hn:["enumerate","zip","dict_itemiterator","dict_reverseitemiterator","odict_iterator","itertools.zip_longest","itertools.pairwise"].contains n=false) (hQ:Q () s):wpAny M A (letOwnedTupleGo tg (.ref it) u) Q E s:=by
 unfold letOwnedTupleGo
 cases tg<;>first
   | exact amd hQ
   | (cases u<;>first
       | exact amd hQ
       | (refine al6 (wpAny_load ho ?_)
          rw[hc,hd]
          show wpAny M A (if (["enumerate","zip","dict_itemiterator","dict_reverseitemiterator","odict_iterator","itertools.zip_longest","itertools.pairwise"].contains n&&vs[0]? == some (rawInt _))=true then _ else _) Q E s
          rw[amq (by intro h;rw[hn,Bool.false_and]at h;cases h)]
          exact amd hQ))
def Itl(K:PySem.W.Frag)(a:Addr):It:=
 ⟨fun i H=>∃xs x,nV K H a xs/\xs[i]? = some x,fun i H x H'=>H'=H/\∀xs,nV K H a xs->xs[i]? = some x,fun i H=>∃xs,nV K H a xs/\xs.length<=i⟩
def Itt(K:PySem.W.Frag)(a:Addr):It:=
 ⟨fun i H=>∃xs x,om K H a xs/\xs[i]? = some x,fun i H x H'=>H'=H/\∀xs,om K H a xs->xs[i]? = some x,fun i H=>∃xs,om K H a xs/\xs.length<=i⟩
def Itr(lo:Int)(n:Nat):It:=⟨fun i _=>i<n,fun i H x H'=>H'=H/\x=.int (lo+i),fun i _=>n<=i⟩
theorem Kr(a it:Addr):Turn P w K tg (Itl K a) [it] it (fun i h=>h.IsListIter it a i) where
 mem:=by simp
 obj:=fun i h st b hb=>by
   have e:b=it:=by simpa using hb
   subst e
   obtain⟨o,e,c,d⟩:=st
   exact⟨o,e,fun v z=>by rw[d]at z;cases z⟩
 keep:=fun i h h' st k=>st.at fun o e=>k it (by simp) o e
 item:=by
   intro X hP hw hK hc i pins s σ H E I hf st hg
   subst hP hw hK
   obtain⟨xs,x,hq,hx⟩:=hg
   obtain⟨its,rv,p,hz⟩:=I.list hq
   obtain⟨u,hu,ru⟩:=rv.get hx
   obtain⟨f0,f1,f2,f3,f4,f5⟩:=hf it (by simp)
   refine wpAny_pyNext_list_item st p.isList (x:=u) (by simpa using hu) fun h' Nq sb=>?_
   have I1:Inv X pins σ H {s with heap:=h'}:=I.turned (t':=s.toks) (fun b o hb e=>(sb.2 b hb).trans e) f0 f1 f3 f4 f5
   obtain⟨o,e,c,d⟩:=id Nq
   exact⟨u,rfl,Ik (s:={s with heap:=h'}) e c d (by decide) ⟨x,H,I1,ru,⟨rfl,fun ys hy=>by rw[I.DR hy hq];exact hx⟩,Nq,fun b hb=>(hf b hb).1⟩⟩
 done:=by
   intro X hP hw hK hc i pins s σ H E I hf st hg
   subst hP hw hK
   obtain⟨xs,hq,hx⟩:=hg
   obtain⟨its,rv,p,hz⟩:=I.list hq
   obtain⟨f0,f1,f2,f3,f4,f5⟩:=hf it (by simp)
   have hl:=rv.length
   exact wpAny_pyNext_list_end (I.ok.hd hc) st p.isList (by simp;omega) fun h' eb=>⟨rfl,I.turned (t':=s.toks) (fun b o hb e=>eb b o hb e) f0 f1 f3 f4 f5⟩
 self:=fun _ _ _ _ _ st h=>wpAny_pyIter_listiter st h
theorem Fq(a it:Addr):Turn P w K tg (Itt K a) [it] it (fun i h=>h.IsTupleIter it a i) where
 mem:=by simp
 obj:=fun i h st b hb=>by
   have e:b=it:=by simpa using hb
   subst e
   obtain⟨o,e,c,d⟩:=st
   exact⟨o,e,fun v z=>by rw[d]at z;cases z⟩
 keep:=fun i h h' st k=>st.at fun o e=>k it (by simp) o e
 item:=by
   intro X hP hw hK hc i pins s σ H E I hf st hg
   subst hP hw hK
   obtain⟨xs,x,hq,hx⟩:=hg
   obtain⟨its,rv,p,hz⟩:=I.tuple hq
   obtain⟨u,hu,ru⟩:=rv.get hx
   obtain⟨f0,f1,f2,f3,f4,f5⟩:=hf it (by simp)
   refine wpAny_pyNext_tuple_item st (show s.heap.IsTuple a its.toArray from p) (x:=u) (by simpa using hu) fun h' Nq sb=>?_
   have I1:Inv X pins σ H {s with heap:=h'}:=I.turned (t':=s.toks) (fun b o hb e=>(sb.2 b hb).trans e) f0 f1 f3 f4 f5
   obtain⟨o,e,c,d⟩:=id Nq
   exact⟨u,rfl,Ik (s:={s with heap:=h'}) e c d (by decide) ⟨x,H,I1,ru,⟨rfl,fun ys hy=>by rw[I.Kq hy hq];exact hx⟩,Nq,fun b hb=>(hf b hb).1⟩⟩
 done:=by
   intro X hP hw hK hc i pins s σ H E I hf st hg
   subst hP hw hK
   obtain⟨xs,hq,hx⟩:=hg
   obtain⟨its,rv,p,hz⟩:=I.tuple hq
   obtain⟨f0,f1,f2,f3,f4,f5⟩:=hf it (by simp)
   have hl:=rv.length
   exact wpAny_pyNext_tuple_end (I.ok.hd hc) st (show s.heap.IsTuple a its.toArray from p) (by simp;omega) fun h' eb=>⟨rfl,I.turned (t':=s.toks) (fun b o hb e=>eb b o hb e) f0 f1 f3 f4 f5⟩
 self:=fun _ _ _ _ _ st h=>wpAny_pyIter_tupleiter st h
theorem Ft(it:Addr)(lo:Int)(n:Nat):Turn P w K tg (Itr lo n) [it] it (fun i h=>IsRangeIter h it (lo+(i:Nat)*1) ((n:Int)-(i:Nat)) 1) where
 mem:=by simp
 obj:=fun i h st b hb=>by
   have e:b=it:=by simpa using hb
   subst e
   exact⟨_,st,fun v z=>by
     have z':Data.fields _=Data.cell v:=z
     cases z'⟩
 keep:=fun i h h' st k=>k it (by simp) _ st
 item:=by
   intro X hP hw hK hc i pins s σ H E I hf st hg
   subst hP hw hK
   obtain⟨f0,f1,f2,f3,f4,f5⟩:=hf it (by simp)
   have W:=Walks.range (prog:=X.prog) (w:=X.w) (I.ok.hd hc) it lo 1 n
   refine W.item i s _ _ hg st fun v h' tk hv Nq kk=>?_
   obtain⟨t,rfl⟩:=hv
   have I1:Inv X pins σ H {s with heap:=h',toks:=tk}:=I.turned (fun b o hb e=>kk b o (by simpa using hb) e) f0 f1 f3 f4 f5
   refine⟨_,rfl,Ik (s:={s with heap:=h',toks:=tk}) (n:="range_iterator") Nq rfl rfl (by decide) ⟨.int (lo+i),H,I1,⟨t,?_⟩,⟨rfl,rfl⟩,Nq,fun b hb=>(hf b hb).1⟩⟩
   rw[Int.mul_one]
 done:=by
   intro X hP hw hK hc i pins s σ H E I hf st hg
   subst hP hw hK
   obtain⟨f0,f1,f2,f3,f4,f5⟩:=hf it (by simp)
   exact wpAny_pyNext_range_end (I.ok.hd hc) st (by have:n<=i:=hg;omega) fun h' eb=>⟨rfl,I.turned (t':=s.toks) (fun b o hb e=>eb b o hb e) f0 f1 f3 f4 f5⟩
 self:=fun _ _ _ _ _ st h=>wpAny_pyIter_rangeiter st h
def adx(K:PySem.W.Frag)(tl:TE):TI:=fun σ H R=>tl σ H fun x H1=>∃a,x=.ref a/\(∃xs,nV K H1 a xs)/\R (Itl K a) H1
def agH(K:PySem.W.Frag)(tl:TE):TI:=fun σ H R=>tl σ H fun x H1=>∃a,x=.ref a/\(∃xs,om K H1 a xs)/\R (Itt K a) H1
theorem Ue{l:Expr}{tl:TE}(hl:PE X l tl):PI X tg l (adx X.K tl):=by
 intro pins s σ H R I h
 refine dz (hl pins s σ H _ I h) fun v s1 zz=>?_
 obtain⟨x,H1,I1,r1,q1⟩:=zz
 obtain⟨a,e,⟨xs,hq⟩,q⟩:=q1
 subst e
 cases r1
 obtain⟨its,rv,p,hz⟩:=I1.list hq
 refine wpAny_pyIter_list p.isList ?_
 refine⟨s1.heap.objs.size,[s1.heap.objs.size],_,_,H1,rfl,I1.kept (t':=s1.toks) fun b o e=>amo _ e,Kr a _,⟨_,amD _ rfl,rfl,rfl⟩,fun b hb=>?_,q⟩
 have e:b=s1.heap.objs.size:=by simpa using hb
 subst e
 exact I1.zR (aml _) (I1.cQ.fresh (aml _))
theorem Zv{l:Expr}{tl:TE}(hl:PE X l tl):PI X tg l (agH X.K tl):=by
 intro pins s σ H R I h
 refine dz (hl pins s σ H _ I h) fun v s1 zz=>?_
 obtain⟨x,H1,I1,r1,q1⟩:=zz
 obtain⟨a,e,⟨xs,hq⟩,q⟩:=q1
 subst e
 cases r1
 obtain⟨its,rv,p,hz⟩:=I1.tuple hq
 refine wpAny_pyIter_tuple (show s1.heap.IsTuple a its.toArray from p) ?_
 refine⟨s1.heap.objs.size,[s1.heap.objs.size],_,_,H1,rfl,I1.kept (t':=s1.toks) fun b o e=>amo _ e,Fq a _,⟨_,amD _ rfl,rfl,rfl⟩,fun b hb=>?_,q⟩
 have e:b=s1.heap.objs.size:=by simpa using hb
 subst e
 exact I1.zR (aml _) (I1.cQ.fresh (aml _))
theorem Nr{R:It->Hp->Prop}{lo hi:Int}{t u v:Tok}{tk:Nat}(I:Inv X pins σ H s)(h1:-(2 ^ 62)<=lo)(h2:lo<2 ^ 62)(h3:-(2 ^ 62)<=hi)(h4:hi<2 ^ 62)
   (q:R (Itr lo (hi-lo).toNat) H):wpAny (model X.prog X.w) X.A (pyIter (.ref s.heap.objs.size)) (PIE X pins σ tg R) E {s with heap:=s.heap.push {cls:=.type "range",data:=.fields #[.int lo t,.int hi u,.int 1 v]},toks:=tk}:=by
 refine wpAny_pyIter_range (IsRange.new ..) (small_one h1 h2 h3 h4) ?_
 have I1:Inv X pins σ H {s with heap:=s.heap.push {cls:=.type "range",data:=.fields #[.int lo t,.int hi u,.int 1 v]},toks:=tk}:=I.kept fun b o e=>amo _ e
 refine⟨(s.heap.push {cls:=.type "range",data:=.fields #[.int lo t,.int hi u,.int 1 v]}).objs.size,[(s.heap.push {cls:=.type "range",data:=.fields #[.int lo t,.int hi u,.int 1 v]}).objs.size],_,_,H,rfl,
   I1.kept (t':=tk) fun b o e=>amo _ e,Ft _ lo (hi-lo).toNat,?_,fun b hb=>?_,q⟩
 . have e1:lo+((0:Nat):Int)*1=lo:=by simp
   have e2:(((hi-lo).toNat:Nat):Int)-((0:Nat):Int)=Builtin.Range.rangeSize lo hi 1:=by rw[rangeSize_one];split<;>omega
   show IsRangeIter _ _ (lo+((0:Nat):Int)*1) ((((hi-lo).toNat:Nat):Int)-((0:Nat):Int)) 1
   rw[e1,e2]
   exact amD _ rfl
 . have e:b=(s.heap.push {cls:=.type "range",data:=.fields #[.int lo t,.int hi u,.int 1 v]}).objs.size:=by simpa using hb
   subst e
   exact I1.zR (aml _) (I1.cQ.fresh (aml _))
def ady(ta:TA):TI:=fun σ H R=>ta σ H fun vs H1=>∃j:Int,vs=[.int j] /\ -(2 ^ 62)<=j/\j<2 ^ 62/\R (Itr 0 j.toNat) H1
theorem Ks{a:Expr}{ta:TA}{p:Pos}(hg:Gl X "range")(hm:X.mg "range" = none)(ha:PA X [a] ta)(hs:starEach [a] X.env=[(false,eval a X.env)]:=by rfl):PI X tg (.Call (.Name "range" p) [a] [] pos) (ady ta):=by
 intro pins s σ H R I h
 refine Call_ (qR I hg hm boot_range (anV (dz (ha pos pins s σ H _ I h) fun us s1 zz=>?_) hs rfl))
 obtain⟨vs,H1,I1,r1,q1⟩:=zz
 obtain⟨j,e,q1,q2,q⟩:=q1
 subst e
 cases r1 with
 | cons r rr=>
   cases rr
   obtain⟨t,rfl⟩:=r
   exact call_range_1 (Nr I1 (by omega) (by omega) q1 q2 (by simpa using q))
def agI(wi:TI)(g:TG)(tb:TS):TS:=fun D σ H=>wi σ H fun J H1=>∃W:Nat->Nat->St->Hp->Prop,(∃m,W 0 m σ H1)/\∀i m σ H,W i m σ H →
 (J.stop i H/\D.nx σ H)\/(J.go i H/\∃N:St->Hp->Prop,(∀σ' H',N σ' H'->∃m',m'<m/\W (i+1) m' σ' H')/\∀x H',J.XU i H x H'->g x σ H' fun σ2 H2=>tb {D with nx:=N,ct:=N,bk:=D.nx} σ2 H2)
def xX(fp:List Addr)(h:Heap):List (Addr×Obj):=fp.filterMap fun b=>(h.get? b).map fun o=>(b,o)
theorem mH{fp:List Addr}{o:Obj}(hb:b∈fp)(e:h.get? b=some o):(b,o)∈xX fp h:=List.mem_filterMap.mpr ⟨b,hb,by rw[e];rfl⟩
theorem Ku{fp:List Addr}{p:Addr×Obj}(hp:p∈xX fp h):p.1∈fp/\h.get? p.1=some p.2:=by
 obtain⟨b,hb,e⟩:=List.mem_filterMap.mp hp
 cases q:h.get? b with
 | none=>rw[q]at e;cases e
 | some o=>
   rw[q]at e
   have e':(b,o)=p:=amA e
   subst e'
   exact⟨hb,q⟩
theorem Inv.pinned{fp:List Addr}(I:Inv X pins σ H s)(hf:∀b∈fp,v8 X pins H b)(ho:∀b∈fp,∃o,s.heap.get? b=some o/\∀v,o.data ≠ .cell v):Inv X (pins++xX fp s.heap) σ H s:=
 I.wO fun p hp=>(amr.mp hp).elim (fun z=>I.pin p (amc _ z)) fun z=>by
   obtain⟨hb,e⟩:=Ku z
   obtain⟨f0,f1,f2,_⟩:=hf p.1 hb
   obtain⟨o,e',d⟩:=ho p.1 hb
   rw[e]at e';cases e'
   exact⟨e,f0,f1,f2,d⟩
theorem Inv.sd{pl:List (Addr×Obj)}(I:Inv X (pins++pl) σ H s):Inv X pins σ H s:=I.wO fun p hp=>I.pin p (amc _ (amk _ hp))
theorem Bp{iter:Expr}{body:List Stmt}{wi:TI}{g:TG}{tb:TS}(hp:PassesOwn (model X.prog X.w) X.A X.env X.xe)(hc:X.calm=true)(hi:PI X tg iter wi)(hg:PG X tg g)(hb:E6 X body tb)
   (hs:∀x,foldedSetIterable iter X.env x=pure x:=by intro _;rfl):PS X (.For tg iter body [] pos) (agI wi g tb):=by
 intro pins s σ H D I h
 refine wpAny_For (dz (hi pins s σ H _ I h) fun v s1 h1=>dz h1 fun itv s2 h2=>?_) hs
 obtain⟨it,fp,tn,J,H2,e,I2,T,st2,f2,W,⟨m0,w0⟩,turn⟩:=h2
 subst e
 have stat:∀{H':Hp},(∀b∈fp,H' b=none)->∀b∈fp,v8 X pins H' b:=fun hn b hb=>⟨hn b hb,(f2 b hb).2⟩
 refine codeAny_forLoop_any (fun n s'=>∃i σ' H',Inv X pins σ' H' s'/\tn i s'.heap/\(∀b∈fp,H' b=none)/\W i n σ' H') ?_ m0 ⟨0,σ,H2,I2,st2,fun b hb=>(f2 b hb).1,w0⟩
 rintro n s3 ⟨i,σ3,H3,I3,st3,fr3,w3⟩
 rcases turn i n σ3 H3 w3 with⟨stop,qn⟩|⟨go,N,hN,step⟩
 . refine aof hp (dz (T.done X rfl rfl rfl hc i pins s3 σ3 H3 X.xe I3 (stat fr3) st3 stop) fun r s4 zz=>?_)
   obtain⟨hr,I4⟩:=zz
   subst hr
   exact wpAny_execs_nil ⟨σ3,H3,I4,qn⟩
 . refine aof hp (dz (T.item X rfl rfl rfl hc i pins s3 σ3 H3 X.xe I3 (stat fr3) st3 go) fun r s4 zz=>?_)
   obtain⟨u,hr,h4⟩:=zz
   subst hr
   refine aof hp (dz h4 fun _ s5 zz=>?_)
   obtain⟨x,H5,I5,r5,y5,st5,fr5⟩:=zz
   have I5':=I5.pinned (stat fr5) (T.obj _ _ st5)
   refine aof hp (dz (hg _ s5 σ3 H5 x u _ I5' r5 (step x H5 y5)) fun _ s6 zz=>?_)
   obtain⟨σ6,H6,I6,q6⟩:=zz
   refine aof hp (dz (hb _ s6 σ6 H6 _ I6 q6) fun f s7 q7=>?_)
   have again:∀{σ7:St} {H7:Hp},Inv X (pins++xX fp s5.heap) σ7 H7 s7->N σ7 H7->∃m,m<n/\∃i σ' H',Inv X pins σ' H' s7/\tn i s7.heap/\(∀b∈fp,H' b=none)/\W i m σ' H':=fun {σ7 H7} I7 n7=>by
     obtain⟨m',hm,w7⟩:=hN σ7 H7 n7
     refine⟨m',hm,i+1,σ7,H7,I7.sd,T.keep _ _ _ st5 fun b hb o e=>(I7.pin (b,o) (amc _ (amc _ (mH hb e)))).1,fun b hb=>?_,w7⟩
     obtain⟨o,e,d⟩:=T.obj _ _ st5 b hb
     exact(I7.pin (b,o) (amc _ (amc _ (mH hb e)))).2.1
   cases f with
   | next=>obtain⟨σ7,H7,I7,n7⟩:=q7;exact again I7 n7
   | cont=>obtain⟨σ7,H7,I7,n7⟩:=q7;exact again I7 n7
   | brk=>obtain⟨σ7,H7,I7,q7⟩:=q7;exact⟨σ7,H7,I7.sd,q7⟩
   | ret v=>obtain⟨x7,σ7,H7,I7,r7,q7⟩:=q7;exact⟨x7,σ7,H7,I7.sd,r7,q7⟩
abbrev R2:=V->V->Hp->VK->Prop
def oq(X:Cx)(f:Value->Value->Sem Value)(r:R2):Prop:=
 ∀(pins:List (Addr×Obj)) (s:Shared) (σ:St) (H:Hp) (x y:V) (v u:Value) (Q:VK),Inv X pins σ H s->RelV x v->RelV y u->r x y H Q →
   wpAny (model X.prog X.w) X.A (f v u) (EP X pins σ Q) X.xe s
def UnR(X:Cx)(f:Value->Sem Value)(r:V->Hp->VK->Prop):Prop:=
 ∀(pins:List (Addr×Obj)) (s:Shared) (σ:St) (H:Hp) (x:V) (v:Value) (Q:VK),Inv X pins σ H s->RelV x v->r x H Q →
   wpAny (model X.prog X.w) X.A (f v) (EP X pins σ Q) X.xe s
def j8(X:Cx)(f:Value)(r:List V->Hp->VK->Prop):Prop:=
 ∀(pins:List (Addr×Obj)) (s:Shared) (σ:St) (H:Hp) (xs:List V) (us:List Value) (Q:VK),Inv X pins σ H s->Vals xs us->r xs H Q →
   wpAny (model X.prog X.w) X.A (call f us) (EP X pins σ Q) X.xe s
def tOp(r:R2)(ta tb:TE):TE:=fun σ H Q=>ta σ H fun x H1=>tb σ H1 fun y H2=>r x y H2 Q
def tUn(r:V->Hp->VK->Prop)(ta:TE):TE:=fun σ H Q=>ta σ H fun x H1=>r x H1 Q
def rI(C:Int->Int->Prop)(g:Int->Int->V):R2:=fun x y H Q=>∃i j,x=.int i/\y=.int j/\C i j/\Q (g i j) H
def Ug(g:Int->Int->V):R2:=fun x y H Q=>∃i j,x=.int i/\y=.int j/\Q (g i j) H
def rU(g:Int->V):V->Hp->VK->Prop:=fun x H Q=>∃i,x=.int i/\Q (g i) H
variable{a b:Expr}{ta tb:TE}{f:Value->Value->Sem Value}
theorem Zw(ha:PE X a ta)(hb:PE X b tb){R:V->V->Hp->Prop}(I:Inv X pins σ H s)
   (h:ta σ H fun x H1=>tb σ H1 fun y H2=>R x y H2) {Q:Value->Shared->Prop}
   (hf:∀v u s2 x y H2,Inv X pins σ H2 s2->RelV x v->RelV y u->R x y H2->wpAny (model X.prog X.w) X.A (f v u) Q X.xe s2) :
   wpAny (model X.prog X.w) X.A (eval a X.env) (fun v s₁=>wpAny (model X.prog X.w) X.A (eval b X.env) (fun u s₂=>wpAny (model X.prog X.w) X.A (f v u) Q X.xe s₂) X.xe s₁) X.xe s:=by
 refine dz (ha pins s σ H _ I h) fun v s1 zz=>?_
 obtain⟨x,H1,I1,r1,q1⟩:=zz
 refine dz (hb pins s1 σ H1 _ I1 q1) fun u s2 zz=>?_
 obtain⟨y,H2,I2,r2,q2⟩:=zz
 exact hf v u s2 x y H2 I2 r1 r2 q2
variable{r:R2}
theorem xY{op:Operator}(ho:oq X (binaryOp op) r)(ha:PE X a ta)(hb:PE X b tb):PE X (.BinOp a op b pos) (tOp r ta tb):=by
 intro pins s σ H Q I h
 exact wpAny_BinOp (Zw ha hb I h fun v u s2 x y H2 I2 rx ry q=>ho pins s2 σ H2 x y v u Q I2 rx ry q)
theorem adA{op:UnaryOp}{r:V->Hp->VK->Prop}(ho:UnR X (unaryOp op) r)(ha:PE X a ta):PE X (.UnaryOp op a pos) (tUn r ta):=by
 intro pins s σ H Q I h
 exact UnaryOp_ (dz (ha pins s σ H _ I h) fun v s1 ⟨x,H1,I1,r1,q1⟩=>ho pins s1 σ H1 x v Q I1 r1 q1)
theorem opI{C:Int->Int->Prop}{g:Int->Int->Int}
   (rule:∀(i j:Int) (t u:Tok) (s:Shared) (Q:Value->Shared->Prop) (E:Value->Shared->Prop),C i j->Q (.int (g i j) s.toks) {s with toks:=s.toks+1}->wpAny (model X.prog X.w) X.A (f (.int i t) (.int j u)) Q E s) :
   oq X f (rI C fun i j=>.int (g i j)):=by
 intro pins s σ H x y v u Q I rx ry h
 obtain⟨i,j,rfl,rfl,hc,q⟩:=h
 obtain⟨t,rfl⟩:=rx
 obtain⟨t',rfl⟩:=ry
 exact rule i j t t' s _ _ hc ⟨.int (g i j),H,I.tok _,⟨_,rfl⟩,q⟩
theorem adB{g:Int->Int->Int}
   (rule:∀(i j:Int) (t u:Tok) (s:Shared) (Q:Value->Shared->Prop) (E:Value->Shared->Prop),Q (.int (g i j) s.toks) {s with toks:=s.toks+1}->wpAny (model X.prog X.w) X.A (f (.int i t) (.int j u)) Q E s) :
   oq X f (Ug fun i j=>.int (g i j)):=by
 intro pins s σ H x y v u Q I rx ry h
 obtain⟨i,j,rfl,rfl,q⟩:=h
 obtain⟨t,rfl⟩:=rx
 obtain⟨t',rfl⟩:=ry
 exact rule i j t t' s _ _ ⟨.int (g i j),H,I.tok _,⟨_,rfl⟩,q⟩
theorem Zx{g:Int->Int->Bool}
   (rule:∀(i j:Int) (t u:Tok) (s:Shared) (Q:Value->Shared->Prop) (E:Value->Shared->Prop),Q (.bool (g i j)) s->wpAny (model X.prog X.w) X.A (f (.int i t) (.int j u)) Q E s) :
   oq X f (Ug fun i j=>.bl (g i j)):=by
 intro pins s σ H x y v u Q I rx ry h
 obtain⟨i,j,rfl,rfl,q⟩:=h
 obtain⟨t,rfl⟩:=rx
 obtain⟨t',rfl⟩:=ry
 exact rule i j t t' s _ _ ⟨.bl (g i j),H,I,rfl,q⟩
def adC(i j:Int):Prop:=0<j/\j<1073741824
def adD(i j:Int):Prop:=0<=j/\j<=1000000/\i.natAbs<2 ^ 64
def Uh(i j:Int):Prop:=(-(2 ^ 64)<i/\i<2 ^ 64)\/(-(2 ^ 64)<j/\j<2 ^ 64)
theorem Uh.ok{i j:Int}(h:Uh i j):IntMulOk i j:=by
 rcases h with⟨h1,h2⟩|⟨h1,h2⟩
 . exact .of_left (intBits_le_64 h1 h2)
 . exact .of_right (intBits_le_64 h1 h2)
theorem Zy:oq X (binaryOp .Add) (Ug fun i j=>.int (i+j)):=adB fun _ _ _ _ _ _ _ q=>add_int q
theorem Zz:oq X (binaryOp .Sub) (Ug fun i j=>.int (i-j)):=adB fun _ _ _ _ _ _ _ q=>sub_int q
theorem ZC:oq X (binaryOp .Mult) (rI Uh fun i j=>.int (i*j)):=opI fun _ _ _ _ _ _ _ hc q=>mul_int q hc.ok
theorem Ui:oq X (binaryOp .FloorDiv) (rI adC fun i j=>.int (i / j)):=opI fun i j _ _ _ _ _ hc q=>by
 have h1:(0:Int)<j:=hc.1
 have h2:j<1073741824:=hc.2
 exact floordiv_int (by omega) (by rw[Int.fdiv_eq_ediv_of_nonneg i (by omega)];exact q) (.inl (PyProof.noPylong_small (by omega)))
theorem ZD:oq X (binaryOp .Mod) (rI (fun _ j=>0<j) fun i j=>.int (i % j)):=opI fun i j _ _ _ _ _ hc q=>by
 have h1:(0:Int)<j:=hc
 exact mod_int' (by omega) (by rw[Int.fmod_eq_emod_of_nonneg i (by omega)];exact q)
theorem ZE:oq X (binaryOp .Pow) (rI adD fun i j=>.int (i ^ j.toNat)):=opI fun _ _ _ _ _ _ _ hc q=>pow_int_small hc.1 hc.2.1 hc.2.2 q
theorem unI{f:Value->Sem Value}{g:Int->Int}
   (rule:∀(i:Int) (t:Tok) (s:Shared) (Q:Value->Shared->Prop) (E:Value->Shared->Prop),Q (.int (g i) s.toks) {s with toks:=s.toks+1}->wpAny (model X.prog X.w) X.A (f (.int i t)) Q E s) :
   UnR X f (rU fun i=>.int (g i)):=by
 intro pins s σ H x v Q I rx h
 obtain⟨i,rfl,q⟩:=h
 obtain⟨t,rfl⟩:=rx
 exact rule i t s _ _ ⟨.int (g i),H,I.tok _,⟨_,rfl⟩,q⟩
theorem ZF:UnR X (unaryOp .USub) (rU fun i=>.int (-i)):=unI fun _ _ _ _ _ q=>neg_int q
def adE:V->V->Bool
 | .non,.non=>true | .non,.int _=>true | .int _,.non=>true | .non,.bl _=>true | .bl _,.non=>true | .non,.str _=>true | .str _,.non=>true
 | .int _,.int _=>true | .bl _,.bl _=>true | .str _,.str _=>true | .Kl _,.Kl _=>true
 | .int _,.str _=>true | .str _,.int _=>true | .bl _,.str _=>true | .str _,.bl _=>true
 | _,_=>false
def rEq:R2:=fun x y H Q=>adE x y=true/\Q (.bl (decide (x=y))) H
def rNe:R2:=fun x y H Q=>adE x y=true/\Q (.bl (!decide (x=y))) H
theorem Il{i j:Int}:decide (V.int i=V.int j)=(i==j):=by
 rw[aoP]
 simp
theorem Nt{i j:Bool}:decide (V.bl i=V.bl j)=(i==j):=by
 rw[aoP]
 simp
theorem Im{i j:Str}:decide (V.str i=V.str j)=(i==j):=by
 rw[aoP]
 simp
theorem Io{i j:Array UInt8}:decide (V.Kl i=V.Kl j)=(i.toList==j.toList):=by
 rw[aoP]
 cases i
 cases j
 simp
variable{c:Expr}{tc:TE}
theorem cI{Q:VK}{k k':Bool}(I:Inv X pins σ H s)(q:Q (.bl k) H)(e:k=k'):EP X pins σ Q (.bool k') s:=by
 subst e
 exact⟨.bl k,H,I,rfl,q⟩
theorem adF:oq X (compareOp .Eq) rEq:=by
 intro pins s σ H x y v u Q I rx ry h
 obtain⟨hs,q⟩:=h
 cases x with
 | non=>
   cases rx
   cases y with
   | non=>cases ry;exact PySem.EqNone.eq_none_none (cI I q (by simp))
   | bl j=>cases ry;exact PySem.EqNone.eq_none_bool (cI I q (by simp))
   | int j=>obtain⟨t',rfl⟩:=ry;exact PySem.EqNone.eq_none_int (cI I q (by simp))
   | str j=>obtain⟨t',rfl⟩:=ry;exact PySem.EqNone.eq_none_str (cI I q (by simp))
   | _=>exact absurd (show false=true from hs) amu
 | bl i=>
   cases rx
   cases y with
   | non=>cases ry;exact PySem.EqNone.eq_bool_none (cI I q (by simp))
   | bl j=>cases ry;exact eq_bool (cI I q Nt)
   | str j=>obtain⟨t',rfl⟩:=ry;exact PySem.EqMixed.eq_bool_str (cI I q (by simp))
   | _=>exact absurd (show false=true from hs) amu
 | int i=>
   obtain⟨t,rfl⟩:=rx
   cases y with
   | non=>cases ry;exact PySem.EqNone.eq_int_none (cI I q (by simp))
   | int j=>obtain⟨t',rfl⟩:=ry;exact eq_int (cI I q Il)
   | str j=>obtain⟨t',rfl⟩:=ry;exact PySem.EqMixed.eq_int_str (cI I q (by simp))
   | _=>exact absurd (show false=true from hs) amu
 | str i=>
   obtain⟨t,rfl⟩:=rx
   cases y with
   | non=>cases ry;exact PySem.EqNone.eq_str_none (cI I q (by simp))
   | bl j=>cases ry;exact PySem.EqMixed.eq_str_bool (cI I q (by simp))
   | int j=>obtain⟨t',rfl⟩:=ry;exact PySem.EqMixed.eq_str_int (cI I q (by simp))
   | str j=>obtain⟨t',rfl⟩:=ry;exact eq_str (cI I q Im)
   | _=>exact absurd (show false=true from hs) amu
 | Kl i=>
   obtain⟨t,rfl⟩:=rx
   cases y with
   | Kl j=>obtain⟨t',rfl⟩:=ry;exact PySem.W.eq_bytes (cI I q Io)
   | _=>exact absurd (show false=true from hs) amu
 | _=>cases y<;>exact absurd (show false=true from hs) amu
theorem adG:oq X (compareOp .NotEq) rNe:=by
 intro pins s σ H x y v u Q I rx ry h
 obtain⟨hs,q⟩:=h
 cases x with
 | non=>
   cases rx
   cases y with
   | non=>cases ry;exact PySem.EqNone.ne_none_none (cI I q (by simp))
   | bl j=>cases ry;exact PySem.EqNone.ne_none_bool (cI I q (by simp))
   | int j=>obtain⟨t',rfl⟩:=ry;exact PySem.EqNone.ne_none_int (cI I q (by simp))
   | str j=>obtain⟨t',rfl⟩:=ry;exact PySem.EqNone.ne_none_str (cI I q (by simp))
   | _=>exact absurd (show false=true from hs) amu
 | bl i=>
   cases rx
   cases y with
   | non=>cases ry;exact PySem.EqNone.ne_bool_none (cI I q (by simp))
   | bl j=>cases ry;exact ne_bool (cI I q (congrArg not Nt))
   | str j=>obtain⟨t',rfl⟩:=ry;exact PySem.EqMixed.ne_bool_str (cI I q (by simp))
   | _=>exact absurd (show false=true from hs) amu
 | int i=>
   obtain⟨t,rfl⟩:=rx
   cases y with
   | non=>cases ry;exact PySem.EqNone.ne_int_none (cI I q (by simp))
   | int j=>obtain⟨t',rfl⟩:=ry;exact ne_int (cI I q (congrArg not Il))
   | str j=>obtain⟨t',rfl⟩:=ry;exact PySem.EqMixed.ne_int_str (cI I q (by simp))
   | _=>exact absurd (show false=true from hs) amu
 | str i=>
   obtain⟨t,rfl⟩:=rx
   cases y with
   | non=>cases ry;exact PySem.EqNone.ne_str_none (cI I q (by simp))
   | bl j=>cases ry;exact PySem.EqMixed.ne_str_bool (cI I q (by simp))
   | int j=>obtain⟨t',rfl⟩:=ry;exact PySem.EqMixed.ne_str_int (cI I q (by simp))
   | str j=>obtain⟨t',rfl⟩:=ry;exact ne_str (cI I q (congrArg not Im))
   | _=>exact absurd (show false=true from hs) amu
 | Kl i=>
   obtain⟨t,rfl⟩:=rx
   cases y with
   | Kl j=>obtain⟨t',rfl⟩:=ry;exact PySem.W.ne_bytes (cI I q (congrArg not Io))
   | _=>exact absurd (show false=true from hs) amu
 | _=>cases y<;>exact absurd (show false=true from hs) amu
theorem XW:oq X (compareOp .Lt) (Ug fun i j=>.bl (decide (i<j))):=Zx fun _ _ _ _ _ _ _ q=>lt_int q
theorem adH:oq X (compareOp .LtE) (Ug fun i j=>.bl (decide (i<=j))):=Zx fun _ _ _ _ _ _ _ q=>le_int q
theorem adI:oq X (compareOp .Gt) (Ug fun i j=>.bl (decide (j<i))):=Zx fun _ _ _ _ _ _ _ q=>gt_int q
variable{op:CmpOp}
theorem oB(b:Expr)(h:op ≠ .In:=by decide)(h2:op ≠ .NotIn:=by decide):behindInMarks op b=false:=by
 have e1:(op==CmpOp.In)=false:=by cases op<;>first|rfl|exact absurd rfl h
 have e2:(op==CmpOp.NotIn)=false:=by cases op<;>first|rfl|exact absurd rfl h2
 cases b<;>simp[behindInMarks,e1,e2]
theorem se(ho:oq X (compareOp op) r)(ha:PE X a ta)(hb:PE X b tb)(hm:behindInMarks op b=false):PE X (.Compare a [op] [b] pos) (tOp r ta tb):=by
 intro pins s σ H Q I h
 exact wpAny_Compare1 (Zw ha hb I h fun v u s2 x y H2 I2 rx ry q=>ho pins s2 σ H2 x y v u Q I2 rx ry q) hm
def XY(t:TE):TT:=fun σ H Q=>t σ H fun x H'=>∃k,x=.bl k/\Q k H'
theorem sf(ho:oq X (compareOp op) r)(ha:PE X a ta)(hb:PE X b tb)(hm:behindInMarks op b=false):PT X (.Compare a [op] [b] pos) (XY (tOp r ta tb)):=by
 intro pins s σ H Q I h
 refine wpAny_isTrue_Compare1 (dz (ha pins s σ H _ I h) fun v s1 ⟨x,H1,I1,r1,q1⟩=>dz (hb pins s1 σ H1 _ I1 q1) fun u s2 ⟨y,H2,I2,r2,q2⟩=>
   dz (ho pins s2 σ H2 x y v u _ I2 r1 r2 q2) fun c s3 ⟨z,H3,I3,r3,k,e,q3⟩=>?_) hm
 subst e
 cases r3
 exact anR ⟨H3,I3,q3⟩
def Nu(r r':R2)(ta tb tc:TE):TE:=fun σ H Q=>ta σ H fun x H1=>tb σ H1 fun y H2=>r x y H2 fun z H3=>∃k,z=.bl k ∧
 (if k=true then tc σ H3 fun w' H4=>r' y w' H4 Q else Q (.bl false) H3)
theorem Nv{op':CmpOp}{r':R2}(ho:oq X (compareOp op) r)(E5:oq X (compareOp op') r')(ha:PE X a ta)(hb:PE X b tb)(hc:PE X c tc)
   (hm:lastMarks [op,op'] [b,c]=false:=by with_unfolding_all rfl):PE X (.Compare a [op,op'] [b,c] pos) (Nu r r' ta tb tc):=by
 intro pins s σ H Q I h
 refine Compare_chain (dz (ha pins s σ H _ I h) fun v s1 ⟨x,H1,I1,r1,q1⟩=>chain_link (dz (hb pins s1 σ H1 _ I1 q1) fun u s2 ⟨y,H2,I2,r2,q2⟩=>
   dz (ho pins s2 σ H2 x y v u _ I2 r1 r2 q2) fun d s3 ⟨z,H3,I3,r3,k,e,q3⟩=>?_)) hm
 subst e
 cases r3
 refine anR ?_
 cases k with
 | false=>exact ite_ff ⟨.bl false,H3,I3,rfl,q3⟩
 | true=>exact ite_tt (chain_last (dz (hc pins s3 σ H3 _ I3 q3) fun w' s4 ⟨z',H4,I4,r4,q4⟩=>E5 pins s4 σ H4 y z' u w' Q I4 r2 r4 q4))
theorem Nx{op':CmpOp}{r':R2}(ho:oq X (compareOp op) r)(E5:oq X (compareOp op') r')(ha:PE X a ta)(hb:PE X b tb)(hc:PE X c tc)
   (hm:lastMarks [op,op'] [b,c]=false:=by with_unfolding_all rfl):PT X (.Compare a [op,op'] [b,c] pos) (XY (Nu r r' ta tb tc)):=by
 intro pins s σ H Q I h
 refine isTrue_chain (dz (ha pins s σ H _ I h) fun v s1 ⟨x,H1,I1,r1,q1⟩=>test_link (dz (hb pins s1 σ H1 _ I1 q1) fun u s2 ⟨y,H2,I2,r2,q2⟩=>
   dz (ho pins s2 σ H2 x y v u _ I2 r1 r2 q2) fun d s3 ⟨z,H3,I3,r3,k,e,q3⟩=>?_)) hm
 subst e
 cases r3
 refine anR ?_
 cases k with
 | false=>
   obtain⟨k',e',q'⟩:=q3
   cases e'
   exact ite_ff ⟨H3,I3,q'⟩
 | true=>
   refine ite_tt (test_last (dz (hc pins s3 σ H3 _ I3 q3) fun w' s4 ⟨z',H4,I4,r4,q4⟩=>dz (E5 pins s4 σ H4 y z' u w' _ I4 r2 r4 q4) fun d' s5 zz=>?_))
   obtain⟨z2,H5,I5,r5,k2,e2,q5⟩:=zz
   subst e2
   cases r5
   exact anR ⟨H5,I5,q5⟩
theorem xZ:(sizeLine:Nat)<2 ^ 63:=by rw[amE];decide
theorem Fv:oq X (binaryOp .Add) (fun x y H Q=>∃i j,x=.str i/\y=.str j/\i.length+j.length<=sizeLine/\Q (.str (i++j)) H):=by
 intro pins s σ H x y v u Q I rx ry h
 obtain⟨i,j,rfl,rfl,hz,q⟩:=h
 obtain⟨t,rfl⟩:=rx
 obtain⟨t',rfl⟩:=ry
 exact add_str (fun t' tk=>⟨.str (i++j),H,I.tok _,⟨_,rfl⟩,q⟩) hz
theorem vals1{x:V}(r:Vals [x] us):∃u,us=[u]/\RelV x u:=by
 cases r with
 | cons r1 r2=>cases r2;exact⟨_,rfl,r1⟩
theorem vals2{x y:V}(r:Vals [x,y] us):∃u w',us=[u,w']/\RelV x u/\RelV y w':=by
 cases r with
 | cons r1 r2=>
   cases r2 with
   | cons r3 r4=>cases r4;exact⟨_,_,rfl,r1,r3⟩
theorem Kv(hc:X.calm=true):j8 X (.builtin "max") (fun xs H Q=>∃i j,xs=[.int i,.int j]/\Q (.int (if j > i then j else i)) H):=by
 intro pins s σ H xs us Q I r h
 obtain⟨i,j,rfl,q⟩:=h
 obtain⟨u,w',rfl,⟨t,rfl⟩,⟨t',rfl⟩⟩:=vals2 r
 refine max_two_ints (I.ok.hd hc) fun h' tk k=>⟨_,H,I.kept k,?_,q⟩
 by_cases hj:j > i
 . rw[amx hj,amx hj];exact⟨_,rfl⟩
 . rw[amq hj,amq hj];exact⟨_,rfl⟩
theorem Kw(hc:X.calm=true):j8 X (.builtin "min") (fun xs H Q=>∃i j,xs=[.int i,.int j]/\Q (.int (if j<i then j else i)) H):=by
 intro pins s σ H xs us Q I r h
 obtain⟨i,j,rfl,q⟩:=h
 obtain⟨u,w',rfl,⟨t,rfl⟩,⟨t',rfl⟩⟩:=vals2 r
 refine min_two_ints (I.ok.hd hc) fun h' tk k=>⟨_,H,I.kept k,?_,q⟩
 by_cases hj:j<i
 . rw[amx hj,amx hj];exact⟨_,rfl⟩
 . rw[amq hj,amq hj];exact⟨_,rfl⟩
theorem Bq:j8 X (.type "str") (fun xs H Q=>∃i,xs=[.int i]/\i.natAbs.log2<1920/\Q (.str (toString i)) H):=by
 intro pins s σ H xs us Q I r h
 obtain⟨i,rfl,hz,q⟩:=h
 obtain⟨u,rfl,t,rfl⟩:=vals1 r
 exact PySem.P.str_of_int hz ⟨.str _,H,I.tok _,⟨_,rfl⟩,q⟩
structure Kx(h:Heap)(x dx C:Addr)(mA:Str->Option Value):Prop where
 obj:h.get? x=some (PySem.W.instObj C dx)
 ns:h.Ns1 dx mA
 ne:dx≠x
variable{dx:Addr}
theorem Ky{mA:Str->Option Value}(n:h.Ns1 dx mA):∃od,h.get? dx=some od/\∀name,PySem.W.lookIn name od=some (mA name):=by
 obtain⟨o,es,ep,ho,hd,hk,_,hm⟩:=n
 refine⟨o,ho,fun name=>?_⟩
 have e:=hm name
 unfold nsFind findBy at e
 rw[← Array.find?_toList]at e
 unfold PySem.W.lookIn
 rw[hd]
 dsimp only
 split
 . rename_i y q
   rw[q]at e
   exact congrArg some e
 . rename_i q
   rw[q]at e
   have a:es.toList.any (·.refKey)=false:=by
     rw[List.any_eq_false]
     intro y hy
     obtain⟨z,t,v9⟩:=hk y (Array.mem_toList_iff.mp hy)
     simp[DictEntry.refKey,v9]
   have a':¬ es.toList.any (·.refKey)=true:=by rw[a];exact amu
   rw[amq a']
   exact congrArg some e
variable{C:Addr}
theorem Kx.look{mA:Str->Option Value}(I:Kx h x dx C mA):∃od,PySem.W.InstAt h x (PySem.W.instObj C dx) C (some od)/\∀name,PySem.W.lookIn name od=some (mA name):=
 let ⟨od,ho,hl⟩:=Ky I.ns
 ⟨od,⟨I.obj,rfl,rfl,ho⟩,hl⟩
variable{prog:Program}{f:Addr}{mA:Str->Option Value}{name:Str}{v:Value}
theorem get_map{expr:Bool}{Q:Value->Shared->Prop}(X:K.In s.heap)(I:Kx s.heap x dx C mA)(hg:PySem.W.plainGet K C name=true)(hh:PySem.W.hasDictIn K C=true)
   (ha:PySem.W.findIn K (.ref C) name=some none) (hv:mA name=some v) (hv':PySem.W.handedIn v=true) (h:Q v {s with toks:=s.toks+1}) :
   wpAny (model prog w) A (getAttr (.ref x) name expr) Q E s:=by
 obtain⟨od,J,hl⟩:=I.look
 exact PySem.W.get_value X J (PySem.W.plainGet_of hg).1 (PySem.W.findObj_own hh ha rfl (by rw[hl,hv])) hv' h
theorem Uj{ns:List Str}(X:K.In s.heap)(I:Kx s.heap x dx C mA)
   (hs:PySem.W.findIn K (.ref C) "__setattr__" = some (some (.builtin "object.__setattr__"))) (hp:PySem.W.plainOver K C=true) (ht:PySem.W.takerIn K C name=some none) (hh:PySem.W.hasDictIn K C=true)
   (hw:PySem.Within mA ns) (hsz:ns.length<=sizeLine)
   (h:∀h',Kx h' x dx C (fun y=>if y=name then some v else mA y)->Heap.SameBut dx s.heap h'->Q () {s with heap:=h',toks:=s.toks+2}) :
   wpAny (model prog w) A (setAttr (.ref x) name v) Q E s:=by
 obtain⟨od,J,hl⟩:=I.look
 refine PySem.W.set_plain X J hs (PySem.W.osa_open (s:={s with toks:=s.toks+1}) (r:=none) X J hp ht fun b=>?_)
 obtain⟨cd,hc,zQ⟩:=PySem.W.any_some hh
 have hx:s.heap.get? x=some ⟨.ref C,some dx,.plain,#[]⟩:=I.obj
 refine al6 (amd (al6 (al6 (wpAny_loadPart hx (al6 (PySem.W.Looks.here (s:={s with toks:=s.toks+1}) (PySem.W.looks_clsIn X hc) ?_))))))
 rw[zQ]
 refine amd (a:=some dx) (al6 (amd (al6 ?_)))
 refine wpAny_nsSet1 (s:={s with toks:=s.toks+1}) I.ns fun h' XZ wQ=>?_
 obtain⟨oD,esD,epD,hoD,hdD,hcD⟩:=XZ.count (PySem.Within.cons name v hw)
 refine al6 (wpAny_lookBehind hoD (by rw[hdD];exact pastItsLine_dict (am9 hcD (by rw[am8];omega))) ?_)
 exact amd (h _ ⟨(wQ.2 _ (anP I.ne)).trans I.obj,XZ,I.ne⟩ wQ)
theorem Ny{R:Result->Shared->Prop}{vs:List Value}{kw:List (Str×Value)}(X:K.In s.heap)(hm:PySem.W.makesIn K C=true)
   (hi:PySem.W.findIn K (.ref C) "__init__" = some (some (.ref f))) (hf:PySem.W.typeIn K (.ref f)=some (.type "function"))
   (h:codeAny (model prog w) (A.under (.builtin "type.__call__" ⟨.ref C::vs,kw⟩)) (.call (.ref f) ⟨.ref (s.heap.objs.size+1)::vs,kw⟩) (PySem.W.InitBack (s.heap.objs.size+1) R)
     {s with heap:=(s.heap.push PySem.W.emptyDict).push (PySem.W.instObj C s.heap.objs.size)}) :
   codeAny (model prog w) A (.call (.ref C) ⟨vs,kw⟩) R s:=by
 obtain⟨hh,g,d,t,os⟩:=s
 exact PySem.W.make_core (PySem.W.makes_of X hm) (PySem.W.looks_findIn X hi) (fun self=>PySem.W.bind_fn X self hf) (.inl rfl) h
def j9(f:Str)(v:V):List (Str×V)->List (Str×V)
 | []=>[(f,v)]
 | (g,x)::r=>if g=f then(g,v)::r else(g,x)::j9 f v r
theorem vG(f g:Str)(v:V):∀fs:List (Str×V),(j9 f v fs).lookup g=if g=f then some v else fs.lookup g
 | []=>by
   show List.lookup g [(f,v)]=_
   by_cases h:g=f
   . have hb:(g==f)=true:=aoY.mpr h
     simp only[List.lookup,hb,amx h]
   . have hb:(g==f)=false:=anu.mpr h
     simp only[List.lookup,hb,amq h]
 | (k,x)::r=>by
   have ih:=vG f g v r
   rw[show j9 f v ((k,x)::r)=(if k=f then(k,v)::r else(k,x)::j9 f v r) from rfl]
   by_cases hk:k=f
   . rw[amx hk]
     by_cases h:g=k
     . have hb:(g==k)=true:=aoY.mpr h
       simp only[List.lookup,hb,amx (h.trans hk)]
     . have hb:(g==k)=false:=anu.mpr h
       simp only[List.lookup,hb,amq (fun e:g=f=>h (e.trans hk.symm))]
   . rw[amq hk]
     by_cases h:g=k
     . have hb:(g==k)=true:=aoY.mpr h
       simp only[List.lookup,hb,amq (fun e:g=f=>hk (h.symm.trans e))]
     . have hb:(g==k)=false:=anu.mpr h
       simp only[List.lookup,hb]
       exact ih
theorem uD(f:Str)(v:V):∀fs:List (Str×V),f∈(j9 f v fs).map (·.1)/\∀g,g∈fs.map (·.1)->g∈(j9 f v fs).map (·.1)
 | []=>⟨by simp[j9],fun g h=>by simp at h⟩
 | (k,x)::r=>by
   obtain⟨i1,i2⟩:=uD f v r
   rw[show j9 f v ((k,x)::r)=(if k=f then(k,v)::r else(k,x)::j9 f v r) from rfl]
   by_cases hk:k=f
   . rw[amx hk]
     subst hk
     exact⟨by simp,fun g h=>by simpa using h⟩
   . rw[amq hk]
     refine⟨?_,fun g h=>?_⟩
     . rw[amB]
       exact ame _ i1
     . rw[amB]at h ⊢
       rcases ami.mp h with e|e
       . exact ami.mpr (.inl e)
       . exact ame _ (i2 g e)
theorem vH(f:Str)(v:V):∀fs:List (Str×V),(j9 f v fs).length<=fs.length+1
 | []=>by simp[j9]
 | (k,x)::r=>by
   have ih:=vH f v r
   rw[show j9 f v ((k,x)::r)=(if k=f then(k,v)::r else(k,x)::j9 f v r) from rfl]
   by_cases hk:k=f
   . rw[amx hk,am8,am8];omega
   . rw[amq hk,am8,am8];omega
theorem qP.some_of{v:V}{o:Option Value}(r:qP (some v) o):∃u,o=some u/\RelV v u:=by
 cases o with
 | none=>exact(show False from r).elim
 | some u=>exact⟨u,rfl,r⟩
theorem Kz{v:V}(r:RelV v u):PySem.W.handedIn u=true:=by
 cases v with
 | non=>cases (show u=Value.none from r);rfl
 | bl b=>cases (show u=Value.bool b from r);rfl
 | int i=>obtain⟨t,e⟩:=(show ∃t,u=Value.int i t from r);cases e;rfl
 | str x=>obtain⟨t,e⟩:=(show ∃t,u=Value.str x t from r);cases e;rfl
 | Kl b=>obtain⟨t,e⟩:=(show ∃t,u=Value.bytes b t from r);cases e;rfl
 | flt b=>obtain⟨t,e⟩:=(show ∃t,u=Value.float b t from r);cases e;rfl
 | ref a=>cases (show u=Value.ref a from r);rfl
 | ty n=>cases (show u=Value.type n from r);rfl
variable{a:Addr}{fs:List (Str×V)}
theorem Ip(cQ:qF P w H h)(e:H a=some (.ins C dx fs)):∃mA,Kx h a dx C mA/\(∀f,qP (fs.lookup f) (mA f))/\PySem.Within mA (fs.map (·.1))/\fs.length<=1000/\H dx=some (.own a):=by
 obtain⟨d,z,ne,ob,mA,n,r,q⟩:=(show dw P w H h a (.ins C dx fs) from cQ a _ e)
 exact⟨mA,⟨ob,n,ne⟩,r,q,z,d⟩
structure x6(K:PySem.W.Frag)(C:Addr):Prop where
 pg:PySem.W.plainGet K C Str.empty=true
 hd:PySem.W.hasDictIn K C=true
 po:PySem.W.plainOver K C=true
 sa:PySem.W.findIn K (.ref C) "__setattr__" = some (some (.builtin "object.__setattr__"))
theorem x6.get(c:x6 K C)(f:Str):PySem.W.plainGet K C f=true:=c.pg
def bz(K:PySem.W.Frag)(C:Addr)(f:Str):Prop:=PySem.W.findIn K (.ref C) f=some none
theorem bz.adJ{f:Str}(n:bz K C f):PySem.W.takerIn K C f=some none:=by
 unfold PySem.W.takerIn
 rw[show PySem.W.findIn K (.ref C) f=some none from n]
 rfl
variable{f:Str}{v:V}
theorem Fw{b:Bool}{Q:Value->Shared->Prop}(I:Inv X pins σ H s)(e:H a=some (.ins C dx fs))(c:x6 X.K C)(n:bz X.K C f)(l:fs.lookup f=some v)
   (h:∀u s',Inv X pins σ H s'->RelV v u->Q u s'):wpAny (model X.prog X.w) A (getAttr (.ref a) f b) Q E s:=by
 obtain⟨mA,O,r,_,_,_⟩:=Ip I.cQ e
 obtain⟨u,hu,ru⟩:=qP.some_of (v:=v) (o:=mA f) (by rw[← l];exact r f)
 exact get_map I.Aq O (c.get f) c.hd n hu (Kz ru) (h u _ (I.tok _) ru)
theorem Fx{y:V}(I:Inv X pins σ H s)(e:H a=some (.ins C dx fs))(c:x6 X.K C)(n:bz X.K C f)(hl:fs.length<1000)(ry:RelV y u)
   (h:∀s',Inv X pins σ (upd H a (.ins C dx (j9 f y fs))) s'->Q () s'):wpAny (model X.prog X.w) A (setAttr (.ref a) f u) Q E s:=by
 obtain⟨mA,O,r,wi,_,ho⟩:=Ip I.cQ e
 have hz:(fs.map (·.1)).length<=sizeLine:=by rw[al8,amE];omega
 refine Uj I.Aq O c.sa c.po n.adJ c.hd wi hz fun h' O' sb=>h _ ?_
 have hd:∃o,h'.get? dx=some o:=let ⟨o,_,_,e',_⟩:=O'.ns;⟨o,e'⟩
 refine I.write (x:=a) (e:=dx) (by rw[e];exact True.intro) (.inr ho) (fun b q hb z=>(sb.2 b hb).trans z) hd ?_
 refine⟨by rw[ao O.ne];exact ho,?_,O.ne,O'.obj,_,O'.ns,fun g=>?_,fun g hg=>?_⟩
 . have:=vH f y fs;omega
 . show qP ((j9 f y fs).lookup g) (if g=f then some u else mA g)
   rw[vG]
   by_cases q:g=f
   . rw[amx q,amx q];exact ry
   . rw[amq q,amq q];exact r g
 . by_cases q:g=f
   . rw[q];exact(uD f y fs).1
   . refine(uD f y fs).2 g (wi g fun z=>hg ?_)
     show(if g=f then some u else mA g)=none
     rw[amq q];exact z
theorem Inv.made(I:Inv X pins σ H s):Inv X pins σ (upd (upd H s.heap.objs.size (.own (s.heap.objs.size+1))) (s.heap.objs.size+1) (.ins C s.heap.objs.size []))
   {s with heap:=(s.heap.push PySem.W.emptyDict).push (PySem.W.instObj C s.heap.objs.size)}:=by
 have e1:(s.heap.push PySem.W.emptyDict).get? s.heap.objs.size=some PySem.W.emptyDict:=amD s.heap rfl
 have e2:((s.heap.push PySem.W.emptyDict).push (PySem.W.instObj C s.heap.objs.size)).get? (s.heap.objs.size+1)=some (PySem.W.instObj C s.heap.objs.size):=by
   have:=amD (s.heap.push PySem.W.emptyDict) (o:=PySem.W.instObj C s.heap.objs.size) rfl
   rwa [aoZ]at this
 have e3:(s.heap.push PySem.W.emptyDict).Ns s.heap.objs.size (fun _=>none):=⟨PySem.W.emptyDict,#[],_,e1,rfl,(fun e he=>absurd he (by simp)),fun _=>rfl⟩
 have I1:=I.laid (a:=s.heap.objs.size) (o:=.own (s.heap.objs.size+1)) (h':=s.heap.push PySem.W.emptyDict) (t':=s.toks) (fun b u q=>amo _ q) (aml _) ⟨_,e1⟩
 refine I1.laid (a:=s.heap.objs.size+1) (o:=.ins C s.heap.objs.size []) (t':=s.toks) (fun b u q=>amo _ q) (Nat.le_of_eq (aoZ _ _)) ?_
 have ne:s.heap.objs.size≠s.heap.objs.size+1:=amV (Nat.lt_succ_self _)
 refine⟨by rw[ao ne,az],amR _,ne,e2,fun _=>none,(Heap.Ns1.of_empty e3).at fun o q=>amo _ q,fun _=>True.intro,fun y hy=>absurd rfl hy⟩
theorem Uk{env:Env}{e:Expr}{Q:Value->Shared->Prop}(hb:attributeBase e f env (eval e env)=eval e env)
   (h:wpAny (model prog w) A (eval e env) (fun o s₁=>wpAny (model prog w) A (getAttr o f true) Q E s₁) E s):wpAny (model prog w) A (eval (.Attribute e f pos) env) Q E s:=
 Attribute_any_ h (by rw[arm_eval_Attribute,hb])
def agK(K:PySem.W.Frag)(ta:TE)(f:Str):TE:=fun σ H Q=>ta σ H fun x H1=>∃a C dx fs v,x=.ref a/\H1 a=some (.ins C dx fs)/\x6 K C/\bz K C f/\fs.lookup f=some v/\Q v H1
def agL(K:PySem.W.Frag)(ta tv:TE)(f:Str):TS:=fun D σ H=>tv σ H fun y H1=>ta σ H1 fun x H2=>∃a C dx fs,x=.ref a/\H2 a=some (.ins C dx fs)/\x6 K C/\bz K C f/\fs.length<1000 ∧
 D.nx σ (upd H2 a (.ins C dx (j9 f y fs)))
variable{o e value:Expr}{pos':Pos}{tv:TE}
theorem Fy(he:PE X e ta)(hb:attributeBase e f X.env (eval e X.env)=eval e X.env):PE X (.Attribute e f pos) (agK X.K ta f):=by
 intro pins s σ H Q I h
 refine Uk hb (dz (he pins s σ H _ I h) fun u s1 zz=>?_)
 obtain⟨x,H1,I1,rx,a,C,dx,fs,v,ex,ea,c,n,l,q⟩:=zz
 subst ex
 obtain rfl:u=Value.ref a:=rx
 exact Fw I1 ea c n l fun u' s2 I2 ru=>⟨v,H1,I2,ru,q⟩
theorem ZG(ha:PE X o ta)(hv:PE X value tv)(hs:swapsWith value (some (.Attribute o f pos')) pos.line X.env=pure false):PS X (.Assign [.Attribute o f pos'] value pos) (agL X.K ta tv f):=by
 intro pins s σ H D I h
 refine plainObj_wpAny_Assign_Attribute (dz (hv pins s σ H _ I h) fun u s1 ⟨y,H1,I1,ry,q⟩=>dz (ha pins s1 σ H1 _ I1 q) fun ov s2 zz=>?_) hs
 obtain⟨x,H2,I2,rx,a,C,dx,fs,ex,ea,c,n,l,q2⟩:=zz
 subst ex
 obtain rfl:ov=Value.ref a:=rx
 exact Fx I2 ea c n l ry fun s3 I3=>⟨σ,_,I3,q2⟩
structure dW(k:Nat)(A:Around):Prop where
 hd:A.handled=none
 dp:A.depth+3*k+5<recursionLimit
 un:A.units+16*k+200<cLine
theorem dW.mono{j:Nat}(r:dW k A)(h:j<=k):dW j A:=⟨r.hd,by have:=r.dp;omega,by have:=r.un;omega⟩
theorem dW.deeper(r:dW (k+1) A)(env:Env):dW k (A.deeper env):=
 ⟨r.hd,by have:=r.dp;show A.depth+1+3*k+5<_;omega,by have:=r.un;show A.units+3+16*k+200<_;omega⟩
theorem dW.in1(r:dW (k+1) A):dW k A.in1:=
 ⟨r.hd,by have:=r.dp;show A.depth+3*k+5<_;omega,by have:=r.un;show A.units+1+16*k+200<_;omega⟩
theorem Fz{kw:List (Str×Value)}:(A.under (.builtin "type.__call__" ⟨.ref C::us,kw⟩)).depth=A.depth+1:=by
 first|rfl|simp[Around.under,Code.weight,Code.isCreation,Code.isGuard,Code.isCaller,Code.frames,Code.isFrame,guardIds]
theorem FD{kw:List (Str×Value)}:(A.under (.builtin "type.__call__" ⟨.ref C::us,kw⟩)).units=A.units+1:=by
 first|rfl|simp[Around.under,Code.cUnits,Code.frames,Code.isFrame]
theorem dW.make(r:dW (k+1) A)(C:Addr)(us:List Value)(kw:List (Str×Value)):dW k (A.under (.builtin "type.__call__" ⟨.ref C::us,kw⟩)):=
 ⟨r.hd,by have:=r.dp;rw[Fz];omega,by have:=r.un;rw[FD];omega⟩
theorem dW.depth(r:dW k A):A.depth<recursionLimit:=by have:=r.dp;omega
theorem dW.units(r:dW k A):A.units+64<cLine:=by have:=r.un;omega
def adK:TA:=fun _ H Q=>Q [] H
def adL(ta:TE)(tr:TA):TA:=fun σ H Q=>ta σ H fun x H1=>tr σ H1 fun xs H2=>Q (x::xs) H2
variable{t:TA}
theorem dY:PA X [] adK:=fun _ _ _ _ H Q I h=>Calls.spliced_nil ⟨[],H,I,.nil,h⟩
theorem b8(ha:PE X e te)(hr:PA X es t)(hs:starEach (e::es) X.env=(false,eval e X.env)::starEach es X.env:=by rfl):PA X (e::es) (adL te t):=by
 intro pos pins s σ H Q I h
 rw[hs]
 show wpAny _ _ (spliced ((false,eval e X.env)::backTo pos (starEach es X.env))) _ _ s
 refine Calls.spliced_cons (dz (ha pins s σ H _ I h) fun u s1 zz=>?_)
 obtain⟨x,H1,I1,r1,q1⟩:=zz
 exact dz (hr pos pins s1 σ H1 _ I1 q1) fun us s2 ⟨xs,H2,I2,r2,q2⟩=>⟨x::xs,H2,I2,.cons r1 r2,q2⟩
def agM(t:TA):TE:=fun σ H Q=>t σ H fun xs H1=>xs.length<=sizeLine/\∀p,H1 p=none->Q (.ref p) (upd H1 p (.tup xs))
def agN(t:TA):TE:=fun σ H Q=>t σ H fun xs H1=>xs.length<=sizeLine/\∀p,H1 p=none->Q (.ref p) (upd H1 p (.lst xs))
theorem ZH{x1}(h:PA X es t):PE X (.Tuple es x1 pos) (agM t):=by
 intro pins s σ H Q I hq
 refine wpAny_Tuple_spliced (dz (h pos pins s σ H _ I hq) fun us s1 ⟨xs,H1,I1,r,z,q⟩=>⟨by rw[← r.length];exact z,?_⟩)
 have hf:H1 s1.heap.objs.size=none:=I1.cQ.fresh (aml _)
 refine⟨.ref s1.heap.objs.size,upd H1 s1.heap.objs.size (.tup xs),I1.laid (t':=s1.toks) (fun b u e=>amo _ e) (aml _) ?_,rfl,q _ hf⟩
 exact⟨z,us,r,⟨_,amD _ rfl,rfl,_,rfl⟩⟩
theorem ZI(h:PA X es t):PE X (.List es pos) (agN t):=by
 intro pins s σ H Q I hq
 refine wpAny_List_spliced (dz (h pos pins s σ H _ I hq) fun us s1 ⟨xs,H1,I1,r,z,q⟩=>⟨by rw[← r.length];exact z,?_⟩)
 have hf:H1 s1.heap.objs.size=none:=I1.cQ.fresh (aml _)
 refine⟨.ref s1.heap.objs.size,upd H1 s1.heap.objs.size (.lst xs),I1.laid (t':=s1.toks) (fun b u e=>amo _ e) (aml _) ?_,rfl,q _ hf⟩
 exact⟨z,us,0,r,amD _ rfl⟩
abbrev Sp:=List V->Hp->VK->XK->Prop
abbrev Tv:=List Env->Hp->Shared->XK->Value->Shared->Prop
structure sq(P:Program)(w:World)(K:PySem.W.Frag)(mg:Str->Option Value)(base:Heap)(A:Around)(outer:List Env)(s:Shared)(H:Hp):Prop where
 frames:A.frames=some outer
 mod:Mod K mg base
 bs:∀b o,base.get? b=some o->s.heap.get? b=some o/\H b=none
 Ni:base.objs.size<=s.heap.objs.size
 qQ:s.heap.FunFrames base outer
 T9:∀b∈Ao outer,H b=none
 cQ:qF P w H s.heap
 bare:AllBare s.gens
def CE(outer:List Env)(P:Program)(w:World)(H:Hp)(s:Shared)(Q:VK)(u:Value)(s':Shared):Prop:=
 ∃v H',s'.os=s.os/\AllBare s'.gens/\Un (Ao outer) [] H H' s.heap s'.heap/\qF P w H' s'.heap/\RelV v u/\Q v H'
def CR(CX:Tv)(outer:List Env)(P:Program)(w:World)(H:Hp)(s:Shared)(Q:VK)(E:XK)(r:Result)(s':Shared):Prop:=
 match r with
 | .ok (.ret u)=>CE outer P w H s Q u s'
 | .ok _=>False
 | .error e=>CX outer H s E e s'
structure g9(P:Program)(w:World)(K:PySem.W.Frag)(mg:Str->Option Value)(base:Heap)(CX:Tv)(k:Nat)(f:Addr)(fd:FuncData)(ps:List Str)(sp:Sp):Prop where
 len:∀vs H Q E,sp vs H Q E->vs.length=ps.length
 run:∀(A:Around) (outer:List Env) (s:Shared) (H:Hp) (args:Args) (us:List Value) (vs:List V) (Q:VK) (E:XK),dW k A->sq P w K mg base A outer s H->BindsTo s fd args (ps.zip us)->Vals vs us->sp vs H Q E →
   codeAny (model P w) A (.call (.ref f) args) (CR CX outer P w H s Q E) s
variable{mg:Str->Option Value}{base:Heap}{CX:Tv}{ps:List Str}
theorem g9.imp{f:Addr}{fd:FuncData}{sp sp':Sp}(F:g9 P w K mg base CX k f fd ps sp)
   (h:∀vs H Q E,sp' vs H Q E->sp vs H Q E):g9 P w K mg base CX k f fd ps sp':=
 ⟨fun vs H Q E q=>F.len vs H Q E (h _ _ _ _ q),fun A outer s H args us vs Q E hr he hb hv hs=>F.run A outer s H args us vs Q E hr he hb hv (h _ _ _ _ hs)⟩
theorem sq.make{outer:List Env}(e:sq P w K mg base A outer s H)(C:Addr)(us:List Value)(kw:List (Str×Value)) :
   sq P w K mg base (A.under (.builtin "type.__call__" ⟨.ref C::us,kw⟩)) outer s H:=⟨by first|exact e.frames|(simpa [Around.under,Code.envs,Code.isFrame,pushEnvs] using e.frames),e.mod,e.bs,e.Ni,e.qQ,e.T9,e.cQ,e.bare⟩
theorem sq.in1{outer:List Env}(e:sq P w K mg base A outer s H) :
   sq P w K mg base A.in1 outer s H:=⟨e.frames,e.mod,e.bs,e.Ni,e.qQ,e.T9,e.cQ,e.bare⟩
variable{s':Shared}
theorem Inv.Ul(I:Inv X pins σ H s):sq X.prog X.w X.K X.mg X.base X.A X.stack s H:=
 ⟨I.ok.frames,I.ok.mod,I.bs,am9 I.ok.Ni I.sz,I.stack,I.Ic,I.cQ,I.bare⟩
theorem Inv.after{Q:VK}(I:Inv X pins σ H s)(h:CE X.stack X.prog X.w H s Q u s'):EP X pins σ Q u s':=by
 obtain⟨v,H',os,bare,un,cQ,r,q⟩:=h
 obtain⟨hh,g,d,t,os'⟩:=s'
 obtain rfl:os'=s.os:=os
 exact⟨v,H',I.call (h':=hh) (g':=g) (d':=d) (t':=t) (ch:=[]) un cQ bare (fun b z=>absurd z (by simp)),r,q⟩
def X3(sp:Sp)(DT:List V)(E:XK)(t:TA):TE:=fun σ H Q=>t σ H fun vs H1=>sp (vs++DT) H1 Q E
def adM(C:Addr)(sp:Sp)(DT:List V)(E:XK)(t:TA):TE:=fun σ H Q=>t σ H fun vs H1=>∀x dx,H1 x=none->H1 dx=none->dx≠x →
 sp (.ref x::(vs++DT)) (upd (upd H1 dx (.own x)) x (.ins C dx [])) (fun v H2=>v=.non/\Q (.ref x) H2) E
def Binds(K:PySem.W.Frag)(fd:FuncData)(ps:List Str)(ds:List Value):Prop:=
 ∀(s:Shared) (us:List Value),K.In s.heap->(us++ds).length=ps.length->BindsTo s fd ⟨us,[]⟩ (ps.zip (us++ds))
theorem Binds.all{fd:FuncData}(h:∀us:List Value,us.length=ps.length->bindArgs fd ⟨us,[]⟩=pure (ps.zip us)):Binds K fd ps []:=fun s us _ hl=>by
 rw[amQ]at hl ⊢
 exact .of_eq (h us hl)
def Passes(CX:Tv)(X:Cx)(E:XK):Prop:=∀(pins:List (Addr×Obj)) (σ:St) (H:Hp) (s:Shared) (e:Value) (s':Shared),Inv X pins σ H s->CX X.stack H s E e s'->X.xe e s'
section
variable{f:Addr}{fd:FuncData}{sp:Sp}{DT:List V}{ds:List Value}{E:XK}{x:Str}{p:Pos}
theorem Nz{Q:VK}{vs:List V}(F:g9 X.prog X.w X.K X.mg X.base CX k f fd ps sp)(hr:dW k X.A)(hb:Binds X.K fd ps ds)(hd:Vals DT ds)(hx:Passes CX X E)
   (I:Inv X pins σ H s) (r:Vals vs us) (h:sp (vs++DT) H Q E):wpAny (model X.prog X.w) X.A (call (.ref f) us) (EP X pins σ Q) X.xe s:=by
 have r2:Vals (vs++DT) (us++ds):=r.append hd
 have hl:(us++ds).length=ps.length:=by rw[← r2.length];exact F.len _ _ _ _ h
 refine wpAny_call (aoS (F.run X.A X.stack s H ⟨us,[]⟩ (us++ds) (vs++DT) Q E hr I.Ul (hb s us I.Aq hl) r2 h) fun r s' hq=>?_)
 cases r with
 | error e=>exact hx pins σ H s e s' I hq
 | ok fl=>
   cases fl with
   | ret u=>exact I.after hq
   | next=>exact False.elim hq
   | brk=>exact False.elim hq
   | cont=>exact False.elim hq
theorem Um(F:g9 X.prog X.w X.K X.mg X.base CX k f fd ps sp)(hr:dW k X.A)(hg:Gl X x)(hm:X.mg x=some (.ref f))(hk:PySem.W.keepIn X.K (.ref f)=true)(hb:Binds X.K fd ps ds)(hd:Vals DT ds)(hx:Passes CX X E)
   (ha:PA X (e::es) t) (wc:(x==("__debug__":Str))=false:=by decide) (he:starEach (e::es) X.env=(false,eval e X.env)::starEach es X.env:=by rfl) (hpl:(backTo pos (starEach es X.env)).any (·.1)=false:=by rfl) :
   PE X (.Call (.Name x p) (e::es) [] pos) (X3 sp DT E t):=by
 intro pins s σ H Q I h
 refine anK (r6 I hg hm ?_ wc)
 refine PySem.W.callWith_K (h₀:=X.base) I.ok.mod.kin hk (dz (ha pos pins s σ H _ I h) fun us s1 ⟨vs,H1,I1,r,q⟩=>⟨I1.Aq,?_⟩) he hpl
 exact Nz F hr hb hd hx I1 r q
theorem NB(F:g9 X.prog X.w X.K X.mg X.base CX k f fd ps sp)(hr:dW k X.A)(hg:Gl X x)(hm:X.mg x=some (.ref f))(hk:PySem.W.keepIn X.K (.ref f)=true)(hb:Binds X.K fd ps ds)(hd:Vals DT ds)(hx:Passes CX X E)
   (wc:(x==("__debug__":Str))=false:=by decide):PE X (.Call (.Name x p) [] [] pos) (X3 sp DT E adK):=by
 intro pins s σ H Q I h
 refine anK (r6 I hg hm ?_ wc)
 exact PySem.W.callWith_K0 I.Aq hk (Nz (us:=[]) F hr hb hd hx I .nil h)
structure Mk(K:PySem.W.Frag)(C f:Addr):Prop where
 makes:PySem.W.makesIn K C=true
 init:PySem.W.findIn K (.ref C) "__init__" = some (some (.ref f))
 fn:PySem.W.isFn K (.ref f)=true
 kp:PySem.W.keepIn K (.ref C)=true
theorem NC{Q:VK}{vs:List V}(M:Mk X.K C f)(F:g9 X.prog X.w X.K X.mg X.base CX k f fd ps sp)(hr:dW (k+1) X.A)(hb:Binds X.K fd ps ds)(hd:Vals DT ds)
   (hx:Passes CX X E) (I:Inv X pins σ H s) (r:Vals vs us)
   (h:∀x dx,H x=none->H dx=none->dx≠x->sp (.ref x::(vs++DT)) (upd (upd H dx (.own x)) x (.ins C dx [])) (fun v H2=>v=.non/\Q (.ref x) H2) E) :
   wpAny (model X.prog X.w) X.A (call (.ref C) us) (EP X pins σ Q) X.xe s:=by
 have hq:=h (s.heap.objs.size+1) s.heap.objs.size (I.cQ.fresh (aoJ _)) (I.cQ.fresh (aml _)) (amV (Nat.lt_succ_self _))
 have I2:=Inv.made (C:=C) I
 have r2:Vals (V.ref (s.heap.objs.size+1)::(vs++DT)) (Value.ref (s.heap.objs.size+1)::(us++ds)):=.cons rfl (r.append hd)
 have hl:(Value.ref (s.heap.objs.size+1)::us++ds).length=ps.length:=by
   have e:=r2.length
   rw[F.len _ _ _ _ hq]at e
   exact e.symm
 refine wpAny_call (Ny (f:=f) I.Aq M.makes M.init (aoY.mp M.fn) (aoS (F.run _ X.stack _ _ ⟨Value.ref (s.heap.objs.size+1)::us,[]⟩ (Value.ref (s.heap.objs.size+1)::(us++ds)) _ _ E (hr.make C us [])
   (I2.Ul.make C us []) (hb _ (Value.ref (s.heap.objs.size+1)::us) I2.Aq hl) r2 hq) fun r s' hq'=>?_))
 cases r with
 | error e=>exact hx pins σ _ _ e s' I2 hq'
 | ok fl=>
   cases fl with
   | ret u=>
     obtain⟨v,H',I3,rv,ev,q3⟩:=I2.after hq'
     subst ev
     exact⟨rv,⟨V.ref (s.heap.objs.size+1),H',I3,rfl,q3⟩⟩
   | next=>exact False.elim hq'
   | brk=>exact False.elim hq'
   | cont=>exact False.elim hq'
theorem Uo(M:Mk X.K C f)(F:g9 X.prog X.w X.K X.mg X.base CX k f fd ps sp)(hr:dW (k+1) X.A)(hg:Gl X x)(hm:X.mg x=some (.ref C))(hb:Binds X.K fd ps ds)(hd:Vals DT ds)(hx:Passes CX X E)
   (ha:PA X (e::es) t) (wc:(x==("__debug__":Str))=false:=by decide) (he:starEach (e::es) X.env=(false,eval e X.env)::starEach es X.env:=by rfl) (hpl:(backTo pos (starEach es X.env)).any (·.1)=false:=by rfl) :
   PE X (.Call (.Name x p) (e::es) [] pos) (adM C sp DT E t):=by
 intro pins s σ H Q I h
 refine anK (r6 I hg hm ?_ wc)
 refine PySem.W.callWith_K (h₀:=X.base) I.ok.mod.kin M.kp (dz (ha pos pins s σ H _ I h) fun us s1 ⟨vs,H1,I1,r,q⟩=>⟨I1.Aq,?_⟩) he hpl
 exact NC M F hr hb hd hx I1 r q
end
structure aP(N P:List Str)(sc:Scope):Prop where
 kind:sc.kind=.function
 co:sc.isCoroutine=false
 gen:sc.isGenerator=false
 nd:N.Nodup
 pre:N.take P.length=P
 par:∀x∈P,sc.names.lookup x=some .local\/sc.names.lookup x=some .cell
 ZJ:∀y∈sc.names,y.2 ≠ .free
theorem As{kindOf:Str->Option NameKind}{x:Str}:∀{binds:List (Str×Value)} {m:Str->Option Value},(∀v,(x,v)∉binds)->bindL kindOf binds m x=m x
 | [],_,_=>rfl
 | (n,v)::r,m,h=>by
   unfold bindL
   rw[As fun w hw=>h w (ame _ hw)]
   split
   . have:x≠n:=by rintro rfl;exact h v ama
     simp[this]
   . rfl
theorem Au{kindOf:Str->Option NameKind}{x:Str}:∀{binds:List (Str×Value)} {m:Str->Option Value},(∀v,(x,v)∉binds)->bindC kindOf binds m x=m x
 | [],_,_=>rfl
 | (n,v)::r,m,h=>by
   unfold bindC
   rw[Au fun w hw=>h w (ame _ hw)]
   split
   . rfl
   . have:x≠n:=by rintro rfl;exact h v ama
     simp[this]
theorem Av{kindOf:Str->Option NameKind}{x:Str}{v:Value}:∀{P:List Str} {vs:List Value} {i:Nat} {m:Str->Option Value},P.Nodup->P[i]? = some x->vs[i]? = some v->kindOf x=some .local →
   bindL kindOf (P.zip vs) m x=some v
 | [],_,_,_,_,h,_,_=>by simp at h
 | _::_,[],_,_,_,_,h,_=>by simp at h
 | p::P,w::vs,0,m,nd,h1,h2,hk=>by
   simp at h1 h2;subst h1;subst h2
   show bindL kindOf ((p,w)::P.zip vs) m p=_
   unfold bindL
   rw[As fun v hv=>(ana.mp nd).1 (List.of_mem_zip hv).1,amx hk]
   simp
 | p::P,w::vs,i+1,m,nd,h1,h2,hk=>by
   show bindL kindOf ((p,w)::P.zip vs) m x=_
   unfold bindL
   exact Av (i:=i) (List.nodup_cons.mp nd).2 (by simpa using h1) (by simpa using h2) hk
theorem Aw{kindOf:Str->Option NameKind}{x:Str}{v:Value}:∀{P:List Str} {vs:List Value} {i:Nat} {m:Str->Option Value},P.Nodup->P[i]? = some x->vs[i]? = some v->kindOf x≠some .local →
   bindC kindOf (P.zip vs) m x=some v
 | [],_,_,_,_,h,_,_=>by simp at h
 | _::_,[],_,_,_,_,h,_=>by simp at h
 | p::P,w::vs,0,m,nd,h1,h2,hk=>by
   simp at h1 h2;subst h1;subst h2
   show bindC kindOf ((p,w)::P.zip vs) m p=_
   unfold bindC
   rw[Au fun v hv=>(ana.mp nd).1 (List.of_mem_zip hv).1,amq hk]
   simp
 | p::P,w::vs,i+1,m,nd,h1,h2,hk=>by
   show bindC kindOf ((p,w)::P.zip vs) m x=_
   unfold bindC
   exact Aw (i:=i) (List.nodup_cons.mp nd).2 (by simpa using h1) (by simpa using h2) hk
def start(N:List Str)(vs:List V):St:=vs.map some++List.replicate (N.length-vs.length) none
def n9(CX:Tv)(P:Program)(w:World)(K:PySem.W.Frag)(mg:Str->Option Value)(base:Heap)(N:List Str)(qual:Str)(scope:Scope)(f:Addr)(cd:Value)(A:Around)(outer:List Env)(s:Shared)(H:Hp)(E:XK):Cx where
 prog:=P
 w:=w
 K:=K
 mg:=mg
 base:=base
 A:=A.deeper (envOfC qual scope s.heap.objs.size f cd)
 N:=N
 s₀:=s
 H₀:=H
 env:=envOfC qual scope s.heap.objs.size f cd
 outer:=outer
 stack:=envOfC qual scope s.heap.objs.size f cd::outer
 ex:=[]
 calm:=true
 fn:=fun _=>true
 pn:=[]
 xe:=fun e s'=>wpAny (model P w) (A.deeper (envOfC qual scope s.heap.objs.size f cd)) (leaving (envOfC qual scope s.heap.objs.size f cd) e) (fun _ s''=>CX outer H s E e s'') (fun e' s''=>CX outer H s E e' s'') s'
theorem DU{sc:Scope}{n:Nat}{x:Str}(h:sc.names.lookup x=some .cell):∃c,(cellsFrom n sc.names []).lookup x=some c:=by
 have q:=PySem.W.cellsFrom_some sc.names n [] (.inl h)
 exact Option.isSome_iff_exists.mp q
theorem Ax{N:List Str}{qual:Str}{scope:Scope}{f:Addr}{cd:Value}{outer:List Env}{s1:Shared}{E:XK}{vs:List V}
   (S:aP N ps scope) (hd:A.handled=none) (e0:sq P w K mg base A outer s H) (hl:vs.length=ps.length) (r:Vals vs us)
   (x:InCallC s s.heap.objs.size (bindL (envOfC qual scope s.heap.objs.size f cd).kindOf (ps.zip us) fun _=>none) (cellsFrom (s.heap.objs.size+1) scope.names []) (bindC (envOfC qual scope s.heap.objs.size f cd).kindOf (ps.zip us) fun _=>none) s1) :
   Inv (n9 CX P w K mg base N qual scope f cd A outer s H E) [] (start N vs) H s1:=by
 have hpl:ps.length<=N.length:=by have:=congrArg List.length S.pre;rw[amY]at this;omega
 obtain⟨h1,tk,rfl,hk⟩:=x.done
 have noA:∀b:Addr,b∉(n9 CX P w K mg base N qual scope f cd A outer s H E).ex:=fun b z=>absurd (show b∈([]:List Addr) from z) (by simp)
 refine⟨⟨e0.mod,S.kind,rfl,rfl,aml _,fun y z c h1 h2=>?_,fun y hy=>?_,fun y c _ h=>?_,fun _=>hd,Around.frames_deeper e0.frames,.inr ⟨rfl,rfl⟩,fun b z=>absurd z (noA b),e0.bs,e0.Ni,fun b _ _=>noA b,fun b z=>absurd z (noA b),e0.qQ,e0.T9⟩,
   rfl,e0.bare,Un.kept hk,⟨_,x.toInCall.ns,fun i y v h1 h2 h3=>?_⟩,fun y c h=>⟨_,x.cell y c h⟩,e0.cQ.fresh (aml _),fun y c h=>?_,fun p hp=>absurd (show p∈([]:List (Addr×Obj)) from hp) (by simp),e0.cQ.kept hk,?_⟩
 . exact name_of_addr x.apart (anw h1) (anw h2)
 . have hy:scope.names.lookup y=some .cell\/scope.names.lookup y=some .free:=hy
   rcases hy with hy|hy
   . exact DU hy
   . exact absurd rfl (S.ZJ _ (anw hy))
 . exact anW (x.above y c (anw h))
 . have hi:i<vs.length:=by
     unfold start at h2
     by_cases hi:i<vs.length
     . exact hi
     . rw[List.getElem?_append_right (by simpa using hi)]at h2
       rw[List.getElem?_replicate]at h2
       split at h2<;>cases h2
   have ha:vs[i]? = some v:=by
     unfold start at h2
     rw[List.getElem?_append_left (by simpa using hi),List.getElem?_map]at h2
     cases e:vs[i]? with
     | none=>rw[e]at h2;cases h2
     | some a=>rw[e]at h2;cases h2;rfl
   obtain⟨u,hu,rv⟩:=r.get ha
   have hp:ps[i]? = some y:=by
     rw[← S.pre,List.getElem?_take_of_lt (by omega)];exact h1
   have ndP:ps.Nodup:=by rw[← S.pre];exact S.nd.sublist (List.take_sublist _ _)
   refine⟨u,rv,?_⟩
   rcases S.par y (amt hp) with k|k
   . exact .inl ⟨k,Av ndP hp hu k⟩
   . obtain⟨c,e⟩:=DU (n:=s.heap.objs.size+1) k
     refine .inr ⟨.inl k,c,e,?_⟩
     have q:=x.cell y c e
     rw[Aw ndP hp hu (by show scope.names.lookup y≠_;rw[k];decide)]at q
     exact q
 . exact e0.cQ.fresh (anW (x.above y c (anw h)))
 . unfold start
   show _=N.length
   rw[amn,al8,anJ]
   omega
theorem X4{f:Addr}{qual:Str}{params:Arguments}{body:List Stmt}{scope:Scope}{dV kV doc pm gB ct oc:Value}{an od:Option Addr}
   {KC:Array (Option Value)} {N:List Str} {sp:Sp} (lk:K.lookup f=some ⟨oc,od,.func (PySem.W.fnOf name qual params body scope dV kV doc pm an gB ct),KC⟩) (iO:PySem.W.codeIn K gB qual=true) (S:aP N ps scope)
   (len:∀vs H Q E,sp vs H Q E->vs.length=ps.length)
   (DV:∀(A:Around) (outer:List Env) (s:Shared) (H:Hp) (vs:List V) (Q:VK) (E:XK),dW k (A.deeper (envOfC qual scope s.heap.objs.size f gB))->sp vs H Q E →
     ∃t,E6 (n9 CX P w K mg base N qual scope f gB A outer s H E) body t/\t {nx:=fun _ H'=>Q .non H',rt:=Q} (start N vs) H) :
   g9 P w K mg base CX (k+1) f (PySem.W.fnOf name qual params body scope dV kV doc pm an gB ct) ps sp:=by
 refine⟨len,fun A outer s H args us vs Q E hr e0 hb r E9=>?_⟩
 have hl:=len _ _ _ _ E9
 have KX:K.In s.heap:=e0.mod.kin.keeps fun b o e=>(e0.bs b o e).1
 have lim:s.heap.NoLimit:=e0.mod.nolimit.keeps fun b o e=>(e0.bs b o e).1
 have sr:∀y∈ps.zip us,scope.names.lookup y.1=some .local\/(scope.names.lookup y.1=some .cell/\((cellsFrom (s.heap.objs.size+1) scope.names []).lookup y.1).isSome=true):=fun⟨n,v⟩ hy=>by
   rcases S.par n (List.of_mem_zip hy).1 with q|q
   . exact .inl q
   . exact .inr ⟨q,PySem.W.cellsFrom_some _ _ _ (.inl q)⟩
 refine codeAny_call_function hr.depth (KX _ _ lk) rfl S.co S.gen rfl (PySem.W.codeRec_of KX iO) (hb _ _ _ _ ?_)
 refine wpAny_newFunctionEnv_cells S.kind sr fun env he s1 x=>?_
 subst he
 refine⟨lim.keeps x.toInCall.keep,codeAny_func ?_⟩
 obtain⟨t,ht,hq⟩:=DV A outer s H vs Q E (hr.deeper _) E9
 have I:Inv (n9 CX P w K mg base N qual scope f gB A outer s H E) [] (start N vs) H s1:=Ax S hr.hd e0 hl r x
 refine anC (ht [] s1 (start N vs) H _ I hq) (fun fl s' hs=>?_) fun e s' hs=>hs
 have fin:∀{σ':St} {H':Hp} {v:V} {u:Value},Inv (n9 CX P w K mg base N qual scope f gB A outer s H E) [] σ' H' s'->RelV v u->Q v H'->CE outer P w H s Q u s':=
   fun {σ' H' v u} J rv q=>⟨v,H',J.os,J.bare,J.base,J.cQ,rv,q⟩
 cases fl with
 | ret u=>
   obtain⟨v,σ',H',J,rv,q⟩:=hs
   exact fin J rv q
 | next=>
   obtain⟨σ',H',J,q⟩:=hs
   exact fin (v:=V.non) (u:=Value.none) J rfl q
 | brk=>
   obtain⟨_,_,_,q⟩:=hs
   exact False.elim q
 | cont=>
   obtain⟨_,_,_,q⟩:=hs
   exact False.elim q
section
variable{x:Str}{p:Pos}{id T:String}{r:List V->Hp->VK->Prop}
def tCB(r:List V->Hp->VK->Prop)(t:TA):TE:=fun σ H Q=>t σ H fun vs H1=>r vs H1 Q
theorem ji(hc:j8 X (.builtin id) r)(hg:Gl X x)(hm:X.mg x=none)(hv:bootBuiltins x=some (.builtin id))(ha:PA X (e::es) t)(hn:x≠"__name__":=by decide)(wc:(x==("__debug__":Str))=false:=by decide)
   (he:starEach (e::es) X.env=(false,eval e X.env)::starEach es X.env:=by rfl) (hpl:(backTo pos (starEach es X.env)).any (·.1)=false:=by rfl):PE X (.Call (.Name x p) (e::es) [] pos) (tCB r t):=by
 intro pins s σ H Q I h
 refine anK (qR I hg hm hv ?_ hn wc)
 exact PyProof.Rows.callWith_builtin1 (dz (ha pos pins s σ H _ I h) fun us s1 ⟨vs,H1,I1,r1,q1⟩=>hc pins s1 σ H1 vs us Q I1 r1 q1) he hpl
theorem iP(hc:j8 X (.type T) r)(hg:Gl X x)(hm:X.mg x=none)(hv:bootBuiltins x=some (.type T))(ha:PA X (e::es) t)(hn:x≠"__name__":=by decide)(wc:(x==("__debug__":Str))=false:=by decide)
   (he:starEach (e::es) X.env=(false,eval e X.env)::starEach es X.env:=by rfl) (hpl:(backTo pos (starEach es X.env)).any (·.1)=false:=by rfl):PE X (.Call (.Name x p) (e::es) [] pos) (tCB r t):=by
 intro pins s σ H Q I h
 refine anK (qR I hg hm hv ?_ hn wc)
 exact anV (dz (ha pos pins s σ H _ I h) fun us s1 ⟨vs,H1,I1,r1,q1⟩=>hc pins s1 σ H1 vs us Q I1 r1 q1) he hpl
end
end L2
namespace HT
open PySem PyProof.Rows
variable{prog:Program}{w:World}{A:Around}{E:Value->Shared->Prop}{s:Shared}
theorem Up{t b:Addr}{vs ws:List Value}{Q:Value->Shared->Prop}(ht:IsTup s.heap t vs.toArray)(hb:IsTup s.heap b ws.toArray)(hv:vs≠[])
   (h1:ws=[]->Q (.ref t) s) (h2:ws≠[]->Q (.ref s.heap.objs.size) {s with heap:=s.heap.push {cls:=.type "tuple",data:=.seq (vs++ws).toArray}})
   (hsz:vs.length+ws.length<=sizeLine):wpAny (model prog w) A (binaryOp .Add (.ref t) (.ref b)) Q E s:=by
 obtain⟨⟨cls,dd,data,sl⟩,ho,hc,n,hd⟩:=id ht
 obtain⟨⟨agP,X5,data2,sl2⟩,M0,FE,n2,hd2⟩:=id hb
 simp only at hc hd FE hd2
 subst hc hd FE hd2
 have e:vs.toArray++ws.toArray=(vs++ws).toArray:=by simp
 by_cases hw:ws=[]
 . exact concat_meets ⟨_,ho,rfl⟩ ⟨_,M0,rfl⟩ noFill_tuple_add seq_tuple_add PySem.F.slot_tuple_add PySem.F.entry_tuple_add (PySem.F.args_tuple_add_2 _ _)
     (tuple_addW1 t b vs.toArray ws.toArray n n2 dd X5 sl sl2 (by simpa using hv) (by simp[hw])) ⟨ho,M0,h1 hw⟩
 . refine concat_meets ⟨_,ho,rfl⟩ ⟨_,M0,rfl⟩ noFill_tuple_add seq_tuple_add PySem.F.slot_tuple_add PySem.F.entry_tuple_add (PySem.F.args_tuple_add_2 _ _)
     (tuple_addW2 t b vs.toArray ws.toArray n n2 dd X5 sl sl2 (by simpa using hv) (by simpa using hw) (by rw[List.size_toArray,List.size_toArray];exact hsz)) ⟨ho,M0,?_⟩
   rw[e]
   exact h2 hw
def f7(n d:Nat):Option Int->Nat
 | none=>d
 | some v=>if v<0 then(v+(n:Int)).toNat else min v.toNat n
theorem ZK(n d:Nat)(hd:d<=n)(o:Option Int):f7 n d o<=n:=by
 cases o with
 | none=>exact hd
 | some v=>
   show(if v<0 then(v+(n:Int)).toNat else min v.toNat n)<=n
   by_cases hv:v<0
   . rw[if_pos hv];omega
   . rw[if_neg hv];exact Nat.min_le_right _ _
theorem Iq(v:Int)(n d:Nat):(if v<0 then max (v+(n:Int)) 0 else min v (n:Int))=((f7 n d (some v):Nat):Int):=by
 show(if v<0 then max (v+(n:Int)) 0 else min v (n:Int))=(((if v<0 then(v+(n:Int)).toNat else min v.toNat n):Nat):Int)
 by_cases hv:v<0
 . simp only[if_pos hv];omega
 . simp only[if_neg hv];omega
theorem FG(lo hi:Option Int)(n:Nat):Builtin.Slice.sliceAdjust lo hi 1 (n:Int)=(((f7 n 0 lo:Nat):Int),((f7 n n hi:Nat):Int)):=by
 have h1:¬ ((1:Int)<0):=by omega
 unfold Builtin.Slice.sliceAdjust
 simp only[h1,if_false]
 refine Prod.ext ?_ ?_
 . cases lo with
   | none=>rfl
   | some v=>exact Iq v n 0
 . cases hi with
   | none=>rfl
   | some v=>exact Iq v n n
theorem FH(i j:Nat):Builtin.Slice.slicePlaces (i:Int) (j:Int) 1=j-i:=by
 unfold Builtin.Slice.slicePlaces
 have h1:(1:Int) > 0:=by omega
 simp only[h1,if_true,Int.ediv_one]
 split<;>omega
theorem x8{v:Value}{o:Option Int}{Q:Option Int->Shared->Prop}(p:IsPart v o)(h:Q o s):wpAny (model prog w) A (Builtin.Slice.slicePartIndex v) Q E s:=by
 cases p with
 | none=>exact slicePart_none h
 | int i t=>exact slicePart_int h
theorem lO{sl:Addr}{vl vu:Value}{lo hi:Option Int}{n:Nat}{Q:Int×Int×Nat->Shared->Prop}(hs:s.heap.IsSliceOf sl vl vu .none)(pl:IsPart vl lo)(pu:IsPart vu hi)
   (h:Q (((f7 n 0 lo:Nat):Int),1,f7 n n hi-f7 n 0 lo) s):wpAny (model prog w) A (Builtin.Slice.sliceApplied (.ref sl) (pure (n:Int))) Q E s:=by
 obtain⟨os,Uq,hcs,hds⟩:=id hs
 unfold Builtin.Slice.sliceApplied Builtin.Slice.sliceFields
 refine wpAny_bind (wpAny_bind (wpAny_field Uq hds (x:=vl) rfl (wpAny_bind (wpAny_field Uq hds (x:=vu) rfl (wpAny_bind (wpAny_field Uq hds (x:=.none) rfl (wpAny_pure ?_)))))))
 refine wpAny_bind (slicePart_none ?_)
 show wpAny _ _ (if ((1:Int)==0)=true then _ else _) _ _ s
 rw[if_neg (by decide)]
 refine wpAny_bind (x8 pl (wpAny_bind (x8 pu (wpAny_bind (wpAny_pure ?_)))))
 show wpAny _ _ (match Builtin.Slice.sliceAdjust lo hi 1 (n:Int) with|(lo,hi)=>pure (lo,(1:Int),Builtin.Slice.slicePlaces lo hi 1)) _ _ s
 rw[FG lo hi n]
 show wpAny _ _ (pure (((f7 n 0 lo:Nat):Int),(1:Int),Builtin.Slice.slicePlaces ((f7 n 0 lo:Nat):Int) ((f7 n n hi:Nat):Int) 1)) _ _ s
 rw[FH]
 exact wpAny_pure h
theorem NF(xs:Array Value)(i k:Nat):((List.range k).filterMap fun(m:Nat)=>xs[((i:Int)+(m:Int)*1).toNat]?).toArray=((xs.toList.drop i).take k).toArray:=by
 have e:(fun(m:Nat)=>xs[((i:Int)+(m:Int)*1).toNat]?)=fun m=>xs[i+m]?:=by
   funext m
   have:((i:Int)+(m:Int)*1).toNat=i+m:=by omega
   rw[this]
 rw[e]
 have:=pick_run xs i k
 rw[List.filterMap_map]at this
 have e2:((fun x=>xs[x]?)∘fun x=>i+x)=fun m=>xs[i+m]?:=rfl
 rw[e2]at this
 rw[this]
theorem su{t sl:Addr}{items:Array Value}{vl vu:Value}{lo hi:Option Int}{Q:Value->Shared->Prop}(ht:IsTup s.heap t items)(hs:s.heap.IsSliceOf sl vl vu .none)(pl:IsPart vl lo)(pu:IsPart vu hi)
   (hw:¬ (f7 items.size 0 lo=0/\f7 items.size items.size hi=items.size))
   (h:Q (.ref s.heap.objs.size) {s with heap:=s.heap.push {cls:=.type "tuple",data:=.seq ((items.toList.drop (f7 items.size 0 lo)).take (f7 items.size items.size hi-f7 items.size 0 lo)).toArray}})
   (hsz:items.size<=sizeLine):wpAny (model prog w) A (getItem (.ref t) (.ref sl)) Q E s:=by
 have Ir:sizeOk (.seq ((items.toList.drop (f7 items.size 0 lo)).take (f7 items.size items.size hi-f7 items.size 0 lo)).toArray):=by
   show((items.toList.drop (f7 items.size 0 lo)).take (f7 items.size items.size hi-f7 items.size 0 lo)).toArray.size<=sizeLine
   rw[List.size_toArray,List.length_take,List.length_drop,Array.length_toList]
   omega
 have hj:f7 items.size items.size hi<=items.size:=ZK _ _ (Nat.le_refl _) hi
 obtain⟨os,Uq,hcs,hds⟩:=id hs
 have hTs:s.TypeIs (.ref sl) "slice":=⟨os,Uq,hcs⟩
 unfold getItem
 try with_reducible refine wpAny_holding ?_
 first|refine wpAny_bind (wpAny_pure ?_)|skip
 refine wpAny_bind (wpAny_sequenceKey ht.typeIs (by decide) ?_)
 refine wpAny_bind (wpAny_callSpecial?_slot (name:=Str.ofString "__getitem__") ht.typeIs PyProof.Rows.slot_tuple_getitem
   (wpAny_call_entry PyProof.Rows.slot_tuple_getitem ht.typeIs entry_tuple_getitem ?_ (args_tuple_getitem _ _)))
 show wpAny _ _ (Builtin.Tuple.tupleItemsOf (.ref t) >>= _) _ _ s
 refine wpAny_bind (tupleItemsOf_ ht ?_)
 refine wpAny_bind (wpAny_typeOf hTs ?_)
 rw[if_pos (by decide)]
 refine wpAny_bind (lO hs pl pu ?_)
 have sy:¬ ((((f7 items.size 0 lo:Nat):Int)==0&&(1:Int)==1&&(f7 items.size items.size hi-f7 items.size 0 lo)==items.size)=true):=by
   intro q
   rw[Bool.and_eq_true,Bool.and_eq_true]at q
   have q1:((f7 items.size 0 lo:Nat):Int)=0:=eq_of_beq q.1.1
   have q2:f7 items.size items.size hi-f7 items.size 0 lo=items.size:=eq_of_beq q.2
   exact hw ⟨by omega,by omega⟩
 show wpAny _ _ (if (((f7 items.size 0 lo:Nat):Int)==0&&(1:Int)==1&&(f7 items.size items.size hi-f7 items.size 0 lo)==items.size)=true then _ else _) _ _ s
 rw[if_neg sy,NF]
 first
   | exact wpAny_bind (m:=Builtin.Tuple.tupleExact _) (wpAny_newObj_type (wpAny_pure ⟨_,rfl,wpAny_pure h⟩) Ir)
   | exact wpAny_bind (m:=Builtin.Tuple.tupleExact _) (wpAny_newObj_type (wpAny_bind (wpAny_pure (wpAny_pure ⟨_,rfl,wpAny_pure h⟩))) Ir)
   | exact wpAny_bind (wpAny_bind (m:=Builtin.Tuple.tupleExact _) (wpAny_newObj_type (wpAny_pure (wpAny_pure ⟨_,rfl,wpAny_pure h⟩)) Ir))
   | exact wpAny_bind (wpAny_bind (m:=Builtin.Tuple.tupleExact _) (wpAny_newObj_type (wpAny_pure ⟨_,rfl,wpAny_pure h⟩) Ir))
end HT
namespace L2
open PySem PySem.Spec PyProof.Rows
abbrev TO:=St->Hp->(Option Int->Hp->Prop)->Prop
def PO(X:Cx)(e:Option Expr)(t:TO):Prop:=
 ∀(pins:List (Addr×Obj)) (s:Shared) (σ:St) (H:Hp) (Q:Option Int->Hp->Prop),Inv X pins σ H s->t σ H Q →
   wpAny (model X.prog X.w) X.A (evalPart e X.env) (fun u s'=>∃o H',Inv X pins σ H' s'/\IsPart u o/\Q o H') X.xe s
def Ur:TO:=fun _ H Q=>Q none H
def adP(t:TE):TO:=fun σ H Q=>t σ H fun x H1=>∃i,x=.int i/\Q (some i) H1
theorem intsAre_of{ns:List Int}:∀{us:List Value},Vals (ns.map V.int) us->IntsAre us ns:=by
 induction ns with
 | nil=>intro us r;rw[anL]at r;cases r;exact .nil
 | cons n ns ih=>
   intro us r
   rw[amB]at r
   cases r with
   | cons r1 r2=>
     obtain⟨t,e⟩:=r1
     subst e
     exact .cons n t (ih r2)
variable{X:Cx}{e:Expr}{te:TE}{lo hi:Option Expr}{tl th:TO}{pos p2:Pos}
theorem Us:PO X none Ur:=by
 intro pins s σ H Q I h
 rw[evalPart_none]
 exact amd ⟨none,H,I,.none,h⟩
theorem Ut(h:PE X e te):PO X (some e) (adP te):=by
 intro pins s σ H Q I hw
 rw[evalPart_some]
 refine dz (h pins s σ H _ I hw) fun u s1 zz=>?_
 obtain⟨x,H1,I1,r1,q1⟩:=zz
 obtain⟨i,rfl,q⟩:=q1
 obtain⟨t,rfl⟩:=r1
 exact⟨some i,H1,I1,.int i t,q⟩
def SlR(X:Cx)(r:V->Option Int->Option Int->Hp->VK->Prop):Prop:=
 ∀(pins:List (Addr×Obj)) (s:Shared) (σ:St) (H:Hp) (x:V) (v vl vu:Value) (lo hi:Option Int) (sl:Addr) (Q:VK),Inv X pins σ H s->RelV x v->s.heap.IsSliceOf sl vl vu .none->IsPart vl lo->IsPart vu hi->r x lo hi H Q →
   ∃T id,typeLookup (.type T) "__getitem__" = pure (some (.builtin id))/\s.TypeIs v T/\wpAny (model X.prog X.w) X.A (getItem v (.ref sl)) (EP X pins σ Q) X.xe s
def tSl(r:V->Option Int->Option Int->Hp->VK->Prop)(te:TE)(tl th:TO):TE:=fun σ H Q=>te σ H fun x H1=>tl σ H1 fun l H2=>th σ H2 fun u H3=>r x l u H3 Q
theorem x9{r:V->Option Int->Option Int->Hp->VK->Prop}(hr:SlR X r)(he:PE X e te)(hl:PO X lo tl)(hu:PO X hi th):PE X (.Subscript e (.Slice lo hi none p2) pos) (tSl r te tl th):=by
 intro pins s σ H Q I h
 refine Subscript_ (dz (he pins s σ H _ I h) fun v s1 zz=>?_)
 obtain⟨x,H1,I1,r1,q1⟩:=zz
 refine wpAny_Slice (dz (hl pins s1 σ H1 _ I1 q1) fun vl s2 ⟨l,H2,I2,pl,q2⟩=>dz (hu pins s2 σ H2 _ I2 q2) fun vu s3 zz=>?_)
 obtain⟨u,H3,I3,pu,q3⟩:=zz
 rw[evalPart_none]
 refine amd ?_
 have I4:Inv X pins σ H3 {s3 with heap:=s3.heap.push {cls:=.type "slice",data:=.fields #[vl,vu,.none]}}:=I3.kept (t':=s3.toks) fun b ob q=>amo _ q
 obtain⟨T,id,hT,ht,hg⟩:=hr pins {s3 with heap:=s3.heap.push {cls:=.type "slice",data:=.fields #[vl,vu,.none]}} σ H3 x v vl vu l u s3.heap.objs.size Q I4 r1 (Heap.IsSliceOf.new ..) pl pu q3
 show wpAny (model X.prog X.w) X.A (subscriptTail e (.Slice lo hi none p2) v (.ref s3.heap.objs.size)) (EP X pins σ Q) X.xe {s3 with heap:=s3.heap.push {cls:=.type "slice",data:=.fields #[vl,vu,.none]}}
 exact tail_any (ops:=[.ref s3.heap.objs.size,v]) ht hT hg (by with_unfolding_all rfl)
def Br(xs:List V)(lo hi:Option Int):List V:=(xs.drop (HT.f7 xs.length 0 lo)).take (HT.f7 xs.length xs.length hi-HT.f7 xs.length 0 lo)
theorem vI(xs:List V)(lo hi:Option Int):(Br xs lo hi).length<=xs.length:=by
 unfold Br
 rw[amY,aod]
 omega
def agR(K:PySem.W.Frag):V->Option Int->Option Int->Hp->VK->Prop:=fun x lo hi H Q=>∃a xs,x=.ref a/\om K H a xs ∧
 ¬ (HT.f7 xs.length 0 lo=0/\HT.f7 xs.length xs.length hi=xs.length)/\∀p,H p=none->Q (.ref p) (upd H p (.tup (Br xs lo hi)))
theorem ZL:SlR X (agR X.K):=by
 intro pins s σ H x v vl vu lo hi sl Q I rx hs pl pu h
 obtain⟨a,xs,rfl,hx,hw,q⟩:=h
 cases rx
 obtain⟨its,r,ht,hz⟩:=I.tuple hx
 have hlen:its.toArray.size=xs.length:=by rw[amJ];exact r.length.symm
 refine⟨"tuple",_,anr.lookup,ht.typeIs,?_⟩
 refine HT.su ht hs pl pu (by rw[hlen];exact hw) ?_ (by rw[hlen];exact hz)
 rw[hlen]
 refine⟨.ref s.heap.objs.size,_,I.laid (t':=s.toks) (o:=.tup (Br xs lo hi)) (fun b ob q=>amo _ q) (aml _) ?_,rfl,q _ (I.cQ.fresh (aml _))⟩
 exact⟨am9 (vI xs lo hi) hz,_,(r.drop (HT.f7 xs.length 0 lo)).take (HT.f7 xs.length xs.length hi-HT.f7 xs.length 0 lo),IsTup.new _ _⟩
def adR(K:PySem.W.Frag):R2:=fun x y H Q=>∃a b xs ys,x=.ref a/\y=.ref b/\om K H a xs/\om K H b ys/\xs≠[]/\xs.length+ys.length<=sizeLine ∧
 (ys=[]->Q (.ref a) H)/\(ys≠[]->∀p,H p=none->Q (.ref p) (upd H p (.tup (xs++ys))))
variable{xs:List V}{us:List Value}
theorem Vals.wR(r:Vals xs us):us=[]↔xs=[]:=by
 cases r with
 | nil=>simp
 | cons _ _=>simp
theorem Iu:oq X (binaryOp .Add) (adR X.K):=by
 intro pins s σ H x y v u Q I rx ry h
 obtain⟨a,b,xs,ys,rfl,rfl,ha,hb,hx,hz,q1,q2⟩:=h
 cases rx
 cases ry
 obtain⟨its,r1,p1,_⟩:=I.tuple ha
 obtain⟨KD,r2,p2,_⟩:=I.tuple hb
 refine HT.Up p1 p2 (fun z=>hx (r1.wR.mp z)) (fun z=>⟨.ref a,H,I,rfl,q1 (r2.wR.mp z)⟩) (fun z=>?_) (by rw[← r1.length,← r2.length];exact hz)
 refine⟨.ref s.heap.objs.size,_,I.laid (t':=s.toks) (o:=.tup (xs++ys)) (fun b ob q=>amo _ q) (aml _) ?_,rfl,q2 (fun w=>z (r2.wR.mpr w)) _ (I.cQ.fresh (aml _))⟩
 exact⟨by rw[amn];exact hz,_,r1.append r2,IsTup.new _ _⟩
def Iv(n:Nat)(i:Int):Option Nat:=if 0<=i then(if i<n then some i.toNat else none) else if -(n:Int)<=i then some (i+n).toNat else none
variable{α:Type}
def rW(xs:List α)(i:Int):Option α:=(Iv xs.length i).bind fun j=>xs[j]?
variable{n:Nat}
theorem wU{i:Int}{j:Nat}(h:Iv n i=some j):seqIndex? i n=some j/\j<n /\ -(n:Int)<=i/\i<n:=by
 unfold Iv at h
 by_cases h0:0<=i
 . rw[amx h0]at h
   by_cases h1:i<n
   . rw[amx h1]at h
     have e:i.toNat=j:=amA h
     exact⟨by rw[seqIndex_of h0 h1,e],by omega,by omega,h1⟩
   . rw[amq h1]at h;cases h
 . rw[amq h0]at h
   by_cases h1:-(n:Int)<=i
   . rw[amx h1]at h
     have e:(i+n).toNat=j:=amA h
     exact⟨by rw[seqIndex_neg (by omega) h1,e],by omega,h1,by omega⟩
   . rw[amq h1]at h;cases h
theorem Bs{xs:List α}{i:Int}{v:α}(h:rW xs i=some v):∃j,seqIndex? i xs.length=some j/\xs[j]? = some v/\j<xs.length /\ -(xs.length:Int)<=i/\i<xs.length:=by
 unfold rW at h
 cases e:Iv xs.length i with
 | none=>rw[e]at h;cases h
 | some j=>
   rw[e]at h
   obtain⟨h1,h2,h3,h4⟩:=wU e
   exact⟨j,h1,h,h2,h3,h4⟩
theorem aG{xs:List α}{j:Nat}{v:α}(h:xs[j]? = some v):rW xs (j:Int)=some v:=by
 have hj:j<xs.length:=(amf.mp h).1
 have e:Iv xs.length (j:Int)=some j:=by
   unfold Iv
   rw[amx (by omega),amx (by omega)];simp
 unfold rW;rw[e];exact h
def mJ(b:Expr):Prop:=∀o i,subscripted b false o i=operate [o,i] (getItem o i)
def IxR(X:Cx)(r:R2):Prop:=
 ∀(value slice:Expr) (pins:List (Addr×Obj)) (s:Shared) (σ:St) (H:Hp) (x y:V) (v u:Value) (Q:VK),Inv X pins σ H s->RelV x v->RelV y u->r x y H Q →
   subscripted slice false v u=operate [v,u] (getItem v u)->wpAny (model X.prog X.w) X.A (subscriptTail value slice v u) (EP X pins σ Q) X.xe s
def MtR(X:Cx)(id:String)(r:V->List V->Hp->VK->Prop):Prop:=
 ∀(pins:List (Addr×Obj)) (s:Shared) (σ:St) (H:Hp) (x:V) (xs:List V) (v:Value) (us:List Value) (Q:VK),Inv X pins σ H s->RelV x v->Vals xs us->r x xs H Q →
   wpAny (model X.prog X.w) X.A (call (.builtin id) (v::us)) (EP X pins σ Q) X.xe s
section
variable{a b:Expr}{ta tb:TE}
theorem yb{r:R2}(hr:IxR X r)(ha:PE X a ta)(hb:PE X b tb)(hs:mJ b):PE X (.Subscript a b pos) (tOp r ta tb):=by
 intro pins s σ H Q I h
 exact Subscript_ (Zw ha hb I h fun v u s2 x y H2 I2 rx ry q=>hr a b pins s2 σ H2 x y v u Q I2 rx ry q (hs _ _))
def agS(K:PySem.W.Frag):R2:=fun x y H Q=>∃p xs i v,x=.ref p/\y=.int i/\nV K H p xs/\rW xs i=some v/\Q v H
def agT(K:PySem.W.Frag):R2:=fun x y H Q=>∃p xs i v,x=.ref p/\y=.int i/\om K H p xs/\rW xs i=some v/\Q v H
def agU:R2:=fun x y H Q=>∃z i c,x=.str z/\y=.int i/\z.length<=sizeLine/\rW z.cps.toList i=some c/\Q (.str ⟨#[c]⟩) H
theorem Iw:IxR X (agS X.K):=by
 intro value slice pins s σ H x y v u Q I rx ry h hs
 obtain⟨p,xs,i,z,rfl,rfl,hq,he,q⟩:=h
 cases rx
 obtain⟨t,rfl⟩:=ry
 obtain⟨its,r,pl,hz⟩:=I.list hq
 obtain⟨j,h1,h2,h3,h4,h5⟩:=Bs he
 obtain⟨w,ew,KG⟩:=r.get h2
 have hl:=r.length
 have hn:=xZ
 have fin:EP X pins σ Q w s:=⟨z,H,I,KG,q⟩
 by_cases h0:0<=i
 . have hj:i.toNat=j:=by
     rw[seqIndex_of h0 h5]at h1
     exact amA h1
   exact item_listR pl.isList h0 (by omega) (by rw[hj];simpa using ew) fin hs
 . have hj:(i+(its.toArray.size:Int)).toNat=j:=by
     rw[seqIndex_neg (by omega) h4]at h1
     rw[amJ,← hl]
     exact amA h1
   exact subscriptTail_builtinR (x:=w) pl.isList.typeIs slot_list_getitem.lookup
     (wpAny_getItem_list_neg (Q:=fun r s'=>r=w/\EP X pins σ Q r s') pl.isList (by omega) (by rw[List.size_toArray]<;>omega) (by omega) (by rw[hj];simpa using ew) ⟨rfl,fin⟩) hs
theorem Bt:IxR X (agT X.K):=by
 intro value slice pins s σ H x y v u Q I rx ry h hs
 obtain⟨p,xs,i,z,rfl,rfl,hq,he,q⟩:=h
 cases rx
 obtain⟨t,rfl⟩:=ry
 obtain⟨its,r,pl,hz⟩:=I.tuple hq
 obtain⟨j,h1,h2,h3,h4,h5⟩:=Bs he
 obtain⟨w,ew,KG⟩:=r.get h2
 have hl:=r.length
 have hn:=xZ
 have fin:EP X pins σ Q w s:=⟨z,H,I,KG,q⟩
 exact subscriptTail_builtinR (x:=w) pl.typeIs slot_tuple_getitem.lookup
   (getItem_tuple (j:=j) (Q:=fun r s'=>r=w/\EP X pins σ Q r s') pl (by omega) (by omega) (by rw[List.size_toArray,← hl];exact h1) (by simpa using ew) ⟨rfl,fin⟩) hs
theorem ZM:IxR X agU:=by
 intro value slice pins s σ H x y v u Q I rx ry h hs
 obtain⟨z,i,c,rfl,rfl,hz,he,q⟩:=h
 obtain⟨t,rfl⟩:=rx
 obtain⟨t',rfl⟩:=ry
 obtain⟨j,h1,h2,h3,h4,h5⟩:=Bs he
 have hl:z.cps.toList.length=z.length:=by simp[Str.length]
 rw[hl]at h1 h4 h5
 have hn:=xZ
 exact tail_any (typeIs_str s z t) slot_str_getitem.lookup (getItem_str (c:=c) (by
   have e1:decide (i < -(2 ^ 63:Int))=false:=amN (by omega)
   have e2:decide (i ≥ 2 ^ 63)=false:=amN (by omega)
   rw[e1,e2,Bool.or_false]) (by rw[h1];simpa using h2) ⟨.str ⟨#[c]⟩,H,I.tok _,⟨_,rfl⟩,q⟩) hs
theorem FI(its:List Value)(n j:Nat)(u:Value):Obj.mapSeq (·.setIfInBounds j u) {cls:=.type "list",data:=.seq its.toArray n}={cls:=.type "list",data:=.seq (its.set j u).toArray n}:=by
 simp[Obj.mapSeq]
theorem Inv.lst{pins:List (Addr×Obj)}{σ:St}{H:Hp}{s:Shared}{p:Addr}(I:Inv X pins σ H s)(h:H p=some (.lst xs)) :
   ∃(its:List Value) (n:Nat),Vals xs its/\s.heap.get? p=some {cls:=.type "list",data:=.seq its.toArray n}/\xs.length<=sizeLine:=by
 obtain⟨z,its,n,r,e⟩:=I.cQ p _ h
 exact⟨its,n,r,e,z⟩
theorem Inv.ZN{pins:List (Addr×Obj)}{σ:St}{H:Hp}{s:Shared}{p:Addr}{ys:List V}{its its':List Value}{n':Nat}{f:Obj->Obj}(I:Inv X pins σ H s)(h:H p=some (.lst xs))
   (ho:s.heap.get? p=some {cls:=.type "list",data:=.seq its.toArray n}) (hf:f {cls:=.type "list",data:=.seq its.toArray n}={cls:=.type "list",data:=.seq its'.toArray n'}) (r:Vals ys its') (hz:ys.length<=sizeLine) (t:Nat) :
   Inv X pins σ (upd H p (.lst ys)) {s with heap:=s.heap.update p f,toks:=t}:=by
 have e:(s.heap.update p f).get? p=some {cls:=.type "list",data:=.seq its'.toArray n'}:=by
   rw[anA f ho (by rw[hf]<;>rfl),hf]
 refine I.write (x:=p) (e:=p) (by rw[h];trivial) (.inl rfl) (fun b u hb q=>(anZ _ _ (anP hb)).trans q) ⟨_,e⟩ ?_
 exact⟨hz,its',n',r,e⟩
def adS:V->V->V->Hp->(Hp->Prop)->Prop:=fun o i v H Q=>∃p xs k j,o=.ref p/\i=.int k/\H p=some (.lst xs)/\Iv xs.length k=some j/\Q (upd H p (.lst (xs.set j v)))
theorem set_list:adu X adS:=by
 intro pins s σ H o i v ov iv u Q I ro ri rv h
 obtain⟨p,xs,k,j,rfl,rfl,hp,hj,q⟩:=h
 cases ro
 obtain⟨t,rfl⟩:=ri
 obtain⟨its,n,r,ho,hz⟩:=I.lst hp
 obtain⟨h1,h2,h3,h4⟩:=wU hj
 have hl:=r.length
 have hn:=xZ
 have I':Inv X pins σ (upd H p (.lst (xs.set j v))) {s with heap:=s.heap.update p (Obj.mapSeq (·.setIfInBounds j u))}:=
   I.ZN hp ho (FI its n j u) (r.set rv j) (by rw[aoQ];exact hz) s.toks
 by_cases h0:0<=k
 . have hk:k.toNat=j:=by
     rw[seqIndex_of h0 h4]at h1
     exact amA h1
   exact PySem.W.ki_setAt ho h0 (by omega) (by rw[amJ,← hl];exact h4) (by rw[hk];exact⟨_,I',q⟩)
 . have hk:(k+(its.toArray.size:Int)).toNat=j:=by
     rw[seqIndex_neg (by omega) h3]at h1
     rw[amJ,← hl]
     exact amA h1
   exact PySem.W.ki_setBack ho (by omega) (by rw[amJ,← hl];exact h3) (by omega) (by rw[hk];exact⟨_,I',q⟩)
theorem Bu(lo hi:Option Int)(n:Nat):(sliceBounds lo hi none n).1=((HT.f7 n 0 lo:Nat):Int)/\(sliceBounds lo hi none n).2.1=((HT.f7 n n hi:Nat):Int)/\(sliceBounds lo hi none n).2.2=1:=by
 refine⟨?_,?_,rfl⟩
 . cases lo with
   | none=>simp[sliceBounds,HT.f7]
   | some i=>
     simp only[sliceBounds,HT.f7,Option.getD_none,show(1:Int) > 0 by decide,aoy]
     by_cases h:i<0
     . simp only[h,aoy]<;>omega
     . simp only[h,an1]<;>omega
 . cases hi with
   | none=>simp[sliceBounds,HT.f7]
   | some i=>
     simp only[sliceBounds,HT.f7,Option.getD_none,show(1:Int) > 0 by decide,aoy]
     by_cases h:i<0
     . simp only[h,aoy]<;>omega
     . simp only[h,an1]<;>omega
theorem zS(its:List Value)(lo hi:Option Int):slicePick its.toArray lo hi none=((its.drop (HT.f7 its.length 0 lo)).take (HT.f7 its.length its.length hi-HT.f7 its.length 0 lo)).toArray:=by
 obtain⟨h1,h2,h3⟩:=Bu lo hi its.toArray.size
 unfold slicePick
 rw[h1,h2,h3]
 simp only[sliceRange_one,pick_run,amJ]<;>rfl
def agV(K:PySem.W.Frag):V->Option Int->Option Int->Hp->VK->Prop:=fun x lo hi H Q=>∃a xs,x=.ref a/\nV K H a xs/\∀p,H p=none->Q (.ref p) (upd H p (.lst (Br xs lo hi)))
theorem Uu:SlR X (agV X.K):=by
 intro pins s σ H x v vl vu lo hi sl Q I rx hs pl pu h
 obtain⟨a,xs,rfl,hx,q⟩:=h
 cases rx
 obtain⟨its,r,ht,hz⟩:=I.list hx
 have hlen:=r.length
 refine⟨"list",_,slot_list_getitem.lookup,ht.isList.typeIs,?_⟩
 refine wpAny_getItem_list_slice ht.isList hs pl pu .none (by simp) ?_ (by rw[amJ]<;>omega)
 rw[zS,← hlen]
 refine⟨.ref s.heap.objs.size,_,I.laid (t':=s.toks) (o:=.lst (Br xs lo hi)) (fun b ob q=>amo _ q) (aml _) ?_,rfl,q _ (I.cQ.fresh (aml _))⟩
 exact⟨am9 (vI xs lo hi) hz,_,0,(r.drop (HT.f7 xs.length 0 lo)).take (HT.f7 xs.length xs.length hi-HT.f7 xs.length 0 lo),amD _ rfl⟩
def sA:V->Bool
 | .non=>true
 | .bl _=>true
 | .int _=>true
 | .str _ => true
 | _=>false
def Uv:V->V->Bool
 | .non,.non=>true
 | .bl a,.bl b=>a==b
 | .bl a,.int b=>(if a then 1 else 0)==b
 | .int a,.bl b=>a==(if b then 1 else 0)
 | .int a,.int b=>a==b
 | .str a, .str b => a == b
 | _,_=>false
theorem ZO{A:Around}{s:Shared}{y x:V}{u v:Value}(ry:RelV y u)(rx:RelV x v)(fy:sA y=true)(fx:sA x=true):SeqAt.EqAt A s u v (Uv y x):=by
 cases y with
 | non=>
   cases ry
   cases x with
   | non=>cases rx;exact SeqAt.EqAt.same _
   | bl b=>cases rx;exact SeqAt.EqAt.none_bool b
   | int b=>obtain⟨t,rfl⟩:=rx;exact SeqAt.EqAt.none_int b t
   | str b=>obtain⟨t,rfl⟩:=rx;exact SeqAt.EqAt.none_str b t
   | _=>exact absurd (show false=true from fx) amu
 | bl a=>
   cases ry
   cases x with
   | non=>cases rx;exact SeqAt.EqAt.bool_none a
   | bl b=>cases rx;exact SeqAt.EqAt.bool_bool a b
   | int b=>obtain⟨t,rfl⟩:=rx;exact SeqAt.EqAt.bool_int a b t
   | str b=>obtain⟨t,rfl⟩:=rx;exact SeqAt.EqAt.bool_str a b t
   | _=>exact absurd (show false=true from fx) amu
 | int a=>
   obtain⟨t',rfl⟩:=ry
   cases x with
   | non=>cases rx;exact SeqAt.EqAt.int_none a t'
   | bl b=>cases rx;exact SeqAt.EqAt.int_bool a t' b
   | int b=>obtain⟨t,rfl⟩:=rx;exact SeqAt.EqAt.int_int a t' b t
   | str b=>obtain⟨t,rfl⟩:=rx;exact SeqAt.EqAt.int_str a t' b t
   | _=>exact absurd (show false=true from fx) amu
 | str a=>
   obtain⟨t',rfl⟩:=ry
   cases x with
   | non=>cases rx;exact SeqAt.EqAt.str_none a t'
   | bl b=>cases rx;exact SeqAt.EqAt.str_bool a t' b
   | int b=>obtain⟨t,rfl⟩:=rx;exact SeqAt.EqAt.str_int a t' b t
   | str b=>obtain⟨t,rfl⟩:=rx;exact SeqAt.EqAt.str_str a t' b t
   | _=>exact absurd (show false=true from fx) amu
 | _=>exact absurd (show false=true from fy) amu
def FJ(x:V)(u:Value):Bool:=match u with
 | .none=>Uv .non x
 | .bool b=>Uv (.bl b) x
 | .int i _=>Uv (.int i) x
 | .str z _ => Uv (.str z) x
 | _=>false
theorem NK{x y:V}{u:Value}(r:RelV y u)(f:sA y=true):FJ x u=Uv y x:=by
 cases y with
 | non=>cases r;rfl
 | bl b=>cases r;rfl
 | int i=>obtain⟨t,rfl⟩:=r;rfl
 | str z=>obtain⟨t,rfl⟩:=r;rfl
 | _=>exact absurd (show false=true from f) amu
theorem sC{x:V}:∀{xs:List V} {us:List Value},Vals xs us->xs.all sA=true->us.any (FJ x)=xs.any fun y=>Uv y x
 | _,_,.nil,_=>rfl
 | y::xs,u::us,.cons r t,f=>by
   rw[List.all_cons,amI]at f
   rw[aoH,aoH,NK r f.1,sC t f.2]
theorem oE{A:Around}{s:Shared}{x:V}{v:Value}(rx:RelV x v)(fx:sA x=true):∀{xs:List V} {us:List Value},Vals xs us->xs.all sA=true->∀u∈us,SeqAt.EqAt A s u v (FJ x u)
 | _,_,.nil,_=>fun u hu=>by cases hu
 | y::xs,u::us,.cons r t,f=>fun u' hu=>by
   rw[List.all_cons,amI]at f
   rcases ami.mp hu with rfl|hu
   . rw[NK r f.1];exact ZO r rx f.1 fx
   . exact oE rx fx t f.2 u' hu
def inV(x:V)(xs:List V):Bool:=xs.any fun y=>Uv y x
def rIn(K:PySem.W.Frag)(neg:Bool):R2:=fun x y H Q=>∃p xs,y=.ref p/\(nV K H p xs\/om K H p xs)/\sA x=true/\xs.all sA=true/\Q (.bl (if neg then !inV x xs else inV x xs)) H
theorem Ay:oq X (compareOp .In) (rIn X.K false):=by
 intro pins s σ H x y v u Q I rx ry h
 obtain⟨p,xs,rfl,hq,fx,fs,q⟩:=h
 cases ry
 rcases hq with hq|hq
 . obtain⟨its,r,pl,hz⟩:=I.list hq
   refine SeqAt.in_listAt (FJ x) pl.isList (fun w hw=>oE rx fx r fs w (by simpa using hw)) ⟨.bl _,H,I,rfl,?_⟩
   rw[show its.toArray.any (FJ x)=its.any (FJ x) by simp,sC r fs]
   exact q
 . obtain⟨its,r,pl,hz⟩:=I.tuple hq
   refine SeqAt.in_tupleAt (FJ x) pl (fun w hw=>oE rx fx r fs w (by simpa using hw)) ⟨.bl _,H,I,rfl,?_⟩
   rw[show its.toArray.any (FJ x)=its.any (FJ x) by simp,sC r fs]
   exact q
theorem sE:oq X (compareOp .NotIn) (rIn X.K true):=by
 intro pins s σ H x y v u Q I rx ry h
 obtain⟨p,xs,rfl,hq,fx,fs,q⟩:=h
 cases ry
 rcases hq with hq|hq
 . obtain⟨its,r,pl,hz⟩:=I.list hq
   refine SeqAt.notIn_listAt (FJ x) pl.isList (fun w hw=>oE rx fx r fs w (by simpa using hw)) ⟨.bl _,H,I,rfl,?_⟩
   rw[show its.toArray.any (FJ x)=its.any (FJ x) by simp,sC r fs]
   exact q
 . obtain⟨its,r,pl,hz⟩:=I.tuple hq
   refine SeqAt.notIn_tupleAt (FJ x) pl (fun w hw=>oE rx fx r fs w (by simpa using hw)) ⟨.bl _,H,I,rfl,?_⟩
   rw[show its.toArray.any (FJ x)=its.any (FJ x) by simp,sC r fs]
   exact q
theorem sF:j8 X (.builtin "len") (fun xs H Q=>∃p ys,xs=[.ref p]/\(nV X.K H p ys\/om X.K H p ys)/\Q (.int ys.length) H):=by
 intro pins s σ H xs us Q I r h
 obtain⟨p,ys,rfl,hq,q⟩:=h
 obtain⟨u,rfl,rx⟩:=vals1 r
 cases rx
 have hn:=xZ
 rcases hq with hq|hq
 . obtain⟨its,r',pl,hz⟩:=I.list hq
   have hlen:=r'.length
   exact Calls.call_len_list pl.isList (by simp only[amJ]<;>omega) ⟨.int ys.length,H,I.tok _,⟨s.toks+1,by rw[amJ,hlen]⟩,q⟩
 . obtain⟨its,r',pl,hz⟩:=I.tuple hq
   have hlen:=r'.length
   exact len_tuple pl (by simp only[amJ]<;>omega) ⟨.int ys.length,H,I.tok _,⟨s.toks+1,by rw[amJ,hlen]⟩,q⟩
theorem Bv:j8 X (.type "list") (fun xs H Q=>∃p ys,xs=[.ref p]/\(nV X.K H p ys\/om X.K H p ys)/\∀l,H l=none->Q (.ref l) (upd H l (.lst ys))):=by
 intro pins s σ H xs us Q I r h
 obtain⟨p,ys,rfl,hq,q⟩:=h
 obtain⟨u,rfl,rx⟩:=vals1 r
 cases rx
 have fin:∀(its:List Value),Vals ys its->ys.length<=sizeLine->∀(h':Heap) (c':Nat),(∀b o',s.heap.get? b=some o'->h'.get? b=some o') →
     h'.get? s.heap.objs.size=some {cls:=.type "list",dict:=none,data:=.seq its.toArray c',slots:=#[]}->EP X pins σ Q (.ref s.heap.objs.size) {s with heap:=h'}:=fun its r' hz h' c' kp e=>
   ⟨.ref s.heap.objs.size,_,I.laid (t':=s.toks) kp (aml _) (show dw X.prog X.w _ h' _ (.lst ys) from⟨hz,its,c',r',e⟩),rfl,q _ (I.cQ.fresh (aml _))⟩
 rcases hq with hq|hq
 . obtain⟨its,r',pl,hz⟩:=I.list hq
   have hlen:=r'.length
   obtain⟨o,ho,hc,n,hd⟩:=pl.isList
   exact call_list_seq p (.inl rfl) ho hc hd (fun h' c' kp e=>fin its r' hz h' c' kp e) (by simp only[amJ]<;>omega)
 . obtain⟨its,r',pl,hz⟩:=I.tuple hq
   have hlen:=r'.length
   obtain⟨o,ho,hc,n,hd⟩:=pl
   exact call_list_seq p (.inr rfl) ho hc hd (fun h' c' kp e=>fin its r' hz h' c' kp e) (by simp only[amJ]<;>omega)
theorem qH:j8 X (.type "tuple") (fun xs H Q=>∃p ys,xs=[.ref p]/\((nV X.K H p ys/\∀l,H l=none->Q (.ref l) (upd H l (.tup ys)))\/(om X.K H p ys/\Q (.ref p) H))):=by
 intro pins s σ H xs us Q I r h
 obtain⟨p,ys,rfl,h⟩:=h
 obtain⟨u,rfl,rx⟩:=vals1 r
 cases rx
 rcases h with⟨hq,q⟩|⟨hq,q⟩
 . obtain⟨its,r',pl,hz⟩:=I.list hq
   have hlen:=r'.length
   refine call_tuple_list pl.isList (fun h' kp=>?_) (by simp only[amJ]<;>omega)
   have I1:Inv X pins σ H {s with heap:=h'}:=I.kept (t':=s.toks) kp
   have I2:Inv X pins σ (upd H h'.objs.size (.tup ys)) {s with heap:=h'.push {cls:=.type "tuple",data:=.seq its.toArray}}:=
     I1.laid (t':=s.toks) (fun b o e=>amo _ e) (aml _) (show dw X.prog X.w _ _ _ (.tup ys) from⟨hz,its,r',IsTup.new _ _⟩)
   exact⟨.ref h'.objs.size,_,I2,rfl,q _ (I1.cQ.fresh (aml _))⟩
 . obtain⟨its,r',pl,hz⟩:=I.tuple hq
   exact call_tuple_same pl ⟨.ref p,H,I,rfl,q⟩
def tyV(K:PySem.W.Frag)(T:String)(x:V)(H:Hp):Prop:=match x with
 | .str _ => T = "str"
 | .int _=>T="int"
 | .ref p=>(T="list" /\ ∃xs,nV K H p xs)\/(T="tuple" /\ ∃o,K.lookup p=some o/\o.cls=.type "tuple" /\ o.dict=none) ∨
     (T="dict" /\ ((∃kvs,H p=some (.dK kvs))\/∃kvs,H p=some (.dT kvs)))\/(T="set" /\ ∃S n,H p=some (.set S n))
 | _=>False
theorem ZP{pins:List (Addr×Obj)}{σ:St}{H:Hp}{s:Shared}{T:String}{x:V}{v:Value}(I:Inv X pins σ H s)(r:RelV x v)(ty:tyV X.K T x H) :
   s.TypeIs v T/\∀a,v=.ref a->∃ob,s.heap.get? a=some ob/\ob.dict=none:=by
 cases x with
 | str z=>
   obtain⟨t,rfl⟩:=r
   cases (show T="str" from ty)
   exact⟨typeIs_str s z t,fun _ e=>nomatch e⟩
 | int i=>
   obtain⟨t,rfl⟩:=r
   cases (show T="int" from ty)
   exact⟨typeIs_int s i t,fun _ e=>nomatch e⟩
 | ref p=>
   cases r
   rcases ty with⟨rfl,xs,hq⟩|⟨rfl,o,hk,hc,hd⟩|⟨rfl,hk⟩|⟨rfl,S,n,hk⟩
   . obtain⟨its,_,pl,_⟩:=I.list hq
     refine⟨pl.isList.typeIs,fun a e=>?_⟩
     cases e
     obtain⟨o,n,e,c,hd,_⟩:=pl
     exact⟨o,e,hd⟩
   . refine⟨⟨o,I.Aq p o hk,hc⟩,fun a e=>?_⟩
     cases e
     exact⟨o,I.Aq _ o hk,hd⟩
   . have z:∃o,s.heap.get? p=some o/\o.ExactDict:=by
       rcases hk with⟨kvs,hk⟩|⟨kvs,hk⟩
       . obtain⟨_,_,_,_,o,_,_,e,ex,_⟩:=I.cQ p _ hk
         exact⟨o,e,ex⟩
       . obtain⟨_,_,_,_,o,_,_,e,ex,_⟩:=I.cQ p _ hk
         exact⟨o,e,ex⟩
     obtain⟨o,e,ex⟩:=z
     refine⟨⟨o,e,ex.1⟩,fun a e2=>?_⟩
     cases e2
     exact⟨o,e,ex.2.1⟩
   . obtain⟨o,_,_,_,e,ex,_⟩:=I.cQ p _ hk
     refine⟨⟨o,e,ex.1⟩,fun a e2=>?_⟩
     cases e2
     exact⟨o,e,ex.2.1⟩
 | _=>exact False.elim ty
def tBM(K:PySem.W.Frag)(T:String)(r:V->List V->Hp->VK->Prop)(to:TE)(t:TA):TE:=fun σ H Q=>to σ H fun x H1=>tyV K T x H1/\t σ H1 fun xs H2=>r x xs H2 Q
variable{o:Expr}{es:List Expr}{to:TE}{t:TA}{name:Str}{apos oh:Pos}{T id:String}{r:V->List V->Hp->VK->Prop}
theorem X6(pa:PlainAttrs T)(slot:Slot T name id)(hty:typeOf (.builtin id)=pure (.type "method_descriptor"))(hm:MtR X id r)(ho:PE X o to)(ha:PA X (e::es) t)
   (kg:attributeBase o name X.env (eval o X.env)=eval o X.env:=by rfl)
   (yc:((backTo oh (starEach (e::es) X.env)).all (fun x=>!x.1)&&(backToKw oh (keywordEach [] X.env)).all (fun x=>x.1.isSome)
     && decide ((e::es).length+([]:List Keyword).length+(if ([]:List Keyword).isEmpty then 0 else 1)<30))=true:=by rfl)
   (hline:(apos.endLine==oh.line)=true:=by rfl) (hs:starEach (e::es) X.env=(false,eval e X.env)::starEach es X.env:=by rfl) (qS:(backTo oh (starEach es X.env)).any (·.1)=false:=by rfl) :
   PE X (.Call (.Attribute o name apos) (e::es) [] oh) (tBM X.K T r to t):=by
 intro pins s σ H Q I h
 refine wpAny_Call_method_late kg yc hline rfl (dz (ho pins s σ H _ I h) fun v s1 zz=>?_)
 obtain⟨x,H1,I1,r1,ty,q1⟩:=zz
 obtain⟨h1,h2⟩:=ZP I1 r1 ty
 refine⟨T,id,pa,slot,hty,h1,h2,?_⟩
 have hA:=ha oh pins s1 σ H1 _ I1 q1
 rw[hs]at hA ⊢
 refine Calls.callWith_builtin (by show(false || (backTo oh (starEach es X.env)).any (·.1))=false;rw[qS]<;>rfl) (Calls.evalArgs_plain ?_)
 exact dz hA fun us s2 ⟨vs,H2,I2,r2,q2⟩=>hm pins s2 σ H2 x vs v us Q I2 r1 r2 q2
end
def MtM(X:Cx)(id:String)(r:V->List V->Hp->VK->Prop):Prop:=
 ∀(pins:List (Addr×Obj)) (s:Shared) (σ:St) (H:Hp) (x:V) (xs:List V) (v:Value) (us:List Value) (Q:VK),Inv X pins σ H s->RelV x v->Vals xs us->r x xs H Q →
   wpAny (model X.prog X.w) X.A (call (.builtin id) (v::us)) (EP X pins σ Q) X.xe s
variable{x:V}
theorem Vals.one(h:Vals [x] us):∃u,us=[u]/\RelV x u:=by
 cases h with
 | cons r h=>cases h;exact⟨_,rfl,r⟩
theorem Vals.two{y:V}(h:Vals [x,y] us):∃u v,us=[u,v]/\RelV x u/\RelV y v:=by
 cases h with
 | cons r h=>cases h with
   | cons q h=>cases h;exact⟨_,_,rfl,r,q⟩
theorem Vals.rep{xs:List V}{us:List Value}(h:Vals xs us):∀k:Nat,Vals (List.replicate k xs).flatten (List.replicate k us).flatten
 | 0=>.nil
 | k+1=>by
   rw[anx,anx,an7,an7]
   exact Vals.append h (Vals.rep h k)
theorem foldl_rep(its:List Value):∀(k:Nat) (acc:List Value),
   List.foldl (fun x1 x2=>x1++x2) acc.toArray (List.replicate k its.toArray)=(acc++(List.replicate k its).flatten).toArray
 | 0,acc=>by simp
 | k+1,acc=>by
   have e:acc.toArray++its.toArray=(acc++its).toArray:=by simp
   have e2:(acc++its)++(List.replicate k its).flatten=acc++(List.replicate (k+1) its).flatten:=by
     rw[anx,an7,amm]
   rw[← e2,← foldl_rep its k (acc++its),← e,anx,List.foldl_cons]
variable{pins:List (Addr×Obj)}{σ:St}{H:Hp}{s:Shared}{l:Addr}{ys:List V}
theorem Inv.agW{its its':List Value}{f:Array Value->Array Value}{t':Nat}(I:Inv X pins σ H s)(hH:H l=some (.lst xs))
   (e:s.heap.get? l=some {cls:=.type "list",data:=.seq its.toArray n}) (hf:f its.toArray=its'.toArray) (hv:Vals ys its') (hz:ys.length<=sizeLine) :
   Inv X pins σ (upd H l (.lst ys)) {s with heap:=s.heap.update l (Obj.mapSeq f),toks:=t'}:=by
 have q:=PySem.IsL.update e f
 rw[hf]at q
 refine I.write (x:=l) (e:=l) (by rw[hH];exact trivial) (.inl rfl) (fun b' u hb hu=>(anZ s.heap (Obj.mapSeq f) (anP hb)).trans hu) ⟨_,q⟩ ?_
 exact⟨hz,its',_,hv,q⟩
theorem Inv.adU{its:List Value}{t':Nat}(I:Inv X pins σ H s)(hv:Vals ys its)(hz:ys.length<=sizeLine) :
   Inv X pins σ (upd H s.heap.objs.size (.lst ys)) {s with heap:=s.heap.push {cls:=.type "list",data:=.seq its.toArray},toks:=t'}:=
 I.laid (fun _ _ q=>amo _ q) (aml _) ⟨hz,its,0,hv,amD _ rfl⟩
theorem Inv.fresh(I:Inv X pins σ H s):H s.heap.objs.size=none:=I.cQ.fresh (aml _)
theorem Inv.agX(I:Inv X pins σ H s)(hH:H l=some (.lst xs)):xs.length<=sizeLine/\∃(its:List Value) (n:Nat),Vals xs its/\xs.length=its.length/\s.heap.get? l=some {cls:=.type "list",data:=.seq its.toArray n}:=by
 obtain⟨z,its,n,r,e⟩:=I.cQ l _ hH
 exact⟨z,its,n,r,r.length,e⟩
theorem NP(h:n<=sizeLine):Builtin.List.listTooLong n=false:=by
 unfold Builtin.List.listTooLong
 exact amN (by omega)
def Uw:V->List V->Hp->VK->Prop:=fun x vs H Q=>∃l xs y,x=.ref l/\vs=[y]/\H l=some (.lst xs)/\xs.length<sizeLine/\Q .non (upd H l (.lst (xs++[y])))
theorem Az:MtM X "list.append" Uw:=by
 intro pins s σ H x vs v us Q I rx rv h
 obtain⟨l,xs,y,rfl,rfl,hH,hz,q⟩:=h
 cases rx
 obtain⟨u,rfl,ru⟩:=rv.one
 obtain⟨z,its,n,r,hl,e⟩:=I.agX hH
 refine call_meets F.slot_list_append ⟨_,e,rfl⟩ F.entry_list_append (F.args_list_append_2 _ _) (PySem.list_append l its.toArray n u (by rw[amJ];omega)) ⟨e,?_⟩
 refine⟨.non,_,I.agW (its':=its++[u]) hH e (by simp) (r.append (.cons ru .nil)) ?_,rfl,q⟩
 rw[amn,aoz]
 omega
theorem len_rep(xs:List α)(k:Nat):(List.replicate k xs).flatten.length=k*xs.length:=by
 induction k with
 | zero=>simp
 | succ k ih=>rw[anx,an7,amn,ih,Nat.succ_mul,Nat.add_comm]
end L2
namespace Att
open PySem PySem.W PySem.Calls PyProof.Rows
theorem wg{P:Params}{h:Heap}:∀(ns:List Int) (vs:List Value),WellAll P h vs (ns.map WData.int)->IntsAre vs ns:=by
 intro ns
 induction ns with
 | nil=>
   intro vs w
   rw[List.map_nil]at w
   cases w
   exact .nil
 | cons n ns ih=>
   intro vs w
   rw[List.map_cons]at w
   cases w with
   | cons a b=>
     cases a
     exact .cons _ _ (ih _ b)
theorem KH{l:OpenLaw}{n:Nat}(hn:l.most=some n){P:Params}{h:Heap}{args:List WData}{vals:List Value}
   (yd:l.row.toRowW.claim.pre args=true) (hwl:WellAll P h vals args) :
   ∃a vs ns,vals=[Value.ref a]/\args=[WData.list (ns.map WData.int)]/\h.get? a=some {cls:=.type "list",data:=.seq vs.toArray}/\IntsAre vs ns/\ns.length<=n:=by
 have sG:WShape.hasAll [] args [.list .int]=true:=(pre_splitW yd).1
 have hc:l.pre.holds [] {args:=args}=true:=(pre_splitW yd).2
 obtain⟨d,r,rfl,h1,h2⟩:=hasAllW_cons sG
 obtain rfl:=hasAllW_nil h2
 obtain⟨xs,rfl,h3⟩:=hasW_list h1
 obtain⟨ns,rfl⟩:=items_int h3
 have hlen:ns.length<=n:=by
   unfold OpenLaw.pre at hc
   have h4:(WTm.not (.lt (.lit (.int (n:Int))) (.len (.arg 0)))).holds [] {args:=[.list (ns.map .int)]}=true:=by
     have h4:=(holds_andW hc).1
     rw[hn]at h4
     exact h4
   have h5:=condW_of h4 (w_not (w_lt w_lit (w_len_list (w_arg rfl))))
   rw[List.length_map]at h5
   refine Nat.le_of_not_lt fun q=>?_
   have q':(n:Int)<((ns.length:Nat):Int):=by omega
   first
     | (rw[decide_eq_true q']at h5;exact absurd h5 (by decide))
     | (simp at h5;omega)
 cases hwl with
 | cons w1 w2=>
   cases w2
   cases w1 with
   | list ho agY=>exact⟨_,_,ns,rfl,rfl,ho,wg ns _ agY,hlen⟩
theorem KJ(l:OpenLaw)(args:List WData):l.row.toRowW.claim.post args (.bool true) args=true:=
 postW_of (r:=l.row.toRowW) (X:=(true==true))
   (show WShape.has [] (.bool true) .bool=true by first|rfl|decide|simp[WShape.has,WShape.arms,WShape.armsAll])
   (show(WTm.eq .res (.lit (.bool true))).value [] {args:=args,res:=some (.bool true),after:=args}=some (.bool (true==true)) from w_eq_bool (w_res rfl) w_lit) rfl
theorem DW{l:OpenLaw}{n:Nat}{q:Program}{loose:List Str}{XP:(Str->Option Value)->Heap->Prop}{YP:World->Heap->Prop}{d:DefRec}
   (hn:l.most=some n) (hdf:d.params.defaults=[])
   (call:∀(w:World) (s₀ s₁:Shared) (mg mb:Str->Option Value) (fa:Addr) (o:Obj) (pm cd doc:Value) (a:Addr) (vs:List Value) (ns:List Int),
     Ground q loose [] XP w s₀ mg mb s₁.heap->YP w s₁.heap →
     s₁.heap.get? fa=some o->o.data=.func (docDef d.name d.params d.body d.scope pm cd doc)->s₁.heap.CodeRec cd d.name->mg d.name=some (.ref fa) →
     s₁.heap.get? a=some {cls:=.type "list",data:=.seq vs.toArray}->IntsAre vs ns->ns.length<=n->s₁.gens=#[] →
     codeAny (model l.prog w) callerA (.call (.ref fa) ⟨[.ref a],[]⟩) (fun r s'=>r=.ok (.ret (.bool true))/\OldK s₁.heap s'.heap/\s'.os=s₁.os/\AllBare s'.gens) s₁) :
   WalkO q loose XP YP l.row.toRowW d [] (fun f vs=>PySem.call f vs):=by
 intro w s₀ s₁ mg mb G Y fa o pm cd doc dV kV ho hd iO hD hmg hg args vals as yd hlay hrd hwl hlo
 obtain rfl:dV=.none:=Dflts.none hD hdf
 obtain rfl:kV=.none:=Dflts.noKw hD
 obtain⟨a,vs,ns,rfl,rfl,ZQ,hints,hlen⟩:=KH hn yd hwl
 refine enter_call (codeAny_mono (call w s₀ s₁ mg mb fa o pm cd doc a vs ns G Y ho (fd_plain hd) iO hmg ZQ hints hlen hg) fun r s' hq=>?_)
 obtain⟨rfl,h2,h3,h4⟩:=hq
 exact⟨.inl ⟨.bool true,.bool true,[],rfl,fun _=>rfl,.bool true,KJ l _,fun _=>⟨List.Pairwise.nil,fun _ hm=>(nomatch hm)⟩⟩,h2,h3,h4⟩
def ledger(h:Heap)(L d:Addr):List (Addr×Obj):=(List.range h.objs.size).filterMap fun a=>if a=L\/a=d then none else(h.get? a).map fun o=>(a,o)
end Att
namespace L2
open PySem PySem.Spec PyProof.Rows
theorem AA:∀{vs:List Value} {ns:List Int},IntsAre vs ns->Vals (ns.map V.int) vs
 | _,_,.nil=>.nil
 | _,_,.cons n t h=>.cons ⟨t,rfl⟩ (AA h)
def inClass(s:Stmt)(j:Nat):Stmt:=match s with
 | .ClassDef _ _ _ body _ _ _ _ _ _ _=>body.getD j (.Pass ⟨0,0,0,0⟩)
 | _=>.Pass ⟨0,0,0,0⟩
def sI(s:Stmt):Arguments:=match s with
 | .FunctionDef _ a _ _ _ _ _ _ _ _=>a
 | _=>{posonlyargs:=[],args:=[],vararg:=none,kwonlyargs:=[],kw_defaults:=[],kwarg:=none,defaults:=[]}
def ez(s:Stmt):List Stmt:=match s with
 | .FunctionDef _ _ b _ _ _ _ _ _ _=>b
 | _=>[]
def ak(s:Stmt):Scope:=match s with
 | .FunctionDef _ _ _ _ _ _ sc _ _ _=>sc
 | _=>{kind:=.function,names:=[],isGenerator:=false,isCoroutine:=false}
abbrev ou:Tv:=fun _ _ _ _ _ _=>False
abbrev E0:XK:=fun _ _ _=>False
variable{X:Cx}
theorem DX:Passes ou X E0:=fun _ _ _ _ _ _ _ h=>h.elim
structure kh(K:PySem.W.Frag)(x qual:Str)(st:Stmt)(f:Addr)(fd:FuncData):Prop where
 ex:∃(oc:Value) (od:Option Addr) (kV doc pm:Value) (an:Option Addr) (gB ct:Value) (KC:Array (Option Value)),
   fd=PySem.W.fnOf x qual (sI st) (ez st) (ak st) .none kV doc pm an gB ct/\K.lookup f=some ⟨oc,od,.func fd,KC⟩/\PySem.W.codeIn K gB qual=true
 kp:PySem.W.keepIn K (.ref f)=true
variable{P:Program}{w:World}{K:PySem.W.Frag}{mg:Str->Option Value}{base:Heap}
theorem kh.ok{x qual:Str}{st:Stmt}{f:Addr}{fd:FuncData}{N ps:List Str}{k:Nat}{sp:Sp}(F:kh K x qual st f fd)(S:aP N ps (ak st))(len:∀vs H Q E,sp vs H Q E->vs.length=ps.length)
   (DV:∀(gB:Value) (A:Around) (outer:List Env) (s:Shared) (H:Hp) (vs:List V) (Q:VK) (E:XK),dW k (A.deeper (envOfC qual (ak st) s.heap.objs.size f gB))->sp vs H Q E →
     ∃t,E6 (n9 ou P w K mg base N qual (ak st) f gB A outer s H E).E7 (ez st) t/\t {nx:=fun _ H'=>Q .non H',rt:=Q} (start N vs) H):g9 P w K mg base ou (k+1) f fd ps sp:=by
 obtain⟨oc,od,kV,doc,pm,an,gB,ct,KC,rfl,lk,iO⟩:=F.ex
 refine X4 lk iO S len fun A outer s H vs Q E hr E9=>?_
 obtain⟨t,h,q⟩:=DV gB A outer s H vs Q E hr E9
 exact⟨t,h.E7,q⟩
theorem kh.binds{x qual:Str}{st:Stmt}{f:Addr}{fd:FuncData}{ps:List Str}(F:kh K x qual st f fd)
   (h:∀(kV doc pm:Value) (an:Option Addr) (gB ct:Value) (us:List Value),us.length=ps.length->bindArgs (PySem.W.fnOf x qual (sI st) (ez st) (ak st) .none kV doc pm an gB ct) ⟨us,[]⟩=pure (ps.zip us)):Binds K fd ps []:=by
 obtain⟨oc,od,kV,doc,pm,an,gB,ct,KC,rfl,lk,iO⟩:=F.ex
 exact .all (h kV doc pm an gB ct)
theorem bR{x qual:Str}{st:Stmt}{f:Addr}{oc:Value}{od an:Option Addr}{KC:Array (Option Value)}{kV doc pm gB ct:Value}(l:K.lookup f=some ⟨oc,od,.func (PySem.W.fnOf x qual (sI st) (ez st) (ak st) .none kV doc pm an gB ct),KC⟩)
   (c:PySem.W.codeIn K gB qual=true) (k:PySem.W.keepIn K (.ref f)=true):kh K x qual st f (PySem.W.fnOf x qual (sI st) (ez st) (ak st) .none kV doc pm an gB ct):=⟨⟨oc,od,kV,doc,pm,an,gB,ct,KC,rfl,l,c⟩,k⟩
theorem g7{n:Nat}(h:n<=1000):n<sizeLine:=aoU h (by decide)
theorem NQ{A B:Prop}(h:B):if false=true then A else B:=by
 rw[amq amu]
 exact h
theorem NR{A B:Prop}(h:A):if true=true then A else B:=by
 rw[amx rfl]
 exact h
def aA(H H':Hp):Prop:=∀b o,H b=some o->H' b=some o
theorem aA.refl(H:Hp):aA H H:=fun _ _ h=>h
variable{H:Hp}
theorem aA.trans{H1 H2:Hp}(a:aA H H1)(b:aA H1 H2):aA H H2:=fun c o h=>b c o (a c o h)
variable{H':Hp}
theorem aA.free(e:aA H H'){l:Addr}(h:H' l=Option.none):H l=Option.none:=by
 cases q:H l with
 | none=>rfl
 | some o=>
   rw[e l o q]at h
   cases h
variable{a:Addr}
theorem aA.seq{xs:List V}(e:aA H H')(h:nV K H a xs):nV K H' a xs:=by
 rcases h with(h|⟨o,h⟩)|h
 . exact .inl (.inl (e _ _ h))
 . exact .inl (.inr ⟨o,e _ _ h⟩)
 . exact .inr h
section
variable{κ:Type}[DecidableEq κ]
def ki(kvs:List (κ×V))(k:κ):Option V:=(kvs.find? fun kv=>decide (kv.1=k)).map (·.2)
def putK(kvs:List (κ×V))(k:κ)(v:V):List (κ×V):=
 if (kvs.any fun kv=>decide (kv.1=k))=true then kvs.map (fun kv=>if kv.1=k then(kv.1,v) else kv) else kvs++[(k,v)]
theorem oF{p:κ×V}{r:List (κ×V)}{k:κ}(e:p.1=k):ki (p::r) k=some p.2:=by simp[ki,an3,e]
theorem oG{p:κ×V}{r:List (κ×V)}{k:κ}(e:¬ p.1=k):ki (p::r) k=ki r k:=by simp[ki,an3,e]
theorem sJ(k:κ):∀kvs:List (κ×V),(kvs.any fun kv=>decide (kv.1=k))=(ki kvs k).isSome
 | []=>rfl
 | p::r=>by
   rw[aoH]
   by_cases e:p.1=k
   . simp only[oF e,am6 e,Bool.true_or,Option.isSome_some]
   . rw[oG e,amN e,Bool.false_or];exact sJ k r
theorem vJ(kvs:List (κ×V))(k:κ)(v:V):(putK kvs k v).length<=kvs.length+1:=by
 unfold putK
 split
 . rw[al8];omega
 . rw[amn,am8,List.length_nil];omega
theorem NS{kvs:List (κ×V)}{k:κ}(v:V)(h:ki kvs k=none):putK kvs k v=kvs++[(k,v)]:=by
 unfold putK
 rw[sJ,h]
 exact amq (by decide)
theorem qP.KL{o:Option V}{u:Option Value}(r:qP o u):o.isSome=u.isSome:=by
 cases o with
 | none=>cases u with
   | none=>rfl
   | some _=>exact(show False from r).elim
 | some _=>cases u with
   | none=>exact(show False from r).elim
   | some _=>rfl
theorem qP.getD{o:Option V}{u:Option Value}{d:V}{d':Value}(r:qP o u)(rd:RelV d d'):RelV (o.getD d) (u.getD d'):=by
 cases o with
 | none=>cases u with
   | none=>exact rd
   | some _=>exact(show False from r).elim
 | some _=>cases u with
   | none=>exact(show False from r).elim
   | some _=>exact r
theorem KV.val{kvs:List (κ×V)}{vs:List (κ×Value)}(r:KV kvs vs)(k:κ):qP (ki kvs k) (valueAt vs k):=by
 unfold KV at r
 induction r with
 | nil=>exact True.intro
 | @cons p q ps qs h t ih=>
   obtain⟨h1,h2⟩:=h
   by_cases e:p.1=k
   . have e':q.1=k:=h1.symm.trans e
     have b:valueAt (q::qs) k=some q.2:=by simp[valueAt,an3,e']
     rw[oF e,b];exact h2
   . have e':¬ q.1=k:=fun z=>e (h1.trans z)
     have b:valueAt (q::qs) k=valueAt qs k:=by simp[valueAt,an3,e']
     rw[oG e,b];exact ih
theorem KV.any{kvs:List (κ×V)}{vs:List (κ×Value)}(r:KV kvs vs)(k:κ):(kvs.any fun kv=>decide (kv.1=k))=vs.any fun kv=>decide (kv.1=k):=by
 unfold KV at r
 induction r with
 | nil=>rfl
 | cons h t ih=>rw[aoH,aoH,ih,h.1]
theorem KV.repl{kvs:List (κ×V)}{vs:List (κ×Value)}(r:KV kvs vs)(k:κ){y:V}{u:Value}(ry:RelV y u) :
   KV (kvs.map fun kv=>if kv.1=k then(kv.1,y) else kv) (vs.map fun kv=>if kv.1=k then(kv.1,u) else kv):=by
 unfold KV at r ⊢
 induction r with
 | nil=>exact .nil
 | @cons p q ps qs h t ih=>
   rw[amB,amB]
   refine .cons ?_ ih
   obtain⟨h1,h2⟩:=h
   by_cases e:p.1=k
   . rw[amx e,amx (h1.symm.trans e)];exact⟨h1,ry⟩
   . rw[amq e,amq (fun z=>e (h1.trans z))];exact⟨h1,h2⟩
theorem KV.put{kvs:List (κ×V)}{vs:List (κ×Value)}(r:KV kvs vs)(k:κ){y:V}{u:Value}(ry:RelV y u):KV (putK kvs k y) (stored vs k u):=by
 unfold putK stored
 rw[r.any k]
 by_cases e:(vs.any fun kv=>decide (kv.1=k))=true
 . rw[amx e,amx e];exact r.repl k ry
 . rw[amq e,amq e];exact Paired.snoc r ⟨rfl,ry⟩
theorem KV.length{kvs:List (κ×V)}{vs:List (κ×Value)}(r:KV kvs vs):kvs.length=vs.length:=an9 r
end
variable{u:Value}
theorem NT{k:Key}(r:RelV (kV k) u):(fD P w).is k u=true:=by
 cases k with
 | inl i=>obtain⟨t,e⟩:=(show ∃t,u=Value.int i t from r);subst e;exact DK P w i t
 | inr x=>obtain⟨t,e⟩:=(show ∃t,u=Value.str x t from r);subst e;exact DL P w x t
theorem AF{P:Program}{w:World}:∀{ks:List Key} {us:List Value},Vals (ks.map kV) us->ItemsAre (fD P w) ks us
 | [],_,r=>by rw[anL]at r;cases r;exact .nil
 | k::ks,_,r=>by
   rw[amB]at r
   cases r with
   | cons h t=>exact .cons (NT h) (AF t)
abbrev KT(H:Hp):List (List Key×V)->List (List Key×Addr×Value)->Prop:=Paired fun p q=>p.1=q.1/\H q.2.1=some (.tup (p.1.map kV))/\RelV p.2 q.2.2
variable{kvs:List (List Key×V)}{xs:List (List Key×Addr×Value)}
theorem KT.val(r:KT H kvs xs)(k:List Key):qP (ki kvs k) ((atKey xs k).map (·.2)):=by
 induction r with
 | nil=>exact True.intro
 | @cons p q ps qs h t ih=>
   obtain⟨h1,_,h2⟩:=h
   by_cases e:p.1=k
   . have e':q.1=k:=h1.symm.trans e
     have b:atKey (q::qs) k=some q.2:=by simp[atKey,an3,e']
     rw[oF e,b];exact h2
   . have e':¬ q.1=k:=fun z=>e (h1.trans z)
     have b:atKey (q::qs) k=atKey qs k:=by simp[atKey,an3,e']
     rw[oG e,b];exact ih
variable{y:V}
theorem KT.repl(r:KT H kvs xs)(k:List Key)(ry:RelV y u) :
   KT H (kvs.map fun kv=>if kv.1=k then(kv.1,y) else kv) (xs.map (putAt k u)):=by
 induction r with
 | nil=>exact .nil
 | @cons p q ps qs h t ih=>
   rw[amB,amB]
   refine .cons ?_ ih
   obtain⟨h1,h2,h3⟩:=h
   unfold putAt
   by_cases e:p.1=k
   . rw[amx e,amx (h1.symm.trans e)];exact⟨h1,h2,ry⟩
   . rw[amq e,amq (fun z=>e (h1.trans z))];exact⟨h1,h2,h3⟩
theorem KT.put(r:KT H kvs xs)(k:List Key){b:Addr}(hb:H b=some (.tup (k.map kV)))(ry:RelV y u) :
   KT H (putK kvs k y) (storedH xs k b u):=by
 have e:(kvs.any fun kv=>decide (kv.1=k))=(atKey xs k).isSome:=by
   rw[sJ,(r.val k).KL,Option.isSome_map]
 unfold putK storedH
 rw[e]
 by_cases q:(atKey xs k).isSome=true
 . rw[amx q,amx q];exact r.repl k ry
 . rw[amq q,amq q];exact Paired.snoc r ⟨rfl,hb,ry⟩
theorem KT.keeps(r:KT H kvs xs)(ht:∀b ys,H b=some (.tup ys)->H' b=some (.tup ys)):KT H' kvs xs:=
 Paired.Y4 r fun _ _ z=>⟨z.1,ht _ _ z.2.1,z.2.2⟩
variable{h:Heap}
theorem X7{u:HO}(ok:qF P w H h)(e:Rd H a u):dw P w H h a u:=e.ok ok
theorem NW{kvs:List (Key×V)}(ok:qF P w H h)(e:Rd H a (.dK kvs)):kvs.length<=sizeLine/\(a==sysModules)=false/\∃vs,KV kvs vs/\h.DictOf (fD P w) a vs:=
 show dw P w H h a (.dK kvs) from X7 ok e
theorem adX{kvs:List (Key×V)}(ok:qF P w H h)(e:H a=some (.dK kvs)):kvs.length<=sizeLine/\(a==sysModules)=false/\∃vs,KV kvs vs/\h.DictOf (fD P w) a vs:=NW ok (.inl e)
theorem FL{ks:List Key}(ok:qF P w H h)(e:H a=some (.tup (ks.map kV))):(tupleKind (fD P w)).is h ks a:=by
 obtain⟨_,its,r,o,h1,h2,n,h3⟩:=(show dw P w H h a (.tup (ks.map kV)) from ok a _ e)
 exact⟨o,its.toArray,n,h1,h2,h3,by simpa using AF r⟩
theorem vK(ok:qF P w H h)(e:Rd H a (.dT kvs)):kvs.length<=sizeLine/\(a==sysModules)=false ∧
   ∃xs,KT H kvs xs/\h.DictOfH (tupleKind (fD P w)) a xs:=by
 obtain⟨z,y,xs,r,o,es,ep,h1,h2,h3,h4,h5⟩:=(show dw P w H h a (.dT kvs) from X7 ok e)
 refine⟨z,y,xs,r,o,es,ep,h1,h2,h3,h4,fun x hx=>?_,h5⟩
 have all:∀{l:List (List Key×V)} {m:List (List Key×Addr×Value)},KT H l m->∀x∈m,(tupleKind (fD P w)).is h x.1 x.2.1:=by
   intro l m q
   induction q with
   | nil=>intro x hx;exact nomatch hx
   | @cons p q ps qs hq t ih=>
     intro x hx
     rcases ami.mp hx with e|hx
     . subst e
       exact FL ok (by rw[← hq.1];exact hq.2.1)
     . exact ih x hx
 exact all r x hx
theorem adY(ok:qF P w H h)(e:H a=some (.dT kvs)):kvs.length<=sizeLine/\(a==sysModules)=false ∧
   ∃xs,KT H kvs xs/\h.DictOfH (tupleKind (fD P w)) a xs:=vK ok (.inl e)
def FN(H:Hp)(a:Addr)(y:V)(r:Option V):Prop:=
 (∃kvs k,Rd H a (.dK kvs)/\y=kV k/\r=ki kvs k)\/∃kvs k b,Rd H a (.dT kvs)/\y=.ref b/\H b=some (.tup (k.map kV))/\r=ki kvs k
def KN(H:Hp)(a:Addr)(y v:V)(H':Hp):Prop:=
 (∃kvs k,H a=some (.dK kvs)/\y=kV k/\kvs.length<sizeLine/\H'=upd H a (.dK (putK kvs k v))) ∨
 ∃kvs k b,H a=some (.dT kvs)/\y=.ref b/\H b=some (.tup (k.map kV))/\kvs.length<sizeLine/\H'=upd H a (.dT (putK kvs k v))
theorem KN.t{b:Addr}{k:List Key}{v:V}(e:H a=some (.dT kvs))(eb:H b=some (.tup (k.map kV)))(hl:kvs.length<sizeLine) :
   KN H a (.ref b) v (upd H a (.dT (putK kvs k v))):=.inr ⟨kvs,k,b,e,rfl,eb,hl,rfl⟩
variable{pins:List (Addr×Obj)}{σ:St}{s:Shared}{v:V}{r:Value}{o:Option V}{A:Around}{E:Value->Shared->Prop}
theorem Inv.big(I:Inv X pins σ H s):sysModules<s.heap.objs.size:=by
 have h:mainGlobals<s.heap.objs.size:=(I.mod.glob.keeps I.bk).lt
 exact Nat.lt_trans (by decide) h
theorem KP{Q:Value->Shared->Prop}(hu:A.units+1<cLine)(I:Inv X pins σ H s)(g:FN H a y (some v))(ry:RelV y u)(h:∀w' s',Inv X pins σ H s'->RelV v w'->Q w' s') :
   wpAny (model X.prog X.w) A (getItem (.ref a) u) Q E s:=by
 rcases g with⟨kvs,k,e,ey,l⟩|⟨kvs,k,b,e,ey,eb,l⟩
 . subst ey
   obtain⟨z,hd,vs,rel,dd⟩:=NW I.cQ e
   obtain⟨w',hw,KG⟩:=qP.some_of (v:=v) (o:=valueAt vs k) (by rw[l];exact rel.val k)
   exact wpAny_getItem_of (NT ry) dd.mapOf hw (h w' _ (I.tok _) KG)
 . subst ey
   cases (show u=Value.ref b from ry)
   obtain⟨z,hd,xs,rel,dd⟩:=vK I.cQ e
   obtain⟨w',hw,KG⟩:=qP.some_of (v:=v) (o:=(atKey xs k).map (·.2)) (by rw[l];exact rel.val k)
   obtain⟨p,hp,Fb⟩:=amG.mp hw
   refine wpAny_getItem_heap (tupleKind_room_in1 hu) (FL I.cQ eb) dd hp ?_
   rw[Fb]
   exact h w' _ (I.tok _) KG
theorem sL{h':Heap}{t':Nat}{ob:HO}(I:Inv X pins σ H s)(mu:Mut (H a))(hs:Heap.SameBut a s.heap h')(he:∃q,h'.get? a=some q)(new:dw X.prog X.w (upd H a ob) h' a ob) :
   Inv X pins σ (upd H a ob) {s with heap:=h',toks:=t'}:=
 I.write (x:=a) (e:=a) mu (.inl rfl) (fun b q hb z=>(hs.2 b hb).trans z) he new
theorem ZR{h':Heap}{kvs:List (Key×V)}{vs:List (Key×Value)}(z:kvs.length<=sizeLine)(hd:(a==sysModules)=false)(rel:KV kvs vs)(dd:h'.DictOf (fD P w) a vs) :
   dw P w H' h' a (.dK kvs):=⟨z,hd,vs,rel,dd⟩
theorem KQ{Q:Unit->Shared->Prop}(hu:A.units+1<cLine)(I:Inv X pins σ H s)(g:KN H a y v H')(ry:RelV y u)(rv:RelV v r)(h:∀s',Inv X pins σ H' s'->Q () s') :
   wpAny (model X.prog X.w) A (setItem (.ref a) u r) Q E s:=by
 rcases g with⟨kvs,k,e,ey,l,eH⟩|⟨kvs,k,b,e,ey,eb,l,eH⟩
 . subst ey eH
   obtain⟨z,hd,vs,rel,dd⟩:=adX I.cQ e
   have hz:vs.length<=sizeLine:=by rw[← rel.length];exact z
   have hl:(putK kvs k v).length<=sizeLine:=by have:=vJ kvs k v;omega
   refine wpAny_setItem_pairs (hsz:=hz) (NT ry) dd fun h' Fd hs=>h _ ?_
   have he:∃q,h'.get? a=some q:=let ⟨q,_,_,hq,_⟩:=Fd;⟨q,hq⟩
   exact sL I (by rw[e];exact True.intro) hs he (ZR hl hd (rel.put k rv) Fd)
 . subst ey eH
   cases (show u=Value.ref b from ry)
   obtain⟨z,hd,xs,rel,dd⟩:=adY I.cQ e
   have hz:xs.length<=sizeLine:=by rw[← an9 rel];exact z
   have hl:(putK kvs k v).length<=sizeLine:=by have:=vJ kvs k v;omega
   refine wpAny_setItem_heap (hsz:=hz) (tupleKind_room_in1 hu) (FL I.cQ eb) dd fun h' Fd hs=>h _ ?_
   obtain⟨q,es,ep,hq,h2,h3,h4,_,h5⟩:=Fd
   refine sL I (by rw[e];exact True.intro) hs ⟨q,hq⟩ ⟨hl,hd,_,(rel.put k eb rv).keeps fun c ys ec=>?_,q,es,ep,hq,h2,h3,h4,h5⟩
   rw[ao (ade ec e (fun z=>nomatch z))]
   exact ec
def KR(i:Expr):Prop:=∀ov iv,subscripted i false ov iv=operate [ov,iv] (getItem ov iv)
theorem Iz{prog:Program}{env:Env}{value slice:Expr}{pos:Pos}{T id:String}{Q:Value->Shared->Prop}
   (hl:typeLookup (.type T) "__getitem__" = pure (some (.builtin id))) (hs:KR slice)
   (h:wpAny (model prog w) A (eval value env) (fun o s₁=>wpAny (model prog w) A (eval slice env) (fun i s₂=>s₂.TypeIs o T/\wpAny (model prog w) A (getItem o i) Q E s₂) E s₁) E s) :
   wpAny (model prog w) A (eval (.Subscript value slice pos) env) Q E s:=by
 refine Subscript_ (anC h (fun o s₁ h₁=>anC h₁ (fun i s₂ h₂=>?_) fun _ _ x=>x) fun _ _ x=>x)
 obtain⟨hT,h₂⟩:=h₂
 unfold subscriptTail
 refine al6 ?_
 rw[getitemInPython_of_ne hT.not_modules]
 refine al6 (an4 hT hl ?_)
 have fin:wpAny (model prog w) A (subscripted slice false o i) (fun r s₃=>wpAny (model prog w) A (letTemporaryGo value o r >>= fun _=>pure r) Q E s₃) E s₂:=by
   rw[hs o i]
   exact wpAny_operating (anC h₂ (fun r s₃ h₃=>al6 (wpAny_letTemporaryGo (amd h₃))) fun _ _ x=>x)
 first
   | exact amd (al6 fin)
   | exact al6 (amd (al6 fin))
   | exact al6 fin
theorem DY(I:Inv X pins σ H s)(g:FN H a y o):s.TypeIs (.ref a) "dict":=by
 rcases g with⟨kvs,k,e,_,_⟩|⟨kvs,k,b,e,_,_,_⟩
 . obtain⟨_,_,vs,_,dd⟩:=NW I.cQ e
   exact dd.typeIs
 . obtain⟨_,_,xs,_,dd⟩:=vK I.cQ e
   exact dd.typeIs
def adZ(td ty:TE):TE:=fun σ H Q=>td σ H fun x H1=>ty σ H1 fun y H2=>∃a v,x=.ref a/\FN H2 a y (some v)/\Q v H2
def ad0(td ty tv:TE):TS:=fun D σ H=>tv σ H fun v H1=>td σ H1 fun x H2=>ty σ H2 fun y H3=>∃a H4,x=.ref a/\KN H3 a y v H4/\D.nx σ H4
variable{o i value:Expr}{pos pos':Pos}{td ty tv:TE}
theorem IA(hu:X.A.units+1<cLine)(ho:PE X o td)(hi:PE X i ty)(hs:KR i):PE X (.Subscript o i pos) (adZ td ty):=by
 intro pins s σ H Q I h
 refine Iz PySem.F.slot_dict_getitem.lookup hs (dz (ho pins s σ H _ I h) fun u s1 ⟨x,H1,I1,rx,q1⟩=>dz (hi pins s1 σ H1 _ I1 q1) fun iv s2 zz=>?_)
 obtain⟨y,H2,I2,ry,a,v,ex,g,q2⟩:=zz
 subst ex
 obtain rfl:u=Value.ref a:=rx
 exact⟨DY I2 g,KP hu I2 g ry fun w' s3 I3 KG=>⟨v,H2,I3,KG,q2⟩⟩
theorem IB(hu:X.A.units+1<cLine)(ho:PE X o td)(hi:PE X i ty)(hv:PE X value tv)(hs:swapsWith value (some (.Subscript o i pos')) pos.line X.env=pure false) :
   PS X (.Assign [.Subscript o i pos'] value pos) (ad0 td ty tv):=by
 intro pins s σ H D I h
 refine wpAny_Assign_Subscript (dz (hv pins s σ H _ I h) fun r s1 ⟨v,H1,I1,rv,q1⟩=>dz (ho pins s1 σ H1 _ I1 q1) fun u s2 ⟨x,H2,I2,rx,q2⟩=>dz (hi pins s2 σ H2 _ I2 q2) fun iv s3 zz=>?_) hs
 obtain⟨y,H3,I3,ry,a,H4,ex,g,q3⟩:=zz
 subst ex
 obtain rfl:u=Value.ref a:=rx
 exact KQ hu I3 g ry rv fun s4 I4=>⟨σ,H4,I4,q3⟩
theorem NX(h:Heap)(hb:sysModules<h.objs.size):dw P w H (h.push {cls:=.type "dict",data:=.dict #[]}) h.objs.size (.dT []):=
 ⟨amR _,anu.mpr (anP (amV hb)),[],.nil,_,#[],0,amD _ rfl,⟨rfl,rfl,rfl⟩,rfl,rfl,ang⟩
def ZS:TE:=fun _ H Q=>∀p,H p=none->Q (.ref p) (upd H p (.dT []))
theorem NZ:PE X (.Dict [] [] pos) ZS:=fun pins s σ H Q I h=>
 wpAny_Dict_empty ⟨.ref s.heap.objs.size,_,I.laid (a:=s.heap.objs.size) (o:=.dT []) (t':=s.toks) (fun _ _ q=>amo _ q) (aml _) (NX s.heap I.big),rfl,h _ (I.cQ.fresh (aml _))⟩
end L2
namespace L3
open PySem PySem.Spec PyProof.Rows L2
inductive D where
 | non|bl (b:Bool)|int (i:Int)|str (x:Str)
 | tup (ds:List D)|lst (ds:List D)|ins (c:Str) (fs:List (Str×D))|rX (kvs:List (Key×D))
 | dct (kvs:List (List Key×D))
 | any
 | val (v:V)
 | gF (w:World) (ds es:List D)
inductive T where
 | sh (d:D)|tup (ts:List T)|lst (ts:List T)|ins (c:Str) (fs:List (Str×T))|rX (kvs:List (Key×D))|dct (kvs:List (List Key×T))
 | pin (x:Addr) (t:T)
 | gF (w:World) (ds es:List D)
mutual
def T.bP:T->D
 | .sh d=>d
 | .tup ts=>.tup (dM ts)
 | .lst ts=>.lst (dM ts)
 | .ins c fs=>.ins c (ye fs)
 | .rX kvs=>.rX kvs
 | .dct kvs=>.dct (qT kvs)
 | .pin _ t=>t.bP
 | .gF w ds es=>.gF w ds es
def T.dM:List T->List D
 | []=>[]
 | t::ts=>t.bP::T.dM ts
def T.ye:List (Str×T)->List (Str×D)
 | []=>[]
 | (x,t)::fs=>(x,t.bP)::T.ye fs
def T.qT:List (List Key×T)->List (List Key×D)
 | []=>[]
 | (x,t)::fs=>(x,t.bP)::T.qT fs
end
mutual
def D.sG(w:World):D->Int
 | .int i=>hashInt i
 | .str x => hashStr w x
 | .tup ds=>reduceHash (Builtin.Tuple.tupleHashOf (D.qU w ds))
 | _=>0
def D.qU(w:World):List D->List Int
 | []=>[]
 | d::ds=>d.sG w::D.qU w ds
end
def uB(w:World)(a:Addr)(ds:List D)(vs us:List V)(h:Heap):Prop:=
 (a==sysModules)=false/\∃(xs:List (D×Addr×Value)) (o:Obj) (es:Array DictEntry) (ep:Nat),h.get? a=some o/\o.ExactDict/\o.data=.dict es ep/\es.toList=xs.map (fun x=>⟨x.1.sG w,.ref x.2.1,x.2.2⟩)/\xs.map (·.1)=ds/\xs.map (fun x=>V.ref x.2.1)=vs/\Vals us (xs.map fun x=>x.2.2)
variable(K:PySem.W.Frag)(CL:Str->Addr)
mutual
inductive bu(Z:Hp):D->V->Prop where
 | non:bu Z .non .non
 | bl (b:Bool):bu Z (.bl b) (.bl b)
 | int (i:Int):bu Z (.int i) (.int i)
 | str (x:Str):bu Z (.str x) (.str x)
 | any (v:V):bu Z .any v
 | val (v:V):bu Z (.val v) v
 | tup {a:Addr} {vs:List V} {ds:List D}:om K Z a vs->ay Z ds vs->bu Z (.tup ds) (.ref a)
 | lst {a:Addr} {vs:List V} {ds:List D}:nV K Z a vs->ay Z ds vs->bu Z (.lst ds) (.ref a)
 | ins {a dx:Addr} {c:Str} {gs:List (Str×V)} {fs:List (Str×D)}:Z a=some (.ins (CL c) dx gs)->jj Z fs gs->bu Z (.ins c fs) (.ref a)
 | rX {a:Addr} {gs:List (Key×V)} {fs:List (Key×D)}:Z a=some (.dK gs)->cL Z fs gs->bu Z (.rX fs) (.ref a)
 | dct {a:Addr} {gs:List (List Key×V)} {fs:List (List Key×D)}:Rd Z a (.dT gs)->cj Z fs gs->bu Z (.dct fs) (.ref a)
 | gF {a:Addr} {w:World} {vs us:List V} {ds es:List D}:Z a=some (.ext (uB w a ds vs us))->ay Z ds vs->ay Z es us->bu Z (.gF w ds es) (.ref a)
inductive ay(Z:Hp):List D->List V->Prop where
 | nil:ay Z [] []
 | cons {d:D} {v:V} {ds:List D} {vs:List V}:bu Z d v->ay Z ds vs->ay Z (d::ds) (v::vs)
inductive jj(Z:Hp):List (Str×D)->List (Str×V)->Prop where
 | nil:jj Z [] []
 | cons {x:Str} {d:D} {v:V} {ds:List (Str×D)} {vs:List (Str×V)}:bu Z d v->jj Z ds vs->jj Z ((x,d)::ds) ((x,v)::vs)
inductive cL(Z:Hp):List (Key×D)->List (Key×V)->Prop where
 | nil:cL Z [] []
 | cons {x:Key} {d:D} {v:V} {ds:List (Key×D)} {vs:List (Key×V)}:bu Z d v->cL Z ds vs->cL Z ((x,d)::ds) ((x,v)::vs)
inductive cj(Z:Hp):List (List Key×D)->List (List Key×V)->Prop where
 | nil:cj Z [] []
 | cons {x:List Key} {d:D} {v:V} {ds:List (List Key×D)} {vs:List (List Key×V)}:bu Z d v->cj Z ds vs->cj Z ((x,d)::ds) ((x,v)::vs)
end
mutual
inductive bB(H Z:Hp):T->V->List Addr->Prop where
 | sh {d:D} {v:V}:bu K CL Z d v->bB H Z (.sh d) v []
 | tup {a:Addr} {vs:List V} {ts:List T} {fp:List Addr}:Z a=some (.tup vs)->aO H Z ts vs fp->bB H Z (.tup ts) (.ref a) fp
 | lst {a:Addr} {vs:List V} {ts:List T} {fp:List Addr}:H a=some (.lst vs)->aO H Z ts vs fp->bB H Z (.lst ts) (.ref a) (a::fp)
 | ins {a dx:Addr} {c:Str} {gs:List (Str×V)} {fs:List (Str×T)} {fp:List Addr}:H a=some (.ins (CL c) dx gs)->c9 H Z fs gs fp->bB H Z (.ins c fs) (.ref a) (a::fp)
 | rX {a:Addr} {gs:List (Key×V)} {kvs:List (Key×D)}:H a=some (.dK gs)->cL K CL Z kvs gs->bB H Z (.rX kvs) (.ref a) [a]
 | dct {a:Addr} {gs:List (List Key×V)} {kvs:List (List Key×T)} {fp:List Addr}:H a=some (.dT gs)->cM H Z kvs gs fp->bB H Z (.dct kvs) (.ref a) (a::fp)
 | pin {x:Addr} {t:T} {fp:List Addr}:bB H Z t (.ref x) fp->bB H Z (.pin x t) (.ref x) fp
 | gF {a:Addr} {w:World} {vs us:List V} {ds es:List D}:H a=some (.ext (uB w a ds vs us))->ay K CL Z ds vs->ay K CL Z es us->bB H Z (.gF w ds es) (.ref a) [a]
inductive aO(H Z:Hp):List T->List V->List Addr->Prop where
 | nil:aO H Z [] [] []
 | cons {t:T} {v:V} {ts:List T} {vs:List V} {fp gp:List Addr}:bB H Z t v fp->aO H Z ts vs gp->aO H Z (t::ts) (v::vs) (fp++gp)
inductive c9(H Z:Hp):List (Str×T)->List (Str×V)->List Addr->Prop where
 | nil:c9 H Z [] [] []
 | cons {x:Str} {t:T} {v:V} {ts:List (Str×T)} {vs:List (Str×V)} {fp gp:List Addr}:bB H Z t v fp->c9 H Z ts vs gp->c9 H Z ((x,t)::ts) ((x,v)::vs) (fp++gp)
inductive cM(H Z:Hp):List (List Key×T)->List (List Key×V)->List Addr->Prop where
 | nil:cM H Z [] [] []
 | cons {x:List Key} {t:T} {v:V} {ts:List (List Key×T)} {vs:List (List Key×V)} {fp gp:List Addr}:bB H Z t v fp->cM H Z ts vs gp->cM H Z ((x,t)::ts) ((x,v)::vs) (fp++gp)
end
inductive fE(H Z:Hp):List (Option T)->L2.St->List Addr->Prop where
 | nil:fE H Z [] [] []
 | skip {o:Option V} {δ:List (Option T)} {σ:L2.St} {fp:List Addr}:fE H Z δ σ fp->fE H Z (none::δ) (o::σ) fp
 | cons {t:T} {v:V} {δ:List (Option T)} {σ:L2.St} {fp gp:List Addr}:bB K CL H Z t v fp->fE H Z δ σ gp->fE H Z (some t::δ) (some v::σ) (fp++gp)
variable{K:PySem.W.Frag}{CL:Str->Addr}{H H':Hp}{a:Addr}
theorem Rd.mono{u:HO}(e:aA H H')(h:Rd H a u):Rd H' a u:=h.imp (e _ _) fun⟨o,q⟩=>⟨o,e _ _ q⟩
variable{xs:List V}
theorem aA.wV(e:aA H H')(h:om K H a xs):om K H' a xs:=by
 rcases h with(h|⟨o,h⟩)|h
 . exact .inl (.inl (e _ _ h))
 . exact .inl (.inr ⟨o,e _ _ h⟩)
 . exact .inr h
variable{Z Z':Hp}{v:V}
theorem bu.mono(e:aA Z Z'){d:D}(h:bu K CL Z d v):bu K CL Z' d v:=
 bu.rec (motive_1:=fun d v _=>bu K CL Z' d v) (motive_2:=fun d v _=>ay K CL Z' d v) (motive_3:=fun d v _=>jj K CL Z' d v) (motive_4:=fun d v _=>cL K CL Z' d v) (motive_5:=fun d v _=>cj K CL Z' d v)
   .non .bl .int .str .any .val (fun h _ r=>.tup (aA.wV e h) r) (fun h _ r=>.lst (e.seq h) r) (fun h _ r=>.ins (e _ _ h) r) (fun h _ r=>.rX (e _ _ h) r) (fun h _ r=>.dct (Rd.mono e h) r) (fun h _ _ r q=>.gF (e _ _ h) r q) .nil (fun _ _ h r=>.cons h r) .nil (fun _ _ h r=>.cons h r) .nil (fun _ _ h r=>.cons h r) .nil (fun _ _ h r=>.cons h r) h
theorem ay.mono(e:aA Z Z'){d:List D}{v:List V}(h:ay K CL Z d v):ay K CL Z' d v:=
 ay.rec (motive_1:=fun d v _=>bu K CL Z' d v) (motive_2:=fun d v _=>ay K CL Z' d v) (motive_3:=fun d v _=>jj K CL Z' d v) (motive_4:=fun d v _=>cL K CL Z' d v) (motive_5:=fun d v _=>cj K CL Z' d v)
   .non .bl .int .str .any .val (fun h _ r=>.tup (aA.wV e h) r) (fun h _ r=>.lst (e.seq h) r) (fun h _ r=>.ins (e _ _ h) r) (fun h _ r=>.rX (e _ _ h) r) (fun h _ r=>.dct (Rd.mono e h) r) (fun h _ _ r q=>.gF (e _ _ h) r q) .nil (fun _ _ h r=>.cons h r) .nil (fun _ _ h r=>.cons h r) .nil (fun _ _ h r=>.cons h r) .nil (fun _ _ h r=>.cons h r) h
theorem cL.mono(e:aA Z Z'){d:List (Key×D)}{v:List (Key×V)}(h:cL K CL Z d v):cL K CL Z' d v:=
 cL.rec (motive_1:=fun d v _=>bu K CL Z' d v) (motive_2:=fun d v _=>ay K CL Z' d v) (motive_3:=fun d v _=>jj K CL Z' d v) (motive_4:=fun d v _=>cL K CL Z' d v) (motive_5:=fun d v _=>cj K CL Z' d v)
   .non .bl .int .str .any .val (fun h _ r=>.tup (aA.wV e h) r) (fun h _ r=>.lst (e.seq h) r) (fun h _ r=>.ins (e _ _ h) r) (fun h _ r=>.rX (e _ _ h) r) (fun h _ r=>.dct (Rd.mono e h) r) (fun h _ _ r q=>.gF (e _ _ h) r q) .nil (fun _ _ h r=>.cons h r) .nil (fun _ _ h r=>.cons h r) .nil (fun _ _ h r=>.cons h r) .nil (fun _ _ h r=>.cons h r) h
theorem cj.mono(e:aA Z Z'){d:List (List Key×D)}{v:List (List Key×V)}(h:cj K CL Z d v):cj K CL Z' d v:=
 cj.rec (motive_1:=fun d v _=>bu K CL Z' d v) (motive_2:=fun d v _=>ay K CL Z' d v) (motive_3:=fun d v _=>jj K CL Z' d v) (motive_4:=fun d v _=>cL K CL Z' d v) (motive_5:=fun d v _=>cj K CL Z' d v)
   .non .bl .int .str .any .val (fun h _ r=>.tup (aA.wV e h) r) (fun h _ r=>.lst (e.seq h) r) (fun h _ r=>.ins (e _ _ h) r) (fun h _ r=>.rX (e _ _ h) r) (fun h _ r=>.dct (Rd.mono e h) r) (fun h _ _ r q=>.gF (e _ _ h) r q) .nil (fun _ _ h r=>.cons h r) .nil (fun _ _ h r=>.cons h r) .nil (fun _ _ h r=>.cons h r) .nil (fun _ _ h r=>.cons h r) h
variable{t:T}{fp:List Addr}
theorem bB.mono(e:aA Z Z')(k:∀a∈fp,H' a=H a)(h:bB K CL H Z t v fp):bB K CL H' Z' t v fp:=
 bB.rec (motive_1:=fun t v fp _=>(∀a∈fp,H' a=H a)->bB K CL H' Z' t v fp) (motive_2:=fun t v fp _=>(∀a∈fp,H' a=H a)->aO K CL H' Z' t v fp) (motive_3:=fun t v fp _=>(∀a∈fp,H' a=H a)->c9 K CL H' Z' t v fp) (motive_4:=fun t v fp _=>(∀a∈fp,H' a=H a)->cM K CL H' Z' t v fp)
   (fun h _=>.sh (h.mono e)) (fun h _ r k=>.tup (e _ _ h) (r k)) (fun h _ r k=>.lst ((k _ ama).trans h) (r fun a ha=>k a (ame _ ha))) (fun h _ r k=>.ins ((k _ ama).trans h) (r fun a ha=>k a (ame _ ha))) (fun h f k=>.rX ((k _ ama).trans h) (cL.mono e f)) (fun h _ r k=>.dct ((k _ ama).trans h) (r fun a ha=>k a (ame _ ha))) (fun _ r k=>.pin (r k)) (fun h f g k=>.gF ((k _ ama).trans h) (ay.mono e f) (ay.mono e g)) (fun _=>.nil) (fun _ _ h r k=>.cons (h fun a ha=>k a (amk _ ha)) (r fun a ha=>k a (amc _ ha))) (fun _=>.nil) (fun _ _ h r k=>.cons (h fun a ha=>k a (amk _ ha)) (r fun a ha=>k a (amc _ ha))) (fun _=>.nil) (fun _ _ h r k=>.cons (h fun a ha=>k a (amk _ ha)) (r fun a ha=>k a (amc _ ha))) h k
theorem aO.mono(e:aA Z Z'){t:List T}{v:List V}(k:∀a∈fp,H' a=H a)(h:aO K CL H Z t v fp):aO K CL H' Z' t v fp:=
 aO.rec (motive_1:=fun t v fp _=>(∀a∈fp,H' a=H a)->bB K CL H' Z' t v fp) (motive_2:=fun t v fp _=>(∀a∈fp,H' a=H a)->aO K CL H' Z' t v fp) (motive_3:=fun t v fp _=>(∀a∈fp,H' a=H a)->c9 K CL H' Z' t v fp) (motive_4:=fun t v fp _=>(∀a∈fp,H' a=H a)->cM K CL H' Z' t v fp)
   (fun h _=>.sh (h.mono e)) (fun h _ r k=>.tup (e _ _ h) (r k)) (fun h _ r k=>.lst ((k _ ama).trans h) (r fun a ha=>k a (ame _ ha))) (fun h _ r k=>.ins ((k _ ama).trans h) (r fun a ha=>k a (ame _ ha))) (fun h f k=>.rX ((k _ ama).trans h) (cL.mono e f)) (fun h _ r k=>.dct ((k _ ama).trans h) (r fun a ha=>k a (ame _ ha))) (fun _ r k=>.pin (r k)) (fun h f g k=>.gF ((k _ ama).trans h) (ay.mono e f) (ay.mono e g)) (fun _=>.nil) (fun _ _ h r k=>.cons (h fun a ha=>k a (amk _ ha)) (r fun a ha=>k a (amc _ ha))) (fun _=>.nil) (fun _ _ h r k=>.cons (h fun a ha=>k a (amk _ ha)) (r fun a ha=>k a (amc _ ha))) (fun _=>.nil) (fun _ _ h r k=>.cons (h fun a ha=>k a (amk _ ha)) (r fun a ha=>k a (amc _ ha))) h k
theorem c9.mono(e:aA Z Z'){t:List (Str×T)}{v:List (Str×V)}(k:∀a∈fp,H' a=H a)(h:c9 K CL H Z t v fp):c9 K CL H' Z' t v fp:=
 c9.rec (motive_1:=fun t v fp _=>(∀a∈fp,H' a=H a)->bB K CL H' Z' t v fp) (motive_2:=fun t v fp _=>(∀a∈fp,H' a=H a)->aO K CL H' Z' t v fp) (motive_3:=fun t v fp _=>(∀a∈fp,H' a=H a)->c9 K CL H' Z' t v fp) (motive_4:=fun t v fp _=>(∀a∈fp,H' a=H a)->cM K CL H' Z' t v fp)
   (fun h _=>.sh (h.mono e)) (fun h _ r k=>.tup (e _ _ h) (r k)) (fun h _ r k=>.lst ((k _ ama).trans h) (r fun a ha=>k a (ame _ ha))) (fun h _ r k=>.ins ((k _ ama).trans h) (r fun a ha=>k a (ame _ ha))) (fun h f k=>.rX ((k _ ama).trans h) (cL.mono e f)) (fun h _ r k=>.dct ((k _ ama).trans h) (r fun a ha=>k a (ame _ ha))) (fun _ r k=>.pin (r k)) (fun h f g k=>.gF ((k _ ama).trans h) (ay.mono e f) (ay.mono e g)) (fun _=>.nil) (fun _ _ h r k=>.cons (h fun a ha=>k a (amk _ ha)) (r fun a ha=>k a (amc _ ha))) (fun _=>.nil) (fun _ _ h r k=>.cons (h fun a ha=>k a (amk _ ha)) (r fun a ha=>k a (amc _ ha))) (fun _=>.nil) (fun _ _ h r k=>.cons (h fun a ha=>k a (amk _ ha)) (r fun a ha=>k a (amc _ ha))) h k
theorem cM.mono(e:aA Z Z'){t:List (List Key×T)}{v:List (List Key×V)}(k:∀a∈fp,H' a=H a)(h:cM K CL H Z t v fp):cM K CL H' Z' t v fp:=
 cM.rec (motive_1:=fun t v fp _=>(∀a∈fp,H' a=H a)->bB K CL H' Z' t v fp) (motive_2:=fun t v fp _=>(∀a∈fp,H' a=H a)->aO K CL H' Z' t v fp) (motive_3:=fun t v fp _=>(∀a∈fp,H' a=H a)->c9 K CL H' Z' t v fp) (motive_4:=fun t v fp _=>(∀a∈fp,H' a=H a)->cM K CL H' Z' t v fp)
   (fun h _=>.sh (h.mono e)) (fun h _ r k=>.tup (e _ _ h) (r k)) (fun h _ r k=>.lst ((k _ ama).trans h) (r fun a ha=>k a (ame _ ha))) (fun h _ r k=>.ins ((k _ ama).trans h) (r fun a ha=>k a (ame _ ha))) (fun h f k=>.rX ((k _ ama).trans h) (cL.mono e f)) (fun h _ r k=>.dct ((k _ ama).trans h) (r fun a ha=>k a (ame _ ha))) (fun _ r k=>.pin (r k)) (fun h f g k=>.gF ((k _ ama).trans h) (ay.mono e f) (ay.mono e g)) (fun _=>.nil) (fun _ _ h r k=>.cons (h fun a ha=>k a (amk _ ha)) (r fun a ha=>k a (amc _ ha))) (fun _=>.nil) (fun _ _ h r k=>.cons (h fun a ha=>k a (amk _ ha)) (r fun a ha=>k a (amc _ ha))) (fun _=>.nil) (fun _ _ h r k=>.cons (h fun a ha=>k a (amk _ ha)) (r fun a ha=>k a (amc _ ha))) h k
theorem bB.there(h:bB K CL H Z t v fp):∀a∈fp,∃o,H a=some o:=
 bB.rec (motive_1:=fun t v fp _=>∀a∈fp,∃o,H a=some o) (motive_2:=fun t v fp _=>∀a∈fp,∃o,H a=some o) (motive_3:=fun t v fp _=>∀a∈fp,∃o,H a=some o) (motive_4:=fun t v fp _=>∀a∈fp,∃o,H a=some o)
   (fun _ a ha=>absurd ha amw) (fun _ _ r=>r) (fun h _ r a ha=>(ami.mp ha).elim (fun q=>⟨_,q▸h⟩) (r a)) (fun h _ r a ha=>(ami.mp ha).elim (fun q=>⟨_,q▸h⟩) (r a)) (fun h _ a ha=>(ami.mp ha).elim (fun q=>⟨_,q▸h⟩) (fun q=>absurd q amw)) (fun h _ r a ha=>(ami.mp ha).elim (fun q=>⟨_,q▸h⟩) (r a)) (fun _ r=>r) (fun h _ _ a ha=>(ami.mp ha).elim (fun q=>⟨_,q▸h⟩) (fun q=>absurd q amw)) (fun a ha=>absurd ha amw) (fun _ _ h r a ha=>(amr.mp ha).elim (h a) (r a)) (fun a ha=>absurd ha amw) (fun _ _ h r a ha=>(amr.mp ha).elim (h a) (r a)) (fun a ha=>absurd ha amw) (fun _ _ h r a ha=>(amr.mp ha).elim (h a) (r a)) h
theorem aO.there{t:List T}{v:List V}(h:aO K CL H Z t v fp):∀a∈fp,∃o,H a=some o:=
 aO.rec (motive_1:=fun t v fp _=>∀a∈fp,∃o,H a=some o) (motive_2:=fun t v fp _=>∀a∈fp,∃o,H a=some o) (motive_3:=fun t v fp _=>∀a∈fp,∃o,H a=some o) (motive_4:=fun t v fp _=>∀a∈fp,∃o,H a=some o)
   (fun _ a ha=>absurd ha amw) (fun _ _ r=>r) (fun h _ r a ha=>(ami.mp ha).elim (fun q=>⟨_,q▸h⟩) (r a)) (fun h _ r a ha=>(ami.mp ha).elim (fun q=>⟨_,q▸h⟩) (r a)) (fun h _ a ha=>(ami.mp ha).elim (fun q=>⟨_,q▸h⟩) (fun q=>absurd q amw)) (fun h _ r a ha=>(ami.mp ha).elim (fun q=>⟨_,q▸h⟩) (r a)) (fun _ r=>r) (fun h _ _ a ha=>(ami.mp ha).elim (fun q=>⟨_,q▸h⟩) (fun q=>absurd q amw)) (fun a ha=>absurd ha amw) (fun _ _ h r a ha=>(amr.mp ha).elim (h a) (r a)) (fun a ha=>absurd ha amw) (fun _ _ h r a ha=>(amr.mp ha).elim (h a) (r a)) (fun a ha=>absurd ha amw) (fun _ _ h r a ha=>(amr.mp ha).elim (h a) (r a)) h
theorem bB.bP(e:aA Z Z')(k:∀a∈fp,Z' a=H a)(h:bB K CL H Z t v fp):bu K CL Z' t.bP v:=
 bB.rec (motive_1:=fun t v fp _=>(∀a∈fp,Z' a=H a)->bu K CL Z' t.bP v) (motive_2:=fun t v fp _=>(∀a∈fp,Z' a=H a)->ay K CL Z' (T.dM t) v) (motive_3:=fun t v fp _=>(∀a∈fp,Z' a=H a)->jj K CL Z' (T.ye t) v) (motive_4:=fun t v fp _=>(∀a∈fp,Z' a=H a)->cj K CL Z' (T.qT t) v)
   (fun h _=>by rw[T.bP];exact h.mono e) (fun h _ r k=>by rw[T.bP];exact .tup (om.of (e _ _ h)) (r k)) (fun h _ r k=>by rw[T.bP];exact .lst (nV.of ((k _ ama).trans h)) (r fun a ha=>k a (ame _ ha))) (fun h _ r k=>by rw[T.bP];exact .ins ((k _ ama).trans h) (r fun a ha=>k a (ame _ ha))) (fun h f k=>by rw[T.bP];exact .rX ((k _ ama).trans h) (cL.mono e f)) (fun h _ r k=>by rw[T.bP];exact .dct (.inl ((k _ ama).trans h)) (r fun a ha=>k a (ame _ ha))) (fun _ r k=>by rw[T.bP];exact r k) (fun h f g k=>by rw[T.bP];exact .gF ((k _ ama).trans h) (ay.mono e f) (ay.mono e g)) (fun _=>by rw[T.dM];exact .nil) (fun _ _ h r k=>by rw[T.dM];exact .cons (h fun a ha=>k a (amk _ ha)) (r fun a ha=>k a (amc _ ha))) (fun _=>by rw[T.ye];exact .nil) (fun _ _ h r k=>by rw[T.ye];exact .cons (h fun a ha=>k a (amk _ ha)) (r fun a ha=>k a (amc _ ha))) (fun _=>by rw[T.qT];exact .nil) (fun _ _ h r k=>by rw[T.qT];exact .cons (h fun a ha=>k a (amk _ ha)) (r fun a ha=>k a (amc _ ha))) h k
variable{vs:List V}
theorem ay.ind{P:List D->List V->Prop}(n:P [] [])(c:∀{d:D} {v:V} {ds:List D} {vs:List V},bu K CL Z d v->ay K CL Z ds vs->P ds vs->P (d::ds) (v::vs)){ds:List D}(h:ay K CL Z ds vs):P ds vs:=
 ay.rec (motive_1:=fun _ _ _=>True) (motive_2:=fun d v _=>P d v) (motive_3:=fun _ _ _=>True) (motive_4:=fun _ _ _=>True) (motive_5:=fun _ _ _=>True)
   trivial (fun _=>trivial) (fun _=>trivial) (fun _=>trivial) (fun _=>trivial) (fun _=>trivial) (fun _ _ _=>trivial) (fun _ _ _=>trivial) (fun _ _ _=>trivial) (fun _ _ _=>trivial) (fun _ _ _=>trivial) (fun _ _ _ _ _=>trivial) n (fun a b _ i=>c a b i) trivial (fun _ _ _ _=>trivial) trivial (fun _ _ _ _=>trivial) trivial (fun _ _ _ _=>trivial) h
theorem cL.ind{P:List (Key×D)->List (Key×V)->Prop}(n:P [] [])(c:∀{x:Key} {d:D} {v:V} {ds:List (Key×D)} {vs:List (Key×V)},bu K CL Z d v->cL K CL Z ds vs->P ds vs->P ((x,d)::ds) ((x,v)::vs)){ds:List (Key×D)}{vs:List (Key×V)}(h:cL K CL Z ds vs):P ds vs:=
 cL.rec (motive_1:=fun _ _ _=>True) (motive_2:=fun _ _ _=>True) (motive_3:=fun _ _ _=>True) (motive_4:=fun d v _=>P d v) (motive_5:=fun _ _ _=>True)
   trivial (fun _=>trivial) (fun _=>trivial) (fun _=>trivial) (fun _=>trivial) (fun _=>trivial) (fun _ _ _=>trivial) (fun _ _ _=>trivial) (fun _ _ _=>trivial) (fun _ _ _=>trivial) (fun _ _ _=>trivial) (fun _ _ _ _ _=>trivial) trivial (fun _ _ _ _=>trivial) trivial (fun _ _ _ _=>trivial) n (fun a b _ i=>c a b i) trivial (fun _ _ _ _=>trivial) h
theorem cj.ind{P:List (List Key×D)->List (List Key×V)->Prop}(n:P [] [])(c:∀{x:List Key} {d:D} {v:V} {ds:List (List Key×D)} {vs:List (List Key×V)},bu K CL Z d v->cj K CL Z ds vs->P ds vs->P ((x,d)::ds) ((x,v)::vs)){ds:List (List Key×D)}{vs:List (List Key×V)}(h:cj K CL Z ds vs):P ds vs:=
 cj.rec (motive_1:=fun _ _ _=>True) (motive_2:=fun _ _ _=>True) (motive_3:=fun _ _ _=>True) (motive_4:=fun _ _ _=>True) (motive_5:=fun d v _=>P d v)
   trivial (fun _=>trivial) (fun _=>trivial) (fun _=>trivial) (fun _=>trivial) (fun _=>trivial) (fun _ _ _=>trivial) (fun _ _ _=>trivial) (fun _ _ _=>trivial) (fun _ _ _=>trivial) (fun _ _ _=>trivial) (fun _ _ _ _ _=>trivial) trivial (fun _ _ _ _=>trivial) trivial (fun _ _ _ _=>trivial) trivial (fun _ _ _ _=>trivial) n (fun a b _ i=>c a b i) h
variable{ts:List T}
theorem aO.ind{P:List T->List V->List Addr->Prop}(n:P [] [] [])(c:∀{t:T} {v:V} {ts:List T} {vs:List V} {fp gp:List Addr},bB K CL H Z t v fp->aO K CL H Z ts vs gp->P ts vs gp->P (t::ts) (v::vs) (fp++gp))(h:aO K CL H Z ts vs fp):P ts vs fp:=
 aO.rec (motive_1:=fun _ _ _ _=>True) (motive_2:=fun d v f _=>P d v f) (motive_3:=fun _ _ _ _=>True) (motive_4:=fun _ _ _ _=>True)
   (fun _=>trivial) (fun _ _ _=>trivial) (fun _ _ _=>trivial) (fun _ _ _=>trivial) (fun _ _=>trivial) (fun _ _ _=>trivial) (fun _ _=>trivial) (fun _ _ _=>trivial) n (fun a b _ i=>c a b i) trivial (fun _ _ _ _=>trivial) trivial (fun _ _ _ _=>trivial) h
theorem c9.ind{P:List (Str×T)->List (Str×V)->List Addr->Prop}(n:P [] [] [])(c:∀{x:Str} {t:T} {v:V} {ts:List (Str×T)} {vs:List (Str×V)} {fp gp:List Addr},bB K CL H Z t v fp->c9 K CL H Z ts vs gp->P ts vs gp->P ((x,t)::ts) ((x,v)::vs) (fp++gp)){ts:List (Str×T)}{vs:List (Str×V)}(h:c9 K CL H Z ts vs fp):P ts vs fp:=
 c9.rec (motive_1:=fun _ _ _ _=>True) (motive_2:=fun _ _ _ _=>True) (motive_3:=fun d v f _=>P d v f) (motive_4:=fun _ _ _ _=>True)
   (fun _=>trivial) (fun _ _ _=>trivial) (fun _ _ _=>trivial) (fun _ _ _=>trivial) (fun _ _=>trivial) (fun _ _ _=>trivial) (fun _ _=>trivial) (fun _ _ _=>trivial) trivial (fun _ _ _ _=>trivial) n (fun a b _ i=>c a b i) trivial (fun _ _ _ _=>trivial) h
theorem cM.ind{P:List (List Key×T)->List (List Key×V)->List Addr->Prop}(n:P [] [] [])(c:∀{x:List Key} {t:T} {v:V} {ts:List (List Key×T)} {vs:List (List Key×V)} {fp gp:List Addr},bB K CL H Z t v fp->cM K CL H Z ts vs gp->P ts vs gp->P ((x,t)::ts) ((x,v)::vs) (fp++gp)){ts:List (List Key×T)}{vs:List (List Key×V)}(h:cM K CL H Z ts vs fp):P ts vs fp:=
 cM.rec (motive_1:=fun _ _ _ _=>True) (motive_2:=fun _ _ _ _=>True) (motive_3:=fun _ _ _ _=>True) (motive_4:=fun d v f _=>P d v f)
   (fun _=>trivial) (fun _ _ _=>trivial) (fun _ _ _=>trivial) (fun _ _ _=>trivial) (fun _ _=>trivial) (fun _ _ _=>trivial) (fun _ _=>trivial) (fun _ _ _=>trivial) trivial (fun _ _ _ _=>trivial) trivial (fun _ _ _ _=>trivial) n (fun a b _ i=>c a b i) h
theorem ay.length{d:List D}{v:List V}(h:ay K CL Z d v):d.length=v.length:=
 ay.ind (P:=fun d v=>d.length=v.length) rfl (fun _ _ i=>congrArg (· + 1) i) h
theorem aO.length{d:List T}{v:List V}(h:aO K CL H Z d v fp):d.length=v.length:=
 aO.ind (P:=fun d v _=>d.length=v.length) rfl (fun _ _ i=>congrArg (· + 1) i) h
theorem fE.length{d:List (Option T)}{v:L2.St}(h:fE K CL H Z d v fp):d.length=v.length:=by
 induction h with
 | nil=>rfl
 | skip _ i=>exact congrArg (· + 1) i
 | cons _ _ i=>exact congrArg (· + 1) i
theorem ay.get{Z:Hp}:∀{ds:List D} {vs:List V} {i:Nat} {d:D},ay K CL Z ds vs->ds[i]? = some d->∃v,vs[i]? = some v/\bu K CL Z d v
 | _,_,_,_,.nil,e=>by simp at e
 | _,_,0,_,.cons r _,e=>by simp at e;subst e;exact⟨_,rfl,r⟩
 | _,_,i+1,d,.cons _ t,e=>by
   obtain⟨u,h1,h2⟩:=ay.get (i:=i) (d:=d) t (by simpa using e)
   exact⟨u,by simpa using h1,h2⟩
theorem ay.Ux{Z:Hp}:∀{ds:List D} {vs:List V} {i:Nat} {v:V},ay K CL Z ds vs->vs[i]? = some v->∃d,ds[i]? = some d/\bu K CL Z d v
 | _,_,_,_,.nil,e=>by simp at e
 | _,_,0,_,.cons r _,e=>by simp at e;subst e;exact⟨_,rfl,r⟩
 | _,_,i+1,d,.cons _ t,e=>by
   obtain⟨u,h1,h2⟩:=ay.Ux (i:=i) (v:=d) t (by simpa using e)
   exact⟨u,by simpa using h1,h2⟩
theorem fE.get:∀{δ:List (Option T)} {σ:L2.St} {fp:List Addr} {i:Nat} {t:T},fE K CL H Z δ σ fp->δ[i]? = some (some t) →
   ∃v f1 f2 f3,σ[i]? = some (some v)/\fp=f1++(f2++f3)/\bB K CL H Z t v f2 ∧
     (∀{H' Z':Hp} {t':T} {v':V} {g:List Addr},aA Z Z'->(∀a∈f1++f3,H' a=H a)->bB K CL H' Z' t' v' g->fE K CL H' Z' (δ.set i (some t')) (σ.set i (some v')) (f1++(g++f3))) ∧
     (∀{o:Option V},fE K CL H Z (δ.set i none) (σ.set i o) (f1++f3)):=by
 intro δ σ fp i t h
 have mono:∀{H H' Z Z':Hp} {δ:List (Option T)} {σ:L2.St} {fp:List Addr},aA Z Z'->(∀a∈fp,H' a=H a)->fE K CL H Z δ σ fp->fE K CL H' Z' δ σ fp:=by
   intro H H' Z Z' δ σ fp e k r
   induction r with
   | nil=>exact .nil
   | skip _ ih=>exact .skip (ih k)
   | cons r _ ih=>exact .cons (r.mono e fun a ha=>k a (amk _ ha)) (ih fun a ha=>k a (amc _ ha))
 induction h generalizing i with
 | nil=>intro e;simp at e
 | @skip o δ σ fp r ih=>
   cases i with
   | zero=>intro e;simp at e
   | succ i=>
     intro e
     obtain⟨v,f1,f2,f3,h1,h2,h3,h4,h5⟩:=ih (i:=i) (by simpa using e)
     exact⟨v,f1,f2,f3,by simpa using h1,h2,h3,fun e k q=>.skip (h4 e k q),.skip h5⟩
 | @cons t0 v0 δ σ fp gp r0 r ih=>
   cases i with
   | zero=>
     intro e
     simp at e
     subst e
     refine⟨v0,[],fp,gp,rfl,rfl,r0,fun {H' Z' t' v' g} e k q=>fE.cons (fp:=g) (gp:=gp) q (mono (fp:=gp) e (fun a ha=>k a (by simpa using ha)) r),.skip (by simpa using r)⟩
   | succ i=>
     intro e
     obtain⟨v,f1,f2,f3,h1,h2,h3,h4,h5⟩:=ih (i:=i) (by simpa using e)
     refine⟨v,fp++f1,f2,f3,by simpa using h1,by rw[h2,List.append_assoc],h3,fun {H' Z' t' v' g} e k q=>?_,fun {o}=>?_⟩
     . rw[amm]
       exact .cons (r0.mono e fun a ha=>k a (by simp[ha])) (h4 e (fun a ha=>k a (by rw[amm];exact amc _ ha)) q)
     . rw[amm]
       exact .cons r0 h5
variable{δ:List (Option T)}{σ:L2.St}
theorem fE.mono(e:aA Z Z')(k:∀a∈fp,H' a=H a)(r:fE K CL H Z δ σ fp):fE K CL H' Z' δ σ fp:=by
 induction r with
 | nil=>exact .nil
 | skip _ ih=>exact .skip (ih k)
 | cons r _ ih=>exact .cons (r.mono e fun a ha=>k a (amk _ ha)) (ih fun a ha=>k a (amc _ ha))
theorem fE.there(r:fE K CL H Z δ σ fp):∀a∈fp,∃o,H a=some o:=by
 induction r with
 | nil=>intro a ha;cases ha
 | skip _ ih=>exact ih
 | cons r _ ih=>exact fun a ha=>(amr.mp ha).elim (r.there a) (ih a)
theorem fE.put(r:fE K CL H Z δ σ fp){g:List Addr}(q:bB K CL H Z t v g) :
   ∀{i:Nat},i<δ.length->∃f,fE K CL H Z (δ.set i (some t)) (σ.set i (some v)) f/\∃f',f'.Sublist fp/\f.Perm (g++f'):=by
 induction r with
 | nil=>intro i hi;simp at hi
 | @skip o δ σ fp r ih=>
   intro i hi
   cases i with
   | zero=>exact⟨g++fp,.cons q r,fp,am4 _,ao0 _⟩
   | succ i=>
     obtain⟨f,h1,f',h2,h3⟩:=ih (i:=i) (by simpa using hi)
     exact⟨f,.skip h1,f',h2,h3⟩
 | @cons t0 v0 δ σ fp gp r0 r ih=>
   intro i hi
   cases i with
   | zero=>exact⟨g++gp,.cons q r,gp,anH _ _,ao0 _⟩
   | succ i=>
     obtain⟨f,h1,f',h2,h3⟩:=ih (i:=i) (by simpa using hi)
     refine⟨fp++f,.cons r0 h1,fp++f',am7 (am4 _) h2,?_⟩
     refine(am1 fp h3).trans ?_
     rw[← amm,← amm]
     exact List.Perm.append_right f' am2
def DZ(X:Cx)(e:Expr):TE:=fun σ H Q=>∀(pins:List (Addr×Obj)) (s:Shared),Inv X pins σ H s->wpAny (model X.prog X.w) X.A (eval e X.env) (EP X pins σ Q) X.xe s
def Uy(X:Cx)(e:Expr):TT:=fun σ H Q=>∀(pins:List (Addr×Obj)) (s:Shared),Inv X pins σ H s->wpAny (model X.prog X.w) X.A (isTrue e X.env (eval e X.env)) (TP X pins σ Q) X.xe s
def KS(X:Cx)(es:List Expr):TA:=fun σ H Q=>∀(pos:Pos) (pins:List (Addr×Obj)) (s:Shared),Inv X pins σ H s->wpAny (model X.prog X.w) X.A (spliced (backTo pos (starEach es X.env))) (AP X pins σ Q) X.xe s
def N1(X:Cx)(st:Stmt):TS:=fun D σ H=>∀(pins:List (Addr×Obj)) (s:Shared),Inv X pins σ H s->wpAny (model X.prog X.w) X.A (exec st X.env) (SP X pins D) X.xe s
def Uz(X:Cx)(st:List Stmt):TS:=fun D σ H=>∀(pins:List (Addr×Obj)) (s:Shared),Inv X pins σ H s->wpAny (model X.prog X.w) X.A (execs st X.env) (SP X pins D) X.xe s
variable{X:Cx}{e:Expr}
theorem cN:PE X e (DZ X e):=fun pins s _ _ _ I h=>h pins s I
theorem ZT:PT X e (Uy X e):=fun pins s _ _ _ I h=>h pins s I
theorem X8{e:List Expr}:PA X e (KS X e):=fun pos pins s _ _ _ I h=>h pos pins s I
theorem psS{e:Stmt}:PS X e (N1 X e):=fun pins s _ _ _ I h=>h pins s I
theorem M3{e:List Stmt}:E6 X e (Uz X e):=fun pins s _ _ _ I h=>h pins s I
theorem bW{t:TE}(h:PE X e t){Q:VK}(q:t σ H Q):DZ X e σ H Q:=fun pins s I=>h pins s σ H Q I q
variable{Q:Bool->Hp->Prop}
theorem uE{t:TT}(h:PT X e t)(q:t σ H Q):Uy X e σ H Q:=fun pins s I=>h pins s σ H Q I q
theorem N2{e:List Expr}{t:TA}(h:PA X e t){Q:List V->Hp->Prop}(q:t σ H Q):KS X e σ H Q:=fun pos pins s I=>h pos pins s σ H Q I q
theorem qz{e:Stmt}{t:TS}(h:PS X e t){D:Ends}(q:t D σ H):N1 X e D σ H:=fun pins s I=>h pins s σ H D I q
theorem ad1{e:List Stmt}{t:TS}(h:E6 X e t){D:Ends}(q:t D σ H):Uz X e D σ H:=fun pins s I=>h pins s σ H D I q
def notStar:Expr->Bool
 | .Starred _ _=>false
 | _=>true
variable{es:List Expr}{env:Env}
theorem bA(h:notStar e=true):starEach (e::es) env=(false,eval e env)::starEach es env:=by
 cases e<;>first|rfl|(cases h)
structure Bx where
 B:Hp
 Z:Hp
def iL:HO->Bool
 | .tup _=>true
 | .bP _ _=>true
 | _=>false
def D0(x:Str):Bool:=x.cps[0]? == some 35
def KW(x:Str):Str:=⟨x.cps.extract 1 x.cps.size⟩
def lu(CL:Str->Addr)(Z:Hp):Prop:=∀x,D0 x=true->CL x≠0->Z (CL x)=some (.tabs (KW x))
structure bH(K:PySem.W.Frag)(CL:Str->Addr)(b:Bx)(H Z:Hp)(δ:List (Option T))(σ:L2.St)(ts:List T)(vs:List V):Prop where
 rep:∃fp gp,fE K CL H Z δ σ fp/\aO K CL H Z ts vs gp/\(fp++gp).Nodup/\∀a∈fp++gp,Z a=none/\b.B a=none
 bh:aA b.B H
 zz:aA b.Z Z
 zh:aA Z H
 new:∀a o,Z a=some o->b.Z a=none->b.B a=none
 tp:∀a o,H a=some o->iL o=true->Z a=some o
 tab:lu CL b.Z
variable{b:Bx}
theorem lu.mono{A B:Hp}(h:lu CL A)(e:aA A B):lu CL B:=fun x hx h0=>e _ _ (h x hx h0)
theorem bH.ad2(S:bH K CL b H Z δ σ ts vs):lu CL Z:=S.tab.mono S.zz
theorem bH.KY(S:bH K CL b H Z δ σ ts vs):lu CL H:=S.ad2.mono S.zh
theorem ZU{A B:Hp}(e:aA A B)(h:B a=none):A a=none:=e.free h
variable{p:Addr}
theorem aA.upd{o:HO}(h:H p=none):aA H (upd H p o):=fun b u e=>by rw[ao (aM e h)];exact e
theorem bH.view(S:bH K CL b H Z δ σ (t::ts) (v::vs)):bu K CL H t.bP v:=by
 obtain⟨fp,gp,_,r,_,_⟩:=S.rep
 cases r with
 | cons r _=>exact r.bP S.zh fun _ _=>rfl
theorem bH.pop(S:bH K CL b H Z δ σ (t::ts) (v::vs)):bH K CL b H Z δ σ ts vs:=by
 obtain⟨fp,gp,e,r,nd,k⟩:=S.rep
 cases r with
 | @cons _ _ _ _ f1 f2 r1 r2=>
   refine⟨⟨fp,f2,e,r2,nd.sublist (am7 (am4 _) (anH _ _)),fun a ha=>k a ?_⟩,S.bh,S.zz,S.zh,S.new,S.tp,S.tab⟩
   rcases amr.mp ha with h|h
   . exact amk _ h
   . exact amc _ (amc _ h)
theorem bH.push{d:D}(S:bH K CL b H Z δ σ ts vs)(r:bu K CL Z d v):bH K CL b H Z δ σ (.sh d::ts) (v::vs):=by
 obtain⟨fp,gp,e,r2,nd,k⟩:=S.rep
 exact⟨⟨fp,[]++gp,e,.cons (.sh r) r2,nd,k⟩,S.bh,S.zz,S.zh,S.new,S.tp,S.tab⟩
theorem bH.Bw(S:bH K CL b H Z δ σ (t::ts) (v::vs)):∃Z',aA Z Z'/\bH K CL b H Z' δ σ (.sh t.bP::ts) (v::vs):=by
 classical
 obtain⟨fp,gp,e,r,nd,k⟩:=S.rep
 cases r with
 | @cons _ _ _ _ f1 f2 r1 r2=>
   have nZ:∀a∈f1,Z a=none/\b.B a=none:=fun a ha=>k a (amc _ (amk _ ha))
   have sz:aA Z (fun a=>if a∈f1 then H a else Z a):=fun a o q=>by
     by_cases ha:a∈f1
     . rw[(nZ a ha).1]at q;cases q
     . show(if a∈f1 then H a else Z a)=some o
       rw[amq ha];exact q
   have nd1:=amK.mp nd
   have dj:∀a∈fp++f2,a∉f1:=fun a ha h1=>by
     rcases amr.mp ha with h|h
     . exact nd1.2.2 a h a (amk _ h1) rfl
     . exact(amK.mp nd1.2.1).2.2 a h1 a h rfl
   refine⟨fun a=>if a∈f1 then H a else Z a,sz,⟨⟨fp,[]++f2,e.mono sz (fun _ _=>rfl),.cons (.sh (r1.bP sz fun a ha=>amx ha)) (r2.mono sz fun _ _=>rfl),?_,fun a ha=>?_⟩,S.bh,S.zz.trans sz,fun a o q=>?_,fun a o q z=>?_,fun a o q i=>?_,S.tab⟩⟩
   . exact nd.sublist (am7 (am4 _) (anH _ _))
   . have N3:a∈fp++f2:=ha
     refine⟨?_,(k a ?_).2⟩
     . show(if a∈f1 then H a else Z a)=none
       rw[amq (dj a N3)]
       refine(k a ?_).1
       rcases amr.mp N3 with h|h
       . exact amk _ h
       . exact amc _ (amc _ h)
     . rcases amr.mp N3 with h|h
       . exact amk _ h
       . exact amc _ (amc _ h)
   . have q':(if a∈f1 then H a else Z a)=some o:=q
     by_cases ha:a∈f1
     . rw[amx ha]at q';exact q'
     . rw[amq ha]at q';exact S.zh a o q'
   . have q':(if a∈f1 then H a else Z a)=some o:=q
     by_cases ha:a∈f1
     . exact(nZ a ha).2
     . rw[amq ha]at q';exact S.new a o q' z
   . exact sz a o (S.tp a o q i)
variable{i:Nat}
theorem bH.UA(S:bH K CL b H Z δ σ ts vs)(hi:δ[i]? = some (some t)):∃v Z',σ[i]? = some (some v)/\aA Z Z'/\bH K CL b H Z' (δ.set i (some (.sh t.bP))) σ (.sh t.bP::ts) (v::vs):=by
 classical
 obtain⟨fp,gp,e,r,nd,k⟩:=S.rep
 obtain⟨v,f1,f2,f3,hv,pN,rt,put,_⟩:=e.get hi
 subst pN
 have nZ:∀a∈f2,Z a=none/\b.B a=none:=fun a ha=>k a (by simp[ha])
 have sz:aA Z (fun a=>if a∈f2 then H a else Z a):=fun a o q=>by
   by_cases ha:a∈f2
   . rw[(nZ a ha).1]at q;cases q
   . show(if a∈f2 then H a else Z a)=some o
     rw[amq ha];exact q
 have dj:∀a∈(f1++f3)++gp,a∉f2:=fun a ha h2=>by
   have hp:((f1++(f2++f3))++gp).Perm (f2++((f1++f3)++gp)):=by
     rw[← amm,← amm]
     refine(List.perm_append_right_iff gp).mpr ?_
     rw[← amm]
     exact(List.perm_append_right_iff f3).mpr am2
   exact(amK.mp (hp.nodup_iff.mp nd)).2.2 a h2 a ha rfl
 have rF:bu K CL (fun a=>if a∈f2 then H a else Z a) t.bP v:=rt.bP sz fun a ha=>amx ha
 have ZV:σ.set i (some v)=σ:=by
   apply an8
   intro j
   rw[List.getElem?_set]
   split
   . rename_i h;subst h
     split
     . exact hv.symm
     . rename_i h2;rw[am3 (by omega)]
   . rfl
 have e2:fE K CL H (fun a=>if a∈f2 then H a else Z a) (δ.set i (some (.sh t.bP))) σ (f1++([]++f3)):=by
   have:=put (H':=H) (t':=.sh t.bP) (v':=v) (g:=[]) sz (fun _ _=>rfl) (.sh rF)
   rwa [ZV]at this
 refine⟨v,fun a=>if a∈f2 then H a else Z a,hv,sz,⟨⟨f1++([]++f3),[]++gp,e2,.cons (.sh rF) (r.mono sz fun _ _=>rfl),?_,fun a ha=>?_⟩,S.bh,S.zz.trans sz,fun a o q=>?_,fun a o q z=>?_,fun a o q i=>sz a o (S.tp a o q i),S.tab⟩⟩
 . exact nd.sublist (am7 (am7 (am4 _) (anH _ _)) (am4 _))
 . have N3:a∈(f1++f3)++gp:=ha
   have hm:a∈(f1++(f2++f3))++gp:=by
     simp only[amr]at N3 ⊢
     rcases N3 with(h|h)|h
     . exact .inl (.inl h)
     . exact .inl (.inr (.inr h))
     . exact .inr h
   refine⟨?_,(k a hm).2⟩
   show(if a∈f2 then H a else Z a)=none
   rw[amq (dj a N3)]
   exact(k a hm).1
 . have q':(if a∈f2 then H a else Z a)=some o:=q
   by_cases ha:a∈f2
   . rw[amx ha]at q';exact q'
   . rw[amq ha]at q';exact S.zh a o q'
 . have q':(if a∈f2 then H a else Z a)=some o:=q
   by_cases ha:a∈f2
   . exact(nZ a ha).2
   . rw[amq ha]at q';exact S.new a o q' z
theorem bH.move(S:bH K CL b H Z δ σ ts vs)(hi:δ[i]? = some (some t)):∃v,σ[i]? = some (some v)/\bH K CL b H Z (δ.set i none) σ (t::ts) (v::vs):=by
 obtain⟨fp,gp,e,r,nd,k⟩:=S.rep
 obtain⟨v,f1,f2,f3,hv,pN,rt,_,del⟩:=e.get hi
 subst pN
 have ZV:σ.set i (some v)=σ:=by
   apply an8
   intro j
   rw[List.getElem?_set]
   split
   . rename_i h;subst h
     split
     . exact hv.symm
     . rename_i h2;rw[am3 (by omega)]
   . rfl
 have hp:((f1++(f2++f3))++gp).Perm ((f1++f3)++(f2++gp)):=by
   have h1:(f2++f3).Perm (f3++f2):=am2
   have h2:=(am1 f1 h1).append_right gp
   simp only[amm]at h2 ⊢
   exact h2
 refine⟨v,hv,⟨⟨f1++f3,f2++gp,?_,.cons rt r,hp.nodup_iff.mp nd,fun a ha=>k a (hp.mem_iff.mpr ha)⟩,S.bh,S.zz,S.zh,S.new,S.tp,S.tab⟩⟩
 have:=del (o:=some v)
 rwa [ZV]at this
theorem bH.look(S:bH K CL b H Z δ σ ts vs)(hi:δ[i]? = some (some t)):∃v,σ[i]? = some (some v)/\bu K CL H t.bP v:=by
 obtain⟨fp,gp,e,r,nd,k⟩:=S.rep
 obtain⟨v,f1,f2,f3,hv,pN,rt,_,_⟩:=e.get hi
 exact⟨v,hv,rt.bP S.zh fun _ _=>rfl⟩
theorem bH.N4{d:D}(S:bH K CL b H Z δ σ ts vs)(hi:δ[i]? = some (some (.sh d))):∃v,σ[i]? = some (some v)/\bu K CL Z d v:=by
 obtain⟨fp,gp,e,r,nd,k⟩:=S.rep
 obtain⟨v,f1,f2,f3,hv,pN,rt,_,_⟩:=e.get hi
 cases rt with
 | sh h=>exact⟨v,hv,h⟩
theorem bH.set(S:bH K CL b H Z δ σ (t::ts) (v::vs))(hi:i<δ.length):bH K CL b H Z (δ.set i (some t)) (σ.set i (some v)) ts vs:=by
 obtain⟨fp,gp,e,r,nd,k⟩:=S.rep
 cases r with
 | @cons _ _ _ _ f1 f2 r1 r2=>
   obtain⟨f,h1,f',h2,h3⟩:=e.put r1 hi
   have hp:(f++f2).Perm (f'++(f1++f2)):=by
     refine(h3.append_right f2).trans ?_
     rw[← amm]
     exact am2.append_right f2
   have N5:(f'++(f1++f2)).Sublist (fp++(f1++f2)):=am7 h2 (am4 _)
   exact⟨⟨f,f2,h1,r2,hp.nodup_iff.mpr (nd.sublist N5),fun a ha=>k a (N5.subset (hp.mem_iff.mp ha))⟩,S.bh,S.zz,S.zh,S.new,S.tp,S.tab⟩
mutual
def D.gA:D->Bool
 | .tup ds=>D.aY ds
 | .lst _=>false
 | .ins _ _=>false
 | .rX _=>false
 | .dct _=>false
 | .any=>false
 | .gF _ _ _=>false
 | _=>true
def D.aY:List D->Bool
 | []=>true
 | d::ds=>d.gA&&D.aY ds
end
mutual
def T.clean:T->Bool
 | .sh d=>d.gA
 | .tup ts=>T.cR ts
 | .lst ts=>T.cR ts
 | .ins _ fs=>T.iQ fs
 | .rX kvs=>D.aY (kvs.map (·.2))
 | .dct kvs=>T.ia kvs
 | .pin _ t=>t.clean
 | .gF _ _ _=>false
def T.cR:List T->Bool
 | []=>true
 | t::ts=>t.clean&&T.cR ts
def T.iQ:List (Str×T)->Bool
 | []=>true
 | (_,t)::ts=>t.clean&&T.iQ ts
def T.ia:List (List Key×T)->Bool
 | []=>true
 | (_,t)::ts=>t.clean&&T.ia ts
end
def bO(X:Cx)(CL:Str->Addr)(b:Bx)(e:Expr)(δ:List (Option T))(t:T)(δ':List (Option T)):Prop:=
 ∀(H Z:Hp) (σ:L2.St) (ts:List T) (vs:List V) (Q:VK),bH X.K CL b H Z δ σ ts vs->(∀v H' Z',aA Z Z'->aA H H'->bH X.K CL b H' Z' δ' σ (t::ts) (v::vs)->Q v H')->DZ X e σ H Q
def cZ(X:Cx)(CL:Str->Addr)(b:Bx)(e:Expr)(δ:List (Option T))(d:D)(δ':List (Option T)):Prop:=
 ∀(H Z:Hp) (σ:L2.St) (ts:List T) (vs:List V) (Q:VK),bH X.K CL b H Z δ σ ts vs->(∀v H' Z',aA Z Z'->aA H H'->bH X.K CL b H' Z' δ' σ ts vs->bu X.K CL H' d v->Q v H')->DZ X e σ H Q
def qA(X:Cx)(CL:Str->Addr)(b:Bx)(e:Expr)(δ:List (Option T))(p:Bool)(δ':List (Option T)):Prop:=
 ∀(H Z:Hp) (σ:L2.St) (ts:List T) (vs:List V) (Q:Bool->Hp->Prop),bH X.K CL b H Z δ σ ts vs->(∀H' Z',aA Z Z'->aA H H'->bH X.K CL b H' Z' δ' σ ts vs->Q p H')->Uy X e σ H Q
def IC(X:Cx)(CL:Str->Addr)(b:Bx)(es:List Expr)(δ:List (Option T))(tl:List T)(δ':List (Option T)):Prop:=
 ∀(H Z:Hp) (σ:L2.St) (ts:List T) (vs:List V) (Q:List V->Hp->Prop),bH X.K CL b H Z δ σ ts vs →
   (∀us H' Z',us.length=tl.length->aA Z Z'->aA H H'->bH X.K CL b H' Z' δ' σ (tl.reverse++ts) (us.reverse++vs)->Q us H')->KS X es σ H Q
def N6(X:Cx)(CL:Str->Addr)(b:Bx)(es:List Expr)(δ:List (Option T))(ds:List D)(δ':List (Option T)):Prop:=
 ∀(H Z:Hp) (σ:L2.St) (ts:List T) (vs:List V) (Q:List V->Hp->Prop),bH X.K CL b H Z δ σ ts vs →
   (∀us H' Z',aA Z Z'->aA H H'->bH X.K CL b H' Z' δ' σ ts vs->ay X.K CL H' ds us->Q us H')->KS X es σ H Q
structure eL where
 nx:List (Option T)->Prop
 rt:T->List (Option T)->Prop
 bk:List (Option T)->Prop:=fun _=>False
 ct:List (Option T)->Prop:=fun _=>False
structure Meets(K:PySem.W.Frag)(CL:Str->Addr)(b:Bx)(Z:Hp)(ts:List T)(vs:List V)(D:eL)(E:Ends):Prop where
 nx:∀δ' σ' H' Z',aA Z Z'->bH K CL b H' Z' δ' σ' ts vs->D.nx δ'->E.nx σ' H'
 rt:∀t v H' Z' δ' σ',aA Z Z'->bH K CL b H' Z' δ' σ' (t::ts) (v::vs)->D.rt t δ'->E.rt v H'
 bk:∀δ' σ' H' Z',aA Z Z'->bH K CL b H' Z' δ' σ' ts vs->D.bk δ'->E.bk σ' H'
 ct:∀δ' σ' H' Z',aA Z Z'->bH K CL b H' Z' δ' σ' ts vs->D.ct δ'->E.ct σ' H'
def Tw(X:Cx)(CL:Str->Addr)(b:Bx)(st:Stmt)(δ:List (Option T))(D:eL):Prop:=
 ∀(H Z:Hp) (σ:L2.St) (ts:List T) (vs:List V) (E:Ends),bH X.K CL b H Z δ σ ts vs->Meets X.K CL b Z ts vs D E->N1 X st E σ H
def dZ(X:Cx)(CL:Str->Addr)(b:Bx)(st:List Stmt)(δ:List (Option T))(D:eL):Prop:=
 ∀(H Z:Hp) (σ:L2.St) (ts:List T) (vs:List V) (E:Ends),bH X.K CL b H Z δ σ ts vs->Meets X.K CL b Z ts vs D E->Uz X st E σ H
theorem Meets.mono{D:eL}{E:Ends}(M:Meets K CL b Z ts vs D E)(e:aA Z Z'):Meets K CL b Z' ts vs D E:=
 ⟨fun _ _ _ _ s=>M.nx _ _ _ _ (e.trans s),fun _ _ _ _ _ _ s=>M.rt _ _ _ _ _ _ (e.trans s),fun _ _ _ _ s=>M.bk _ _ _ _ (e.trans s),fun _ _ _ _ s=>M.ct _ _ _ _ (e.trans s)⟩
theorem IE(zh:∀a o,H a=some o->iL o=true->Z a=some o)(h:om K H a xs):om K Z a xs:=by
 rcases h with(h|⟨o,h⟩)|h
 . exact .inl (.inl (zh _ _ h rfl))
 . exact .inl (.inr ⟨o,zh _ _ h rfl⟩)
 . exact .inr h
theorem bu.gA(zh:∀a o,H a=some o->iL o=true->Z a=some o){d:D}(k:d.gA=true)(h:bu K CL H d v):bu K CL Z d v:=
 bu.rec (motive_1:=fun d v _=>d.gA=true->bu K CL Z d v) (motive_2:=fun d v _=>D.aY d=true->ay K CL Z d v) (motive_3:=fun d v _=>True) (motive_4:=fun d v _=>True) (motive_5:=fun d v _=>True)
   (fun _=>.non) (fun b _=>.bl b) (fun b _=>.int b) (fun b _=>.str b) (fun _ k=>by rw[D.gA]at k;cases k) (fun b _=>.val b) (fun h _ r k=>.tup (IE zh h) (r (by rw[D.gA]at k;exact k))) (fun _ _ _ k=>by rw[D.gA]at k;cases k) (fun _ _ _ k=>by rw[D.gA]at k;cases k) (fun _ _ _ k=>by rw[D.gA]at k;cases k) (fun _ _ _ k=>by rw[D.gA]at k;cases k) (fun _ _ _ _ _ k=>by rw[D.gA]at k;cases k) (fun _=>.nil) (fun _ _ h r k=>by rw[D.aY,amI]at k;exact .cons (h k.1) (r k.2)) trivial (fun _ _ _ _=>trivial) trivial (fun _ _ _ _=>trivial) trivial (fun _ _ _ _=>trivial) h k
theorem ay.gA(zh:∀a o,H a=some o->iL o=true->Z a=some o){d:List D}{v:List V}(k:D.aY d=true)(h:ay K CL H d v):ay K CL Z d v:=
 ay.rec (motive_1:=fun d v _=>d.gA=true->bu K CL Z d v) (motive_2:=fun d v _=>D.aY d=true->ay K CL Z d v) (motive_3:=fun d v _=>True) (motive_4:=fun d v _=>True) (motive_5:=fun d v _=>True)
   (fun _=>.non) (fun b _=>.bl b) (fun b _=>.int b) (fun b _=>.str b) (fun _ k=>by rw[D.gA]at k;cases k) (fun b _=>.val b) (fun h _ r k=>.tup (IE zh h) (r (by rw[D.gA]at k;exact k))) (fun _ _ _ k=>by rw[D.gA]at k;cases k) (fun _ _ _ k=>by rw[D.gA]at k;cases k) (fun _ _ _ k=>by rw[D.gA]at k;cases k) (fun _ _ _ k=>by rw[D.gA]at k;cases k) (fun _ _ _ _ _ k=>by rw[D.gA]at k;cases k) (fun _=>.nil) (fun _ _ h r k=>by rw[D.aY,amI]at k;exact .cons (h k.1) (r k.2)) trivial (fun _ _ _ _=>trivial) trivial (fun _ _ _ _=>trivial) trivial (fun _ _ _ _=>trivial) h k
theorem cL.clean{Z1:Hp}(zi:∀{d:D} {v:V},d.gA=true->bu K CL Z1 d v->bu K CL Z d v){kvs:List (Key×D)}{gs:List (Key×V)}(k:D.aY (kvs.map (·.2))=true)(h:cL K CL Z1 kvs gs):cL K CL Z kvs gs:=
 cL.ind (P:=fun kvs gs=>D.aY (kvs.map (·.2))=true->cL K CL Z kvs gs) (fun _=>.nil) (fun h _ i k=>by rw[amB,D.aY,amI]at k;exact .cons (zi k.1 h) (i k.2)) h k
theorem bB.clean{Z1:Hp}(zh:∀a xs,Z1 a=some (.tup xs)->Z a=some (.tup xs))(zi:∀{d:D} {v:V},d.gA=true->bu K CL Z1 d v->bu K CL Z d v)(k:t.clean=true)(h:bB K CL H Z1 t v fp):bB K CL H Z t v fp:=
 bB.rec (motive_1:=fun t v fp _=>t.clean=true->bB K CL H Z t v fp) (motive_2:=fun t v fp _=>T.cR t=true->aO K CL H Z t v fp) (motive_3:=fun t v fp _=>T.iQ t=true->c9 K CL H Z t v fp) (motive_4:=fun t v fp _=>T.ia t=true->cM K CL H Z t v fp)
   (fun h k=>.sh (zi (by rw[T.clean]at k;exact k) h)) (fun h _ r k=>.tup (zh _ _ h) (r (by rw[T.clean]at k;exact k))) (fun h _ r k=>.lst h (r (by rw[T.clean]at k;exact k))) (fun h _ r k=>.ins h (r (by rw[T.clean]at k;exact k))) (fun h f k=>.rX h (cL.clean zi (by rw[T.clean]at k;exact k) f)) (fun h _ r k=>.dct h (r (by rw[T.clean]at k;exact k))) (fun _ r k=>.pin (r (by rw[T.clean]at k;exact k))) (fun _ _ _ k=>by rw[T.clean]at k;cases k) (fun _=>.nil) (fun _ _ h r k=>by rw[T.cR,amI]at k;exact .cons (h k.1) (r k.2)) (fun _=>.nil) (fun _ _ h r k=>by rw[T.iQ,amI]at k;exact .cons (h k.1) (r k.2)) (fun _=>.nil) (fun _ _ h r k=>by rw[T.ia,amI]at k;exact .cons (h k.1) (r k.2)) h k
theorem bH.back{W W':Hp}(S:bH K CL b H Z δ σ ts vs)(hh:aA H H')(zw:aA Z W)(ww:aA W W')(wh:aA W' H')(new:∀a o,W' a=some o->W a=none->H a=none)
   (tp:∀a o,H' a=some o->iL o=true->W' a=some o) (r:bB K CL H' W' t v fp) (nd:fp.Nodup) (own:∀a∈fp,W' a=none/\H a=none) (c:W=Z\/t.clean=true) :
   ∃Z',aA Z Z'/\bH K CL b H' Z' δ σ (t::ts) (v::vs):=by
 classical
 let Z':Hp:=fun a=>if (H a).isSome=true then Z a else W' a
 have zs:∀{a:Addr} {o:HO},H a=some o->Z' a=Z a:=fun {a o} e=>by
   show(if (H a).isSome=true then Z a else W' a)=Z a
   rw[amx (by rw[e];rfl)]
 have zn:∀{a:Addr},H a=none->Z' a=W' a:=fun {a} e=>by
   show(if (H a).isSome=true then Z a else W' a)=W' a
   rw[amq (by rw[e];simp)]
 have sz:aA Z Z':=fun a o q=>by rw[zs (S.zh a o q)];exact q
 have zw':∀a o,Z' a=some o->W' a=some o:=fun a o q=>by
   cases e:H a with
   | none=>rw[zn e]at q;exact q
   | some u=>rw[zs e]at q;exact ww a o (zw a o q)
 have ztp:∀a o,H' a=some o->iL o=true->Z' a=some o:=fun a o q i=>by
   cases e:H a with
   | none=>rw[zn e];exact tp a o q i
   | some u=>
     rw[zs e]
     have:=hh a u e
     rw[q]at this;cases this
     exact S.tp a o e i
 have r':bB K CL H' Z' t v fp:=by
   rcases c with c|c
   . have:Z'=W':=by
       funext a
       cases e:H a with
       | none=>exact zn e
       | some u=>
         rw[zs e]
         cases q:W' a with
         | none=>
           cases q2:Z a with
           | none=>rfl
           | some o=>rw[ww a o (zw a o q2)]at q;cases q
         | some o=>
           cases q2:W a with
           | none=>rw[new a o q q2]at e;cases e
           | some o2=>
             have:=ww a o2 q2
             rw[q]at this;cases this
             rw[← c];exact q2
     rw[this];exact r
   . refine bB.clean (fun a xs h=>?_) (fun {d v} k h=>?_) c r
     . exact ztp a _ (wh a _ h) rfl
     . exact bu.gA (H:=H') ztp k (h.mono wh)
 obtain⟨f0,g0,e0,r0,nd0,k0⟩:=S.rep
 have old:∀a∈f0++g0,∃o,H a=some o:=fun a ha=>(amr.mp ha).elim (e0.there a) (r0.there a)
 have keep:∀a∈f0++g0,H' a=H a:=fun a ha=>by
   obtain⟨o,e⟩:=old a ha
   rw[e];exact hh a o e
 refine⟨Z',sz,⟨⟨f0,fp++g0,e0.mono sz (fun a ha=>keep a (amk _ ha)),.cons r' (r0.mono sz fun a ha=>keep a (amc _ ha)),?_,fun a ha=>?_⟩,S.bh.trans hh,S.zz.trans sz,fun a o q=>wh a o (zw' a o q),fun a o q z=>?_,ztp,S.tab⟩⟩
 . have hp:(f0++(fp++g0)).Perm (fp++(f0++g0)):=by
     rw[← amm,← amm]
     exact am2.append_right g0
   refine hp.nodup_iff.mpr (amK.mpr ⟨nd,nd0,fun a ha c hc e=>?_⟩)
   subst e
   obtain⟨o,q⟩:=old a hc
   rw[(own a ha).2]at q;cases q
 . have:a∈f0++g0\/a∈fp:=by
     simp only[amr]at ha ⊢
     rcases ha with h|h|h
     . exact .inl (.inl h)
     . exact .inr h
     . exact .inl (.inr h)
   rcases this with h|h
   . obtain⟨o,q⟩:=old a h
     exact⟨by rw[zs q];exact(k0 a h).1,(k0 a h).2⟩
   . exact⟨by rw[zn (own a h).2];exact(own a h).1,S.bh.free (own a h).2⟩
 . cases e:H a with
   | none=>exact S.bh.free e
   | some u=>rw[zs e]at q;exact S.new a o q z
section
variable{δ1 δ2:List (Option T)}{e1 e2:Expr}{pos:Pos}{d d1 d2:D}
theorem X9(h:bO X CL b e δ t δ1):cZ X CL b e δ t.bP δ1:=fun H Z σ ts vs Q S k=>h H Z σ ts vs Q S fun v H' Z' z s S'=>k v H' Z' z s S'.pop S'.view
theorem ah(h:bO X CL b e δ (.sh d) δ1):cZ X CL b e δ d δ1:=by have:=X9 h;rwa [T.bP]at this
theorem gG(h:cZ X CL b e δ d δ1)(i:d.gA=true):bO X CL b e δ (.sh d) δ1:=fun H Z σ ts vs Q S k=>h H Z σ ts vs Q S fun v H' Z' z s S' r=>k v H' Z' z s (S'.push (bu.gA S'.tp i r))
theorem FP(h:bO X CL b e δ t δ1):bO X CL b e δ (.sh t.bP) δ1:=fun H Z σ ts vs Q S k=>h H Z σ ts vs Q S fun v H' Z' z s S'=>by
 obtain⟨Z2,z2,S2⟩:=S'.Bw
 exact k v H' Z2 (z.trans z2) s S2
theorem aj{i:Int}{j:Nat}:bO X CL b (.Constant (.int i) j pos) δ (.sh (.int i)) δ:=fun H Z σ ts vs Q S k=>bW Nk (k _ _ Z (.refl _) (.refl _) (S.push (.int i)))
theorem Yb{i:Bool}{j:Nat}:bO X CL b (.Constant (.bool i) j pos) δ (.sh (.bl i)) δ:=fun H Z σ ts vs Q S k=>bW adk (k _ _ Z (.refl _) (.refl _) (S.push (.bl i)))
theorem FQ{j:Nat}:bO X CL b (.Constant .none j pos) δ (.sh .non) δ:=fun H Z σ ts vs Q S k=>bW Y7 (k _ _ Z (.refl _) (.refl _) (S.push .non))
theorem fk{x:Str}{j:Nat}:bO X CL b (.Constant (.str x) j pos) δ (.sh (.str x)) δ:=fun H Z σ ts vs Q S k=>bW Y8 (k _ _ Z (.refl _) (.refl _) (S.push (.str x)))
section
variable{x:Str}(i:Nat)(hi:X.N[i]? = some x:=by rfl)(hv:XS X.env.scope x:=by first|exact Or.inl rfl|exact Or.inr (Or.inl rfl)|exact Or.inr (Or.inr rfl))(hd:(x==("__debug__":Str))=false:=by decide)(iO:(x==("__classdict__":Str))=false:=by decide)
include hi hv hd iO
theorem ZW(h:δ[i]? = some (some (.sh d)):=by rfl):bO X CL b (.Name x pos) δ (.sh d) δ:=fun H Z σ ts vs Q S k=>by
 obtain⟨v,e,r⟩:=S.N4 h
 exact bW (g8 hi hv hd iO) ⟨v,e,k v H Z (.refl _) (.refl _) (S.push r)⟩
theorem UB(h:δ[i]? = some (some t):=by rfl):bO X CL b (.Name x pos) δ (.sh t.bP) (δ.set i (some (.sh t.bP))):=fun H Z σ ts vs Q S k=>by
 obtain⟨v,Z',e,z,S'⟩:=S.UA h
 exact bW (g8 hi hv hd iO) ⟨v,e,k v H Z' z (.refl _) S'⟩
theorem UC(h:δ[i]? = some (some t):=by rfl):bO X CL b (.Name x pos) δ t (δ.set i none):=fun H Z σ ts vs Q S k=>by
 obtain⟨v,e,S'⟩:=S.move h
 exact bW (g8 hi hv hd iO) ⟨v,e,k v H Z (.refl _) (.refl _) S'⟩
theorem ZX(h:δ[i]? = some (some t):=by rfl):cZ X CL b (.Name x pos) δ t.bP δ:=fun H Z σ ts vs Q S k=>by
 obtain⟨v,e,r⟩:=S.look h
 exact bW (g8 hi hv hd iO) ⟨v,e,k v H Z (.refl _) (.refl _) S r⟩
end
def ZY:D->Option V
 | .non=>some .non
 | .bl b=>some (.bl b)
 | .int i=>some (.int i)
 | .str x => some (.str x)
 | _=>none
theorem bu.sc{d:D}{w:V}(r:bu K CL Z d v)(h:ZY d=some w):v=w:=by
 cases r<;>first|(exact amA h)|(cases h)
theorem UD{d:D}{w:V}(h:ZY d=some w):bu K CL Z d w:=by
 cases d<;>first|(cases h;constructor)|(cases h)
theorem qV{op:Operator}{r:R2}{w1 w2 w:V}(ho:oq X (binaryOp op) r)(h1:cZ X CL b e1 δ d1 δ1)(h2:cZ X CL b e2 δ1 d2 δ2)(s1:ZY d1=some w1)(s2:ZY d2=some w2)(s3:ZY d=some w)
   (hr:∀(H:Hp) (Q:VK),Q w H->r w1 w2 H Q):bO X CL b (.BinOp e1 op e2 pos) δ (.sh d) δ2:=fun H Z σ ts vs Q S k=>by
 refine bW (xY ho cN cN) (h1 H Z σ ts vs _ S fun v1 H1 Z1 z1 k1 S1 r1=>h2 H1 Z1 σ ts vs _ S1 fun v2 H2 Z2 z2 k2 S2 r2=>?_)
 rw[r1.sc s1,r2.sc s2]
 exact hr H2 Q (k w H2 Z2 (z1.trans z2) (k1.trans k2) (S2.push (UD s3)))
theorem bX{i j:Int}(h1:cZ X CL b e1 δ (.int i) δ1)(h2:cZ X CL b e2 δ1 (.int j) δ2):bO X CL b (.BinOp e1 .Add e2 pos) δ (.sh (.int (i+j))) δ2:=qV Zy h1 h2 rfl rfl rfl fun _ _ q=>⟨i,j,rfl,rfl,q⟩
theorem By{i j:Int}(h1:cZ X CL b e1 δ (.int i) δ1)(h2:cZ X CL b e2 δ1 (.int j) δ2):bO X CL b (.BinOp e1 .Sub e2 pos) δ (.sh (.int (i-j))) δ2:=qV Zz h1 h2 rfl rfl rfl fun _ _ q=>⟨i,j,rfl,rfl,q⟩
theorem ly{i j:Int}(h1:cZ X CL b e1 δ (.int i) δ1)(h2:cZ X CL b e2 δ1 (.int j) δ2)(c:Uh i j):bO X CL b (.BinOp e1 .Mult e2 pos) δ (.sh (.int (i*j))) δ2:=qV ZC h1 h2 rfl rfl rfl fun _ _ q=>⟨i,j,rfl,rfl,c,q⟩
theorem bJ{i j:Int}(h1:cZ X CL b e1 δ (.int i) δ1)(h2:cZ X CL b e2 δ1 (.int j) δ2)(c:0<j):bO X CL b (.BinOp e1 .Mod e2 pos) δ (.sh (.int (i % j))) δ2:=qV ZD h1 h2 rfl rfl rfl fun _ _ q=>⟨i,j,rfl,rfl,c,q⟩
theorem eN{i j:Int}(h1:cZ X CL b e1 δ (.int i) δ1)(h2:cZ X CL b e2 δ1 (.int j) δ2)(c:adC i j):bO X CL b (.BinOp e1 .FloorDiv e2 pos) δ (.sh (.int (i / j))) δ2:=qV Ui h1 h2 rfl rfl rfl fun _ _ q=>⟨i,j,rfl,rfl,c,q⟩
theorem N7{i j:Int}(h1:cZ X CL b e1 δ (.int i) δ1)(h2:cZ X CL b e2 δ1 (.int j) δ2)(c:adD i j):bO X CL b (.BinOp e1 .Pow e2 pos) δ (.sh (.int (i ^ j.toNat))) δ2:=qV ZE h1 h2 rfl rfl rfl fun _ _ q=>⟨i,j,rfl,rfl,c,q⟩
theorem qW{x y:Str}(h1:cZ X CL b e1 δ (.str x) δ1)(h2:cZ X CL b e2 δ1 (.str y) δ2)(c:x.length+y.length<=sizeLine):bO X CL b (.BinOp e1 .Add e2 pos) δ (.sh (.str (x++y))) δ2:=qV Fv h1 h2 rfl rfl rfl fun _ _ q=>⟨x,y,rfl,rfl,c,q⟩
theorem IG{op:CmpOp}{r:R2}{p:Bool}{w1 w2:V}(ho:oq X (compareOp op) r)(h1:cZ X CL b e1 δ d1 δ1)(h2:cZ X CL b e2 δ1 d2 δ2)(s1:ZY d1=some w1)(s2:ZY d2=some w2)
   (hr:∀(H:Hp) (Q:VK),Q (.bl p) H->r w1 w2 H Q) (hm:behindInMarks op e2=false):qA X CL b (.Compare e1 [op] [e2] pos) δ p δ2/\bO X CL b (.Compare e1 [op] [e2] pos) δ (.sh (.bl p)) δ2:=by
 constructor
 . intro H Z σ ts vs Q S k
   refine uE (sf ho cN cN hm) (h1 H Z σ ts vs _ S fun v1 H1 Z1 z1 k1 S1 r1=>h2 H1 Z1 σ ts vs _ S1 fun v2 H2 Z2 z2 k2 S2 r2=>?_)
   rw[r1.sc s1,r2.sc s2]
   exact hr H2 _ ⟨p,rfl,k H2 Z2 (z1.trans z2) (k1.trans k2) S2⟩
 . intro H Z σ ts vs Q S k
   refine bW (se ho cN cN hm) (h1 H Z σ ts vs _ S fun v1 H1 Z1 z1 k1 S1 r1=>h2 H1 Z1 σ ts vs _ S1 fun v2 H2 Z2 z2 k2 S2 r2=>?_)
   rw[r1.sc s1,r2.sc s2]
   exact hr H2 _ (k _ H2 Z2 (z1.trans z2) (k1.trans k2) (S2.push (.bl p)))
theorem f9{i j:Int}(h1:cZ X CL b e1 δ (.int i) δ1)(h2:cZ X CL b e2 δ1 (.int j) δ2):qA X CL b (.Compare e1 [.Eq] [e2] pos) δ (decide (i=j)) δ2/\bO X CL b (.Compare e1 [.Eq] [e2] pos) δ (.sh (.bl (decide (i=j)))) δ2:=
 IG adF h1 h2 rfl rfl (fun _ _ q=>⟨rfl,by rw[show decide (V.int i=V.int j)=decide (i=j) by simp];exact q⟩) (oB _)
theorem yf{i j:Int}(h1:cZ X CL b e1 δ (.int i) δ1)(h2:cZ X CL b e2 δ1 (.int j) δ2):qA X CL b (.Compare e1 [.NotEq] [e2] pos) δ (!decide (i=j)) δ2/\bO X CL b (.Compare e1 [.NotEq] [e2] pos) δ (.sh (.bl (!decide (i=j)))) δ2:=
 IG adG h1 h2 rfl rfl (fun _ _ q=>⟨rfl,by rw[show decide (V.int i=V.int j)=decide (i=j) by simp];exact q⟩) (oB _)
theorem Yc{i j:Int}(h1:cZ X CL b e1 δ (.int i) δ1)(h2:cZ X CL b e2 δ1 (.int j) δ2):qA X CL b (.Compare e1 [.Lt] [e2] pos) δ (decide (i<j)) δ2/\bO X CL b (.Compare e1 [.Lt] [e2] pos) δ (.sh (.bl (decide (i<j)))) δ2:=IG XW h1 h2 rfl rfl (fun _ _ q=>⟨i,j,rfl,rfl,q⟩) (oB _)
theorem N8{i j:Int}(h1:cZ X CL b e1 δ (.int i) δ1)(h2:cZ X CL b e2 δ1 (.int j) δ2):qA X CL b (.Compare e1 [.Gt] [e2] pos) δ (decide (j<i)) δ2/\bO X CL b (.Compare e1 [.Gt] [e2] pos) δ (.sh (.bl (decide (j<i)))) δ2:=IG adI h1 h2 rfl rfl (fun _ _ q=>⟨i,j,rfl,rfl,q⟩) (oB _)
end
theorem aO.split:∀{as bs:List T} {us ws:List V} {gp:List Addr},as.length=us.length->aO K CL H Z (as++bs) (us++ws) gp->∃g1 g2,gp=g1++g2/\aO K CL H Z as us g1/\aO K CL H Z bs ws g2
 | [],_,[],_,gp,_,r=>⟨[],gp,rfl,.nil,r⟩
 | [],_,_::_,_,_,h,_=>by simp at h
 | _::_,_,[],_,_,h,_=>by simp at h
 | a::as,bs,u::us,ws,gp,h,r=>by
   cases r with
   | @cons _ _ _ _ f1 f2 r1 r2=>
     obtain⟨g1,g2,e,h1,h2⟩:=aO.split (as:=as) (us:=us) (by simpa using h) r2
     exact⟨f1++g1,g2,by rw[e,amm],.cons r1 h1,h2⟩
variable{us:List V}
theorem aO.app{as bs:List T}{ws:List V}{g1 g2:List Addr}(h:aO K CL H Z as us g1)(q:aO K CL H Z bs ws g2):aO K CL H Z (as++bs) (us++ws) (g1++g2):=
 aO.ind (P:=fun as us g1=>aO K CL H Z (as++bs) (us++ws) (g1++g2)) q (fun r _ i=>by rw[amm];exact .cons r i) h
theorem aO.rev:∀{as:List T} {us:List V} {g:List Addr},aO K CL H Z as.reverse us.reverse g->∃g',aO K CL H Z as us g'/\g'.Perm g
 | [],[],g,r=>by
   have r':aO K CL H Z [] [] g:=r
   cases r'
   exact⟨[],.nil,ao0 _⟩
 | [],u::us,g,r=>by have:=r.length;simp at this
 | a::as,[],g,r=>by have:=r.length;simp at this
 | a::as,u::us,g,r=>by
   rw[anl,anl]at r
   have hl:=r.length
   obtain⟨g1,g2,e,r1,r2⟩:=aO.split (by simp at hl ⊢;omega) r
   subst e
   obtain⟨g',r',p⟩:=aO.rev r1
   cases r2 with
   | @cons _ _ _ _ f1 f2 q1 q2=>
     cases q2
     refine⟨f1++g',.cons q1 r',?_⟩
     rw[amQ]
     exact(am1 f1 p).trans am2
theorem aO.ofF:∀{ds:List D} {us:List V},ay K CL Z ds us->aO K CL H Z (ds.map T.sh) us []
 | _,_,.nil=>.nil
 | _,_,.cons r t=>.cons (fp:=[]) (gp:=[]) (.sh r) (aO.ofF t)
theorem aO.toF:∀{ds:List D} {us:List V} {g:List Addr},aO K CL H Z (ds.map T.sh) us g->ay K CL Z ds us/\g=[]
 | [],_,_,r=>by
   have r':aO K CL H Z [] _ _:=r
   cases r'
   exact⟨.nil,rfl⟩
 | d::ds,_,_,r=>by
   have r':aO K CL H Z (T.sh d::ds.map T.sh) _ _:=r
   cases r' with
   | cons r1 r2=>
     cases r1 with
     | sh h=>
       obtain⟨q,e⟩:=aO.toF r2
       exact⟨.cons h q,by rw[e];rfl⟩
theorem iY:∀(ds:List D),T.dM (ds.map T.sh)=ds
 | []=>rfl
 | d::ds=>by rw[amB,T.dM,iY ds,T.bP]
variable{tl:List T}
theorem bH.BD(S:bH K CL b H Z δ σ (tl.reverse++ts) (us.reverse++vs))(hl:us.length=tl.length)(hp:H p=none) :
   aA Z (upd Z p (.tup us))/\aA H (upd H p (.tup us))/\bH K CL b (upd H p (.tup us)) (upd Z p (.tup us)) δ σ (.tup tl::ts) (.ref p::vs):=by
 obtain⟨fp,gp,e,r,nd,k⟩:=S.rep
 obtain⟨g1,g2,eg,r1,r2⟩:=aO.split (by simp[hl]) r
 subst eg
 obtain⟨g',r',pm⟩:=r1.rev
 have zp:Z p=none:=S.zh.free hp
 have sz:aA Z (upd Z p (.tup us)):=aA.upd zp
 have sh:aA H (upd H p (.tup us)):=aA.upd hp
 have keep:∀a∈fp++(g1++g2),a≠p:=fun a ha=>by
   have:∃o,H a=some o:=by
     rcases amr.mp ha with h|h
     . exact e.there a h
     . exact r.there a h
   obtain⟨o,q⟩:=this
   exact aM q hp
 have Yd:(fp++(g'++g2)).Perm (fp++(g1++g2)):=(pm.append_right g2).append_left fp
 have kk:∀a∈fp++(g'++g2),a≠p:=fun a ha=>keep a (Yd.mem_iff.mp ha)
 refine⟨sz,sh,⟨⟨fp,g'++g2,e.mono sz (fun a ha=>ao (keep a (amk _ ha))),.cons (.tup az (r'.mono sz fun a ha=>ao (kk a (by simp[ha])))) (r2.mono sz fun a ha=>ao (keep a (by simp[ha]))),Yd.nodup_iff.mpr nd,fun a ha=>?_⟩,S.bh.trans sh,S.zz.trans sz,fun a o q=>?_,fun a o q z=>?_,fun a o q i=>?_,S.tab⟩⟩
 . exact⟨by rw[ao (kk a ha)];exact(k a (Yd.mem_iff.mp ha)).1,(k a (Yd.mem_iff.mp ha)).2⟩
 . by_cases ha:a=p
   . subst ha;rw[az]at q ⊢;exact q
   . rw[ao ha]at q ⊢;exact S.zh a o q
 . by_cases ha:a=p
   . subst ha;exact S.bh.free hp
   . rw[ao ha]at q;exact S.new a o q z
 . by_cases ha:a=p
   . subst ha;rw[az]at q ⊢;exact q
   . rw[ao ha]at q ⊢;exact S.tp a o q i
theorem bH.qX{g0:List Addr}(S:bH K CL b H Z δ σ (tl.reverse++ts) (us.reverse++vs))(hl:us.length=tl.length)(hp:H p=none) :
   aA H (upd H p (.lst us))/\bH K CL b (upd H p (.lst us)) Z δ σ (.lst tl::ts) (.ref p::vs):=by
 obtain⟨fp,gp,e,r,nd,k⟩:=S.rep
 obtain⟨g1,g2,eg,r1,r2⟩:=aO.split (by simp[hl]) r
 subst eg
 obtain⟨g',r',pm⟩:=r1.rev
 have zp:Z p=none:=S.zh.free hp
 have sh:aA H (upd H p (.lst us)):=aA.upd hp
 have keep:∀a∈fp++(g1++g2),a≠p:=fun a ha=>by
   have:∃o,H a=some o:=by
     rcases amr.mp ha with h|h
     . exact e.there a h
     . exact r.there a h
   obtain⟨o,q⟩:=this
   exact aM q hp
 have Yd:(fp++(g'++g2)).Perm (fp++(g1++g2)):=(pm.append_right g2).append_left fp
 have kk:∀a∈fp++(g'++g2),a≠p:=fun a ha=>keep a (Yd.mem_iff.mp ha)
 have pm3:(fp++((p::g')++g2)).Perm (p::(fp++(g'++g2))):=by
   rw[am5];exact ant
 refine⟨sh,⟨⟨fp,(p::g')++g2,e.mono (.refl _) (fun a ha=>ao (keep a (amk _ ha))),.cons (.lst az (r'.mono (.refl _) fun a ha=>ao (kk a (by simp[ha])))) (r2.mono (.refl _) fun a ha=>ao (keep a (by simp[ha]))),?_,fun a ha=>?_⟩,S.bh.trans sh,S.zz,S.zh.trans sh,S.new,fun a o q i=>?_,S.tab⟩⟩
 . refine pm3.nodup_iff.mpr (ana.mpr ⟨fun h=>kk p h rfl,Yd.nodup_iff.mpr nd⟩)
 . rcases ami.mp (pm3.mem_iff.mp ha) with h|h
   . subst h;exact⟨zp,S.bh.free hp⟩
   . exact k a (Yd.mem_iff.mp h)
 . by_cases ha:a=p
   . subst ha;rw[az]at q;cases q;cases i
   . rw[ao ha]at q;exact S.tp a o q i
variable{δ1 δ2:List (Option T)}{e1 e2:Expr}{p q:Bool}{pos:Pos}{d:D}{ds:List D}
theorem cS:IC X CL b [] δ [] δ:=fun H Z σ ts vs Q S k=>N2 dY (k [] H Z rfl (.refl _) (.refl _) S)
theorem aU(h1:bO X CL b e δ t δ1)(h2:IC X CL b es δ1 tl δ2)(hs:starEach (e::es) X.env=(false,eval e X.env)::starEach es X.env:=by exact bA rfl):IC X CL b (e::es) δ (t::tl) δ2:=fun H Z σ ts vs Q S k=>
 N2 (b8 cN X8 hs) (h1 H Z σ ts vs _ S fun v H1 Z1 z1 k1 S1=>h2 H1 Z1 σ _ _ _ S1 fun us H2 Z2 hl z2 k2 S2=>k (v::us) H2 Z2 (by simp[hl]) (z1.trans z2) (k1.trans k2) (by
   rw[anl,anl,amm,amm]
   exact S2))
theorem aF:N6 X CL b [] δ [] δ:=fun H Z σ ts vs Q S k=>N2 dY (k [] H Z (.refl _) (.refl _) S .nil)
theorem ai(h1:cZ X CL b e δ d δ1)(h2:N6 X CL b es δ1 ds δ2)(hs:starEach (e::es) X.env=(false,eval e X.env)::starEach es X.env:=by exact bA rfl):N6 X CL b (e::es) δ (d::ds) δ2:=fun H Z σ ts vs Q S k=>
 N2 (b8 cN X8 hs) (h1 H Z σ ts vs _ S fun v H1 Z1 z1 k1 S1 r1=>h2 H1 Z1 σ _ _ _ S1 fun us H2 Z2 z2 k2 S2 r2=>k (v::us) H2 Z2 (z1.trans z2) (k1.trans k2) S2 (.cons (r1.mono k2) r2))
variable{j:Nat}
theorem gb(h:IC X CL b es δ tl δ1)(hl:tl.length<=sizeLine):bO X CL b (.Tuple es j pos) δ (.tup tl) δ1:=fun H Z σ ts vs Q S k=>
 bW (ZH X8) (h H Z σ ts vs _ S fun us H1 Z1 hu z1 k1 S1=>⟨by rw[hu];exact hl,fun p hp=>by
   obtain⟨a,c,S2⟩:=S1.BD hu hp
   exact k _ _ _ (z1.trans a) (k1.trans c) S2⟩)
theorem aQ(h:IC X CL b es δ (ds.map T.sh) δ1)(hl:ds.length<=sizeLine):bO X CL b (.Tuple es j pos) δ (.sh (.tup ds)) δ1:=by
 have:=FP (gb (pos:=pos) (j:=j) h (by simpa using hl))
 rwa [T.bP,iY]at this
theorem lz(h:IC X CL b es δ tl δ1)(hl:tl.length<=sizeLine):bO X CL b (.List es pos) δ (.lst tl) δ1:=fun H Z σ ts vs Q S k=>
 bW (ZI X8) (h H Z σ ts vs _ S fun us H1 Z1 hu z1 k1 S1=>⟨by rw[hu];exact hl,fun p hp=>by
   obtain⟨c,S2⟩:=S1.qX (g0:=[]) hu hp
   exact k _ _ _ z1 (k1.trans c) S2⟩)
theorem nW(h:bO X CL b e δ (.sh (.bl p)) δ1)(he:∀whole,isTrue e X.env whole=(do let v ← whole;standAt e.pos;holding [v] (truthy v)):=by intro _;rfl):qA X CL b e δ p δ1:=fun H Z σ ts vs Q S k=>
 uE (Za cN he) (h H Z σ ts vs _ S fun v H1 Z1 z1 k1 S1=>⟨p,by have:=S1.view;rw[T.bP]at this;exact this.sc rfl,k H1 Z1 z1 k1 S1.pop⟩)
theorem oH(h:qA X CL b e δ p δ1):qA X CL b (.UnaryOp .Not e pos) δ (!p) δ1:=fun H Z σ ts vs Q S k=>uE (Zd ZT) (h H Z σ ts vs _ S fun H1 Z1 z1 k1 S1=>k H1 Z1 z1 k1 S1)
def ZZ(X:Cx)(e:Expr):TT:=fun σ H Q=>∀(whole:Sem Value) (pins:List (Addr×Obj)) (s:Shared),Inv X pins σ H s->wpAny (model X.prog X.w) X.A (isTrue e X.env whole) (TP X pins σ Q) X.xe s
theorem pwS:PW X e (ZZ X e):=fun whole pins s _ _ _ I h=>h whole pins s I
def Z0(X:Cx)(CL:Str->Addr)(b:Bx)(e:Expr)(δ:List (Option T))(p:Bool)(δ':List (Option T)):Prop:=
 ∀(H Z:Hp) (σ:L2.St) (ts:List T) (vs:List V) (Q:Bool->Hp->Prop),bH X.K CL b H Z δ σ ts vs->(∀H' Z',aA Z Z'->aA H H'->bH X.K CL b H' Z' δ' σ ts vs->Q p H')->ZZ X e σ H Q
theorem UE{t:TT}(h:PW X e t)(q:t σ H Q):ZZ X e σ H Q:=fun whole pins s I=>h whole pins s σ H Q I q
theorem uF(h:Z0 X CL b e δ p δ1):qA X CL b e δ p δ1:=fun H Z σ ts vs Q S k pins s I=>h H Z σ ts vs Q S k _ pins s I
theorem wW(h:qA X CL b e δ p δ1):Z0 X CL b (.BoolOp .And [e] pos) δ p δ1:=fun H Z σ ts vs Q S k=>UE (Uc ZT) (h H Z σ ts vs _ S k)
theorem qY(h:qA X CL b e δ p δ1):Z0 X CL b (.BoolOp .Or [e] pos) δ p δ1:=fun H Z σ ts vs Q S k=>UE (Zb ZT) (h H Z σ ts vs _ S k)
theorem uG(h:qA X CL b e δ p δ1)(h2:p=true->Z0 X CL b (.BoolOp .And (e2::es) pos) δ1 q δ1):Z0 X CL b (.BoolOp .And (e::e2::es) pos) δ (p&&q) δ1:=fun H Z σ ts vs Q S k=>
 UE (Zc ZT pwS) (h H Z σ ts vs _ S fun H1 Z1 z1 k1 S1=>by
   cases p with
   | true=>exact NR (h2 rfl H1 Z1 σ ts vs _ S1 fun H2 Z2 z2 k2 S2=>k H2 Z2 (z1.trans z2) (k1.trans k2) S2)
   | false=>exact NQ (k H1 Z1 z1 k1 S1))
theorem sM(h:qA X CL b e δ p δ1)(h2:p=false->Z0 X CL b (.BoolOp .Or (e2::es) pos) δ1 q δ1):Z0 X CL b (.BoolOp .Or (e::e2::es) pos) δ (p || q) δ1:=fun H Z σ ts vs Q S k=>
 UE (adn ZT pwS) (h H Z σ ts vs _ S fun H1 Z1 z1 k1 S1=>by
   cases p with
   | true=>exact NR (k H1 Z1 z1 k1 S1)
   | false=>exact NQ (h2 rfl H1 Z1 σ ts vs _ S1 fun H2 Z2 z2 k2 S2=>k H2 Z2 (z1.trans z2) (k1.trans k2) S2))
theorem N9{op:BoolOp}(h:bO X CL b e δ t δ1):bO X CL b (.BoolOp op [e] pos) δ t δ1:=fun H Z σ ts vs Q S k=>bW (Ze cN) (h H Z σ ts vs _ S k)
theorem Oa(h:bO X CL b e δ (.sh (.bl p)) δ1)(h2:p=true->bO X CL b (.BoolOp .And (e2::es) pos) δ1 (.sh (.bl q)) δ1):bO X CL b (.BoolOp .And (e::e2::es) pos) δ (.sh (.bl (p&&q))) δ1:=fun H Z σ ts vs Q S k=>
 bW (Zf cN cN) (h H Z σ ts vs _ S fun v H1 Z1 z1 k1 S1=>by
   have hv:v=.bl p:=by have:=S1.view;rw[T.bP]at this;exact this.sc rfl
   refine⟨p,hv,?_⟩
   cases p with
   | true=>exact NR (h2 rfl H1 Z1 σ ts vs _ S1.pop fun v H2 Z2 z2 k2 S2=>k v H2 Z2 (z1.trans z2) (k1.trans k2) S2)
   | false=>exact NQ (k _ H1 Z1 z1 k1 (S1.pop.push (.bl false))))
theorem Z6(h:bO X CL b e δ (.sh (.bl p)) δ1):bO X CL b (.UnaryOp .Not e pos) δ (.sh (.bl (!p))) δ1:=fun H Z σ ts vs Q S k=>
 bW (L2.Zg cN) (h H Z σ ts vs _ S fun v H1 Z1 z1 k1 S1=>⟨p,by have:=S1.view;rw[T.bP]at this;exact this.sc rfl,k _ H1 Z1 z1 k1 (S1.pop.push (.bl (!p)))⟩)
variable{k:Int}
theorem wX(r:ay K CL Z ds vs)(h:rW ds k=some d):∃v,rW vs k=some v/\bu K CL Z d v:=by
 unfold rW at h ⊢
 rw[← r.length]
 cases e:Iv ds.length k with
 | none=>rw[e]at h;cases h
 | some j=>
   rw[e]at h
   exact r.get h
theorem dN(h1:cZ X CL b e1 δ (.tup ds) δ1)(h2:cZ X CL b e2 δ1 (.int k) δ2)(hk:rW ds k=some d)(hs:mJ e2:=by exact fun _ _=>rfl):cZ X CL b (.Subscript e1 e2 pos) δ d δ2:=fun H Z σ ts vs Q S kk=>
 bW (yb Bt cN cN hs) (h1 H Z σ ts vs _ S fun v1 H1 Z1 z1 k1 S1 r1=>h2 H1 Z1 σ ts vs _ S1 fun v2 H2 Z2 z2 k2 S2 r2=>by
   have KZ:=r1.mono k2
   cases KZ with
   | tup hq rr=>
     obtain⟨v,hv,rv⟩:=wX rr hk
     exact⟨_,_,k,v,rfl,r2.sc rfl,hq,hv,kk v H2 Z2 (z1.trans z2) (k1.trans k2) S2 rv⟩)
theorem c5(h1:cZ X CL b e1 δ (.lst ds) δ1)(h2:cZ X CL b e2 δ1 (.int k) δ2)(hk:rW ds k=some d)(hs:mJ e2:=by exact fun _ _=>rfl):cZ X CL b (.Subscript e1 e2 pos) δ d δ2:=fun H Z σ ts vs Q S kk=>
 bW (yb Iw cN cN hs) (h1 H Z σ ts vs _ S fun v1 H1 Z1 z1 k1 S1 r1=>h2 H1 Z1 σ ts vs _ S1 fun v2 H2 Z2 z2 k2 S2 r2=>by
   have KZ:=r1.mono k2
   cases KZ with
   | lst hq rr=>
     obtain⟨v,hv,rv⟩:=wX rr hk
     exact⟨_,_,k,v,rfl,r2.sc rfl,hq,hv,kk v H2 Z2 (z1.trans z2) (k1.trans k2) S2 rv⟩)
variable{x:Str}
theorem Ob{c:Nat}(h1:cZ X CL b e1 δ (.str x) δ1)(h2:cZ X CL b e2 δ1 (.int k) δ2)(hl:x.length<=sizeLine)(hk:rW x.cps.toList k=some c)(hs:mJ e2:=by exact fun _ _=>rfl):bO X CL b (.Subscript e1 e2 pos) δ (.sh (.str ⟨#[c]⟩)) δ2:=fun H Z σ ts vs Q S kk=>
 bW (yb ZM cN cN hs) (h1 H Z σ ts vs _ S fun v1 H1 Z1 z1 k1 S1 r1=>h2 H1 Z1 σ ts vs _ S1 fun v2 H2 Z2 z2 k2 S2 r2=>
   ⟨x,k,c,r1.sc rfl,r2.sc rfl,hl,hk,kk _ H2 Z2 (z1.trans z2) (k1.trans k2) (S2.push (.str _))⟩)
theorem ic(h1:bO X CL b e1 δ (.sh (.tup ds)) δ1)(h2:cZ X CL b e2 δ1 (.int k) δ2)(hk:rW ds k=some d)(hs:mJ e2:=by exact fun _ _=>rfl):bO X CL b (.Subscript e1 e2 pos) δ (.sh d) δ2:=fun H Z σ ts vs Q S kk=>
 bW (yb Bt cN cN hs) (h1 H Z σ ts vs _ S fun v1 H1 Z1 z1 k1 S1=>h2 H1 Z1 σ _ _ _ S1 fun v2 H2 Z2 z2 k2 S2 r2=>by
   obtain⟨fp,gp,_,r,_,_⟩:=S2.rep
   cases r with
   | cons r _=>
     cases r with
     | sh r=>
       cases r with
       | tup hq rr=>
         obtain⟨v,hv,rv⟩:=wX rr hk
         exact⟨_,_,k,v,rfl,r2.sc rfl,aA.wV S2.zh hq,hv,kk v H2 Z2 (z1.trans z2) (k1.trans k2) (S2.pop.push rv)⟩)
theorem dO(h1:bO X CL b e1 δ (.sh (.lst ds)) δ1)(h2:cZ X CL b e2 δ1 (.int k) δ2)(hk:rW ds k=some d)(hs:mJ e2:=by exact fun _ _=>rfl):bO X CL b (.Subscript e1 e2 pos) δ (.sh d) δ2:=fun H Z σ ts vs Q S kk=>
 bW (yb Iw cN cN hs) (h1 H Z σ ts vs _ S fun v1 H1 Z1 z1 k1 S1=>h2 H1 Z1 σ _ _ _ S1 fun v2 H2 Z2 z2 k2 S2 r2=>by
   obtain⟨fp,gp,_,r,_,_⟩:=S2.rep
   cases r with
   | cons r _=>
     cases r with
     | sh r=>
       cases r with
       | lst hq rr=>
         obtain⟨v,hv,rv⟩:=wX rr hk
         exact⟨_,_,k,v,rfl,r2.sc rfl,S2.zh.seq hq,hv,kk v H2 Z2 (z1.trans z2) (k1.trans k2) (S2.pop.push rv)⟩)
theorem bH.qI:∀{ds:List D} {us:List V} {ts:List T} {vs:List V},ay K CL Z ds us->bH K CL b H Z δ σ ts vs->bH K CL b H Z δ σ ((ds.map T.sh).reverse++ts) (us.reverse++vs)
 | _,_,_,_,.nil,S=>S
 | _,_,ts,vs,.cons (d:=d) (v:=v) (ds:=ds) (vs:=us) r t,S=>by
   rw[amB,anl,anl,amm,amm]
   exact bH.qI t (S.push r)
section
variable{pp:Pos}{ds:List D}
theorem II(hm:X.mg "len" = none)(h:cZ X CL b e δ (.lst ds) δ1)(hg:Gl X "len":=by rfl)(hs:starEach [e] X.env=(false,eval e X.env)::starEach [] X.env:=by exact bA rfl)(hpl:(backTo pos (starEach ([]:List Expr) X.env)).any (·.1)=false:=by rfl):bO X CL b (.Call (.Name "len" pp) [e] [] pos) δ (.sh (.int ds.length)) δ1:=fun H Z σ ts vs Q S k=>
 bW (ji sF hg hm PySem.boot_len (b8 cN dY hs) (he:=hs)) (h H Z σ ts vs _ S fun v H1 Z1 z1 k1 S1 r=>by
   cases r with
   | lst hq rr=>exact⟨_,_,rfl,.inl hq,by rw[← rr.length];exact k _ H1 Z1 z1 k1 (S1.push (.int _))⟩)
theorem IJ(hm:X.mg "len" = none)(h:cZ X CL b e δ (.tup ds) δ1)(hg:Gl X "len":=by rfl)(hs:starEach [e] X.env=(false,eval e X.env)::starEach [] X.env:=by exact bA rfl):bO X CL b (.Call (.Name "len" pp) [e] [] pos) δ (.sh (.int ds.length)) δ1:=fun H Z σ ts vs Q S k=>
 bW (ji sF hg hm PySem.boot_len (b8 cN dY hs) (he:=hs)) (h H Z σ ts vs _ S fun v H1 Z1 z1 k1 S1 r=>by
   cases r with
   | tup hq rr=>exact⟨_,_,rfl,.inr hq,by rw[← rr.length];exact k _ H1 Z1 z1 k1 (S1.push (.int _))⟩)
theorem jk(hm:X.mg "list" = none)(h:cZ X CL b e δ (.lst ds) δ1)(hi:D.aY ds=true)(hg:Gl X "list":=by rfl)(hv:bootBuiltins "list" = some (.type "list"):=by rfl)(hs:starEach [e] X.env=(false,eval e X.env)::starEach [] X.env:=by exact bA rfl):bO X CL b (.Call (.Name "list" pp) [e] [] pos) δ (.lst (ds.map T.sh)) δ1:=fun H Z σ ts vs Q S k=>
 bW (iP Bv hg hm hv (b8 cN dY hs) (he:=hs)) (h H Z σ ts vs _ S fun v H1 Z1 z1 k1 S1 r=>by
   cases r with
   | lst hq rr=>
     refine⟨_,_,rfl,.inl hq,fun l hl=>?_⟩
     obtain⟨c,S2⟩:=(bH.qI (ay.gA S1.tp hi rr) S1).qX (g0:=[]) (by simp[rr.length]) hl
     exact k _ _ _ z1 (k1.trans c) S2)
def UG(K:PySem.W.Frag)(CL:Str->Addr){A:Type}(n:Nat)(arg:A->List D)(Pre:A->Prop)(res:A->T):Sp:=fun vs H Q _=>
 ∃(W:Hp) (a:A),aA W H/\(∀c o,H c=some o->iL o=true->W c=some o)/\ay K CL W (arg a) vs/\(arg a).length=n/\Pre a/\lu CL W ∧
   ∀v H' W' fp,aA H H'->aA W W'->aA W' H'->(∀c o,W' c=some o->W c=none->H c=none)->(∀c o,H' c=some o->iL o=true->W' c=some o) →
     bB K CL H' W' (res a) v fp->fp.Nodup->(∀c∈fp,W' c=none/\H c=none)->Q v H'
variable{A:Type}{k n:Nat}{f:Addr}{fd:FuncData}{ps:List Str}{arg:A->List D}{Pre:A->Prop}{res:A->T}
theorem UH(a:A)(F:g9 X.prog X.w X.K X.mg X.base ou k f fd ps (UG X.K CL n arg Pre res))(hr:dW k X.A)(hm:X.mg x=some (.ref f))(hk:PySem.W.keepIn X.K (.ref f)=true)(hb:Binds X.K fd ps [])
   (h:N6 X CL b (e::es) δ (arg a) δ1) (hn:(arg a).length=n) (hp:Pre a) (hc:(res a).clean=true) (hg:Gl X x)
   (wc:(x==("__debug__":Str))=false:=by decide) (he:starEach (e::es) X.env=(false,eval e X.env)::starEach es X.env:=by exact bA rfl) (hpl:(backTo pos (starEach es X.env)).any (·.1)=false:=by rfl) :
   bO X CL b (.Call (.Name x pp) (e::es) [] pos) δ (res a) δ1:=fun H Z σ ts vs Q S kk=>
 bW (Um F hr hg hm hk hb .nil DX X8 wc he hpl) (h H Z σ ts vs _ S fun us H1 Z1 z1 k1 S1 r=>by
   rw[amQ]
   refine⟨H1,a,.refl _,fun _ _ q _=>q,r,hn,hp,S1.KY,fun v H' W' fp hh ww wh nw tp rt nd own=>?_⟩
   obtain⟨Z',z',S'⟩:=S1.back hh S1.zh ww wh nw tp rt nd own (.inr hc)
   exact kk v H' Z' (z1.trans z') (k1.trans hh) S')
variable{D D':eL}{st:Stmt}{gf ad4:List Stmt}
theorem Meets.to{E:Ends}(M:Meets K CL b Z ts vs D E)(h1:∀δ,D'.nx δ->D.nx δ)(h2:∀t δ,D'.rt t δ->D.rt t δ)(h3:∀δ,D'.bk δ->D.bk δ)(h4:∀δ,D'.ct δ->D.ct δ):Meets K CL b Z ts vs D' E:=
 ⟨fun _ _ _ _ s S k=>M.nx _ _ _ _ s S (h1 _ k),fun _ _ _ _ _ _ s S k=>M.rt _ _ _ _ _ _ s S (h2 _ _ k),fun _ _ _ _ s S k=>M.bk _ _ _ _ s S (h3 _ k),fun _ _ _ _ s S k=>M.ct _ _ _ _ s S (h4 _ k)⟩
theorem aC(h:D.nx δ):dZ X CL b [] δ D:=fun H Z σ ts vs E S M=>ad1 Ud (M.nx δ σ H Z (.refl _) S h)
theorem cX(h:Tw X CL b st δ {D with nx:=fun δ1=>dZ X CL b gf δ1 D}):dZ X CL b (st::gf) δ D:=fun H Z σ ts vs E S M=>
 ad1 (Nm psS M3) (h H Z σ ts vs _ S ⟨fun δ' σ' H' Z' s S' k=>k H' Z' σ' ts vs E S' (M.mono s),M.rt,M.bk,M.ct⟩)
theorem Z7(h:bO X CL b e δ t δ1)(k:D.rt t δ1):Tw X CL b (.Return (some e) pos) δ D:=fun H Z σ ts vs E S M=>qz (Zh cN) (h H Z σ ts vs _ S fun v H1 Z1 z1 k1 S1=>M.rt t v H1 Z1 δ1 σ z1 S1 k)
theorem ad5(h:qA X CL b e δ p δ1)(h1:p=true->dZ X CL b gf δ1 D)(h2:p=false->dZ X CL b ad4 δ1 D):Tw X CL b (.If e gf ad4 pos) δ D:=fun H Z σ ts vs E S M=>
 qz (adt ZT M3 M3) (h H Z σ ts vs _ S fun H1 Z1 z1 k1 S1=>by
   cases p with
   | true=>exact NR (h1 rfl H1 Z1 σ ts vs E S1 (M.mono z1))
   | false=>exact NQ (h2 rfl H1 Z1 σ ts vs E S1 (M.mono z1)))
theorem Oc(i:Nat){pos':Pos}(h:bO X CL b e δ t δ1)(k:D.nx (δ1.set i (some t)))(hl:i<δ1.length:=by decide)(hN:X.N.Nodup:=by assumption)(hi:X.N[i]? = some x:=by rfl)(hx:Loc X.env.scope x:=by first|exact .inl rfl|exact .inr rfl)
   (hs:swapsWith e (some (.Name x pos')) pos.line X.env=pure false:=by rfl) (hf:X.fn x=true\/X.env.scope.names.lookup x=some .local:=by first|exact .inl rfl|exact .inr rfl|assumption):Tw X CL b (.Assign [.Name x pos'] e pos) δ D:=fun H Z σ ts vs E S M=>
 qz (Zq hN hi hx cN hs hf) (h H Z σ ts vs _ S fun v H1 Z1 z1 k1 S1=>M.nx _ _ H1 Z1 z1 (S1.set hl) k)
end
def entry(N:List Str)(ds:List D):List (Option T):=ds.map (fun d=>some (T.sh d))++List.replicate (N.length-ds.length) none
theorem iR{K:PySem.W.Frag}{CL:Str->Addr}{H Z:Hp}:∀{ds:List D} {vs:List V} (n:Nat),ay K CL Z ds vs->fE K CL H Z (ds.map (fun d=>some (T.sh d))++List.replicate n none) (vs.map some++List.replicate n none) []
 | _,_,0,.nil=>.nil
 | _,_,n+1,.nil=>.skip (iR (ds:=[]) (vs:=[]) n .nil)
 | _,_,n,.cons r t=>.cons (fp:=[]) (gp:=[]) (.sh r) (iR n t)
variable{P:Program}{w:World}{mg:Str->Option Value}{base:Heap}{qual:Str}{st:Stmt}{f:Addr}{fd:FuncData}{N ps:List Str}{A:Type}
theorem IK{k:Nat}{arg:A->List D}{Pre:A->Prop}{res:A->T}(F:kh K x qual st f fd)(S:aP N ps (ak st))
   (hb:∀(gB:Value) (Ar:Around) (outer:List Env) (s:Shared) (H:Hp) (E:XK) (b:Bx) (a:A),dW k (Ar.deeper (envOfC qual (ak st) s.heap.objs.size f gB))->Pre a →
     dZ (n9 ou P w K mg base N qual (ak st) f gB Ar outer s H E).E7 CL b (ez st) (entry N (arg a)) {nx:=fun _=>res a=.sh .non,rt:=fun t _=>t=res a}) :
   g9 P w K mg base ou (k+1) f fd ps (UG K CL ps.length arg Pre res):=by
 refine F.ok S (fun vs H Q E h=>?_) (fun gB Ar outer s H vs Q E hr h=>?_)
 . obtain⟨W,a,_,_,r,hl,_⟩:=h
   rw[← r.length];exact hl
 . obtain⟨W,a,wh,tp,r,hl,hp,tb,kk⟩:=h
   refine⟨_,M3,hb gB Ar outer s H E ⟨H,W⟩ a hr hp H W _ [] [] _ ⟨⟨[],[],?_,.nil,ang,fun a ha=>by cases ha⟩,.refl _,.refl _,wh,fun a o q z=>?_,tp,tb⟩ ⟨fun δ' σ' H' Z' s' S' e=>?_,fun t v H' Z' δ' σ' s' S' e=>?_,fun _ _ _ _ _ _ e=>e.elim,fun _ _ _ _ _ _ e=>e.elim⟩⟩
   . unfold entry L2.start
     rw[← r.length]
     exact iR _ r
   . have q':W a=some o:=q
     have z':W a=none:=z
     rw[q']at z';cases z'
   . exact kk .non H' Z' [] S'.bh S'.zz S'.zh S'.new S'.tp (by rw[show res a=.sh .non from e];exact .sh .non) ang fun a ha=>by cases ha
   . have e':t=res a:=e
     subst e'
     obtain⟨fp,gp,_,r',nd,own⟩:=S'.rep
     cases r' with
     | @cons _ _ _ _ f1 f2 r1 r2=>
       have h1:=(amK.mp nd).2.1
       exact kk v H' Z' f1 S'.bh S'.zz S'.zh S'.new S'.tp r1 (amK.mp h1).1 fun a ha=>own a (amc _ (amk _ ha))
variable{prog:Program}{A:Around}{R:Result->Shared->Prop}{s:Shared}{elt iter:Expr}{ifs:List Expr}{scope:Scope}
theorem BE{target:Expr}{it acc:Value}(I:Nat->Shared->Prop)
   (turn:∀n s,I n s->wpAny (model prog w) A (pyNext it) (fun r s₁=>match r with
     | none=>R (.ok .next) s₁
     | some v=>wpAny (model prog w) A (letOwnedTupleGo target it v) (fun _ Ye=>wpAny (model prog w) A (assign target env v) (fun _ s₂=>
         wpAny (model prog w) A (forIn ifs true fun c r=>if r=true then do let ok ← isTrue c env (eval c env);pure (ForInStep.yield ok) else pure (ForInStep.yield r)) (fun ok s₃=>
           if ok=true then wpAny (model prog w) A (eval elt env) (fun x s₄=>
             wpAny (model prog w) A (call (.builtin "list.append") [acc,x]) (fun _ s₅=>∃m,m<n/\I m s₅) (fun _ _=>False) s₄) (fun _ _=>False) s₃
           else ∃m,m<n/\I m s₃) (fun _ _=>False) s₂) (fun _ _=>False) Ye) (fun _ _=>False) s₁) (fun _ _=>False) s)
   (n:Nat) (h:I n s) :
   codeAny (model prog w) A (.compLoop (.ListComp elt [⟨target,iter,ifs,0⟩] scope pos) 0 it acc env) R s:=by
 refine codeAny_loop rfl I (fun n s hI=>?_) n h
 show wpAny _ A ((compTurn (.ListComp elt [⟨target,iter,ifs,0⟩] scope pos) 0 it acc env).onRaise (fun x=>do noteFrame x env;theTreesLotGoes x)) _ _ s
 refine wpAny_noted ?_
 rw[compTurn_list]
 refine al6 (wpAny_standAt (al6 (anC (turn n s hI) (fun r s₁ h₁=>?_) fun _ _ h'=>h'.elim)))
 cases r with
 | none=>exact amd h₁
 | some v=>
   refine al6 (anC h₁ (fun _ Ye h₁'=>?_) fun _ _ h'=>h'.elim)
   refine al6 (anC h₁' (fun _ s₂ h₂=>al6 (anC h₂ (fun ok s₃ h₃=>?_) fun _ _ h'=>h'.elim)) fun _ _ h'=>h'.elim)
   cases ok with
   | false=>exact amd ⟨rfl,h₃⟩
   | true=>
     exact al6 (al6 (anC h₃ (fun x s₄ h₄=>al6 (anC h₄ (fun _ s₅ h₅=>amd (amd ⟨rfl,h₅⟩)) fun _ _ h'=>h'.elim)) fun _ _ h'=>h'.elim))
def cT(env:Env):List (Str×NameKind)->List (Str×Addr)->List (Str×Addr)
 | [],cs=>cs
 | (n,k)::r,cs=>cT env r (if k == .free then(n,(env.cells.lookup n).getD 0)::cs else cs)
theorem lA(h:∀x∈scope.names,x.2=.free->∃c,env.cells.lookup x.1=some c):closureFor scope env=pure (cT env scope.names []):=by
 have go:∀(l:List (Str×NameKind)) (cs:List (Str×Addr)),(∀x∈l,x.2=.free->∃c,env.cells.lookup x.1=some c) →
     (forIn l cs fun x r=>match x with|(name,kind)=>if (kind==NameKind.free)=true then do let a ← cellOf env name;pure (ForInStep.yield ((name,a)::r)) else pure (ForInStep.yield r):Sem (List (Str×Addr)))=pure (cT env l cs):=by
   intro l
   induction l with
   | nil=>intro cs _;rfl
   | cons x r ih=>
     intro cs hx
     obtain⟨n,k⟩:=x
     rw[List.forIn_cons]
     by_cases hk:k=.free
     . subst hk
       obtain⟨c,hc⟩:=hx (n,.free) ama rfl
       have e:cellOf env n=pure c:=by unfold cellOf;rw[hc]
       simp only[anM,aoy,e,pure_bind]
       rw[ih _ fun y hy=>hx y (ame _ hy)]
       simp only[cT,anM,aoy]
       rw[hc];rfl
     . have hb:(k==NameKind.free)=false:=by simpa using hk
       simp only[hb,anN,an1,pure_bind]
       rw[ih _ fun y hy=>hx y (ame _ hy)]
       simp only[cT,hb,anN,an1]
 unfold closureFor
 have:=go scope.names [] h
 simp only[bind_pure]at this ⊢
 exact this
theorem mK{env:Env}:∀{l:List (Str×NameKind)} {cs:List (Str×Addr)} {y:Str} {c:Addr},(∀x∈l,x.2=.free->∃c,env.cells.lookup x.1=some c)->(∀y c,cs.lookup y=some c->env.cells.lookup y=some c) →
   (cT env l cs).lookup y=some c->env.cells.lookup y=some c
 | [],cs,y,c,_,h,e=>h y c e
 | (n,k)::r,cs,y,c,hx,h,e=>by
   refine mK (l:=r) (fun z hz=>hx z (ame _ hz)) (fun z d hz=>?_) e
   by_cases hk:k=.free
   . subst hk
     obtain⟨c',hc⟩:=hx (n,.free) ama rfl
     simp only[anM,aoy,hc,Option.getD_some,amP]at hz
     by_cases hzn:(z==n)=true
     . rw[hzn]at hz
       have:z=n:=by simpa using hzn
       subst this
       cases hz
       exact hc
     . have:(z==n)=false:=by simpa using hzn
       rw[this]at hz
       exact h z d hz
   . have hb:(k==NameKind.free)=false:=by simpa using hk
     rw[hb]at hz
     exact h z d hz
theorem vN{env:Env}{y:Str}:∀{l:List (Str×NameKind)} {cs:List (Str×Addr)},(∃c,cs.lookup y=some c)->∃c,(cT env l cs).lookup y=some c
 | [],cs,h=>h
 | (n,k)::r,cs,h=>by
   refine vN (l:=r) ?_
   by_cases hk:(k==NameKind.free)=true
   . rw[amx hk,amP]
     by_cases hy:(y==n)=true
     . rw[hy];exact⟨_,rfl⟩
     . have:(y==n)=false:=by simpa using hy
       rw[this];exact h
   . rw[amq hk];exact h
theorem ko{env:Env}{y:Str}:∀{l:List (Str×NameKind)} {cs:List (Str×Addr)},l.lookup y=some .free->∃c,(cT env l cs).lookup y=some c
 | [],_,h=>by simp at h
 | (n,k)::r,cs,h=>by
   rw[amP]at h
   by_cases hy:(y==n)=true
   . rw[hy]at h
     cases h
     refine vN (l:=r) ?_
     rw[amx (by rfl),amP,hy]
     exact⟨_,rfl⟩
   . have:(y==n)=false:=by simpa using hy
     rw[this]at h
     exact ko (l:=r) h
def d7(X:Cx)(scope:Scope)(Nc:List Str)(C:Addr)(s:Shared)(H:Hp)(fp:List Addr):Cx where
 prog:=X.prog
 w:=X.w
 K:=X.K
 mg:=X.mg
 base:=X.base
 A:=X.A
 N:=Nc
 s₀:=s
 H₀:=H
 env:=compEnvC scope (cT X.env scope.names []) C X.env
 outer:=X.stack
 stack:=X.stack
 ex:=fp
 fn:=fun _=>false
 calm:=X.calm
 pn:=[]
 xe:=fun _ _=>False
structure fO(X:Cx)(scope:Scope)(x:Str)(Nc:List Str)(ix:List Nat):Prop where
 kind:scope.kind=.function
 uH:∀y∈scope.names,y.2 ≠ .cell
 nd:Nc.Nodup
 names:∀y∈scope.names,y.2=.local->scope.names.lookup y.1=some .local
 own:scope.names.lookup x=some .local
 frees:∀y∈scope.names,y.2=.free->scope.names.lookup y.1=some .free/\(X.env.kindOf y.1=some .cell\/X.env.kindOf y.1=some .free)
 hd:Nc=x::ix.filterMap (X.N[·]?)
 Yg:∀i∈ix,∃y,X.N[i]? = some y/\scope.names.lookup y=some .free
theorem gi{env:Env}:∀{names:List (Str×NameKind)} {x:Str} {k:NameKind},names.lookup x=some k ->
   (names.map fun(n,k)=>if (k==NameKind.free&&env.scope.kind == .function&&env.kindOf n==some .cell) then(n,NameKind.cell) else(n,k)).lookup x=some (if (k==NameKind.free&&env.scope.kind == .function&&env.kindOf x==some .cell) then .cell else k)
 | [],_,_,h=>by simp at h
 | (n,k')::r,x,k,h=>by
   have ih:=@gi env r x k
   show List.lookup x ((if (k'==NameKind.free&&env.scope.kind == .function&&env.kindOf n==some .cell)=true then(n,NameKind.cell) else(n,k'))::_)=_
   cases hx:x==n with
   | true=>
     simp only[amP,hx]at h
     cases h
     have e:x=n:=by simpa using hx
     subst e
     split<;>simp[amP]
   | false=>
     simp only[amP,hx]at h
     split
     . simp only[amP,hx];exact ih h
     . simp only[amP,hx];exact ih h
theorem jE{env:Env}:∀{names:List (Str×NameKind)} {x:Str},names.lookup x=none ->
   (names.map fun(n,k)=>if (k==NameKind.free&&env.scope.kind == .function&&env.kindOf n==some .cell) then(n,NameKind.cell) else(n,k)).lookup x=none
 | [],_,_=>rfl
 | (n,k')::r,x,h=>by
   have ih:=@jE env r x
   show List.lookup x ((if (k'==NameKind.free&&env.scope.kind == .function&&env.kindOf n==some .cell)=true then(n,NameKind.cell) else(n,k'))::_)=_
   cases hx:x==n with
   | true=>simp only[amP,hx]at h;cases h
   | false=>
     simp only[amP,hx]at h
     split
     . simp only[amP,hx];exact ih h
     . simp only[amP,hx];exact ih h
variable{Nc:List Str}{ix:List Nat}{pins:List (Addr×Obj)}
def uI(σ:L2.St)(ix:List Nat)(o:Option V):L2.St:=o::ix.map fun i=>(σ[i]?).getD none
theorem K0{Ig:List (Addr×Obj)}{σ':L2.St}{s':Shared}{h'':Heap}(I:Inv X pins σ H s)(pN:∀b∈fp,v8 X pins H b)
   (J:Inv (d7 X scope Nc s.heap.objs.size s H fp) Ig σ' H' s') (hs:Heap.SameBut s.heap.objs.size s'.heap h''):Inv X pins σ H' {s' with heap:=h''}:=by
 have un:Un (Ao X.stack) fp H H' s.heap s'.heap:=J.base
 have un2:Un (Ao X.stack) fp H H' s.heap h'':=by
   have ne:∀b o,s.heap.get? b=some o->b≠s.heap.objs.size:=fun b o e=>amV (amC e)
   refine⟨fun b o e n hb hx=>(hs.2 b (ne b o e)).trans (un.keep b o e n hb hx),fun b o e n hb hx=>?_,un.free,fun b o e hx=>?_,un.zN,un.dM,un.zO⟩
   . obtain⟨sl,q⟩:=un.slot b o e n hb hx
     exact⟨sl,(hs.2 b (ne b o e)).trans q⟩
   . obtain⟨o',q⟩:=un.there b o e hx
     exact⟨o',(hs.2 b (ne b o e)).trans q⟩
 have nC:H' s.heap.objs.size=none:=J.free
 have cQ:qF X.prog X.w H' h'':=fun b u e=>by
   refine(J.cQ b u e).v7 (fun c v hc q=>(hs.2 c ?_).trans q) (fun _ q=>q) fun _ _ q=>q
   rintro rfl
   rcases hc with z|z
   . subst z;rw[nC]at e;cases e
   . rw[nC]at z;cases z
 obtain⟨hh,g,d,t,os'⟩:=s'
 obtain rfl:os'=s.os:=J.os
 show L2.Inv X pins σ H' {s with heap:=h'',gens:=g,drawn:=d,toks:=t}
 exact I.call (h':=h'') (g':=g) (d':=d) (t':=t) (ch:=fp) un2 cQ J.bare fun b hb=>⟨(pN b hb).2.2.2.1,(pN b hb).2.1,(pN b hb).2.2.2.2.1,(pN b hb).2.2.2.2.2⟩
def Z8(X:Cx):List Expr->TT
 | []=>fun _ H Q=>Q true H
 | [c]=>Uy X c
 | _=>fun _ _ _=>False
theorem Od(I:Inv X pins σ H s)(h:Z8 X ifs σ H Q)(hx:X.xe=fun _ _=>False) :
   wpAny (model X.prog X.w) X.A (forIn ifs true fun c r=>if r=true then do let ok ← isTrue c X.env (eval c X.env);pure (ForInStep.yield ok) else pure (ForInStep.yield r)) (TP X pins σ Q) (fun _ _=>False) s:=by
 match ifs,h with
 | [],h=>exact wpAny_tests_nil ⟨H,I,h⟩
 | [c],h=>
   have:=h pins s I
   rw[hx]at this
   exact wpAny_tests_one this
def TIv(X:Cx)(CL:Str->Addr)(b:Bx)(ifs:List Expr)(δ:List (Option T))(p:Bool):Prop:=
 match ifs with
 | []=>p=true
 | [c]=>qA X CL b c δ p δ
 | _=>False
theorem TIv.sem(h:TIv X CL b ifs δ p)(S:bH X.K CL b H Z δ σ [] [])
   (k:∀H' Z',aA Z Z'->aA H H'->bH X.K CL b H' Z' δ σ [] []->Q p H'):Z8 X ifs σ H Q:=by
 match ifs,h with
 | [],h=>
   have e:p=true:=h
   subst e
   exact k H Z (.refl _) (.refl _) S
 | [c],h=>exact(show qA X CL b c δ p δ from h) H Z σ [] [] Q S k
theorem AG:(T.lst ts).clean=T.cR ts:=by rw[T.clean]
theorem yg{g:D->T}:∀{ds:List D},(∀d∈ds,(g d).clean=true)->T.cR (ds.map g)=true
 | [],_=>by rw[anL,T.cR]
 | d::ds,h=>by
   rw[amB,T.cR,h d ama,yg fun e he=>h e (ame _ he)]
   rfl
theorem aO.at:∀{tl:List T} {us:List V} {fp:List Addr} {j:Nat} {t:T},aO K CL H Z tl us fp->tl[j]? = some t->∃v f1 f2 f3,us[j]? = some v/\fp=f1++(f2++f3)/\bB K CL H Z t v f2 ∧
   ∀{H':Hp} {t':T} {v':V} {g:List Addr},(∀a∈f1++f3,H' a=H a)->bB K CL H' Z t' v' g->aO K CL H' Z (tl.set j t') (us.set j v') (f1++(g++f3))
 | _,_,_,_,_,.nil,e=>by simp at e
 | _,_,_,0,_,.cons (fp:=fp) (gp:=gp) r q,e=>by
   simp at e
   subst e
   exact⟨_,[],fp,gp,rfl,rfl,r,fun {H' t' v' g} k r'=>aO.cons (fp:=g) (gp:=gp) r' (aO.mono (fp:=gp) (.refl _) (fun a ha=>k a (by simpa using ha)) q)⟩
 | _,_,_,j+1,t,.cons (fp:=fp) (gp:=gp) r q,e=>by
   obtain⟨v,f1,f2,f3,h1,h2,h3,h4⟩:=aO.at (j:=j) (t:=t) q (by simpa using e)
   refine⟨v,fp++f1,f2,f3,by simpa using h1,by rw[h2,List.append_assoc],h3,fun k r'=>?_⟩
   rw[amm]
   exact .cons (r.mono (.refl _) fun a ha=>k a (by simp[ha])) (h4 (fun a ha=>k a (by rw[amm];exact amc _ ha)) r')
variable{α:Type}
theorem gj{l:List α}{x:α}(h:l[i]? = some x):l.set i x=l:=by
 apply an8
 intro j
 rw[List.getElem?_set]
 split
 . rename_i e;subst e
   split
   . exact h.symm
   . rename_i h2;rw[am3 (by omega)]
 . rfl
theorem bH.write{f1 f2 f3 g gp IL:List Addr}(S:bH K CL b H Z δ σ ts vs)(nd:((f1++(f2++f3))++gp).Nodup)(own:∀c∈(f1++(f2++f3))++gp,Z c=none/\b.B c=none)(ha:a∈f2)
   (hH:∃o,H a=some o) (e':fE K CL (upd H a (.lst xs)) Z δ2 σ (f1++(g++f3))) (r':aO K CL (upd H a (.lst xs)) Z tl us IL) (pm:((f1++(g++f3))++IL).Nodup) (sub:∀c∈(f1++(g++f3))++IL,c∈(f1++(f2++f3))++gp) :
   bH K CL b (upd H a (.lst xs)) Z δ2 σ tl us:=by
 have oa:=own a (by simp[ha])
 refine⟨⟨_,_,e',r',pm,fun c hc=>own c (sub c hc)⟩,fun c o q=>?_,S.zz,fun c o q=>?_,S.new,fun c o q i=>?_,S.tab⟩
 . rw[ao (aM q oa.2)];exact S.bh c o q
 . rw[ao (aM q oa.1)];exact S.zh c o q
 . by_cases hc:c=a
   . subst hc;rw[az]at q;cases q;cases i
   . rw[ao hc]at q;exact S.tp c o q i
theorem bH.append(S:bH K CL b H Z δ σ (t::ts) (v::vs))(hi:δ[i]? = some (some (.lst tl))) :
   ∃a us,σ[i]? = some (some (.ref a))/\H a=some (.lst us)/\us.length=tl.length/\bH K CL b (upd H a (.lst (us++[v]))) Z (δ.set i (some (.lst (tl++[t])))) σ ts vs:=by
 obtain⟨fp,gp,e,r,nd,k⟩:=S.rep
 obtain⟨v0,f1,f2,f3,hv,pN,rt,put,_⟩:=e.get hi
 subst pN
 cases rt with
 | @lst a us _ g ha rs=>
   cases r with
   | @cons _ _ _ _ ft gr q1 q2=>
     have ne:∀c∈(f1++(g++f3))++(ft++gr),c≠a:=fun c hc e=>by
       subst e
       have hp:((f1++((c::g)++f3))++(ft++gr)).Perm (c::((f1++(g++f3))++(ft++gr))):=by
         rw[am5,← am5]
         exact(ant.append_right _)
       exact(ana.mp (hp.nodup_iff.mp nd)).1 hc
     refine⟨a,us,hv,ha,rs.length.symm,?_⟩
     have r1:bB K CL (upd H a (.lst (us++[v]))) Z (.lst (tl++[t])) (.ref a) (a::(g++(ft++[]))):=
       .lst az (aO.app (rs.mono (.refl _) fun c hc=>ao (ne c (by simp[hc]))) (.cons (q1.mono (.refl _) fun c hc=>ao (ne c (by simp[hc]))) .nil))
     have e2:=put (H':=upd H a (.lst (us++[v]))) (.refl _) (fun c hc=>ao (ne c (by
       rcases amr.mp hc with h|h
       . simp[h]
       . simp[h]))) r1
     rw[gj hv]at e2
     have hp:((f1++((a::(g++(ft++[])))++f3))++gr).Perm ((f1++((a::g)++f3))++(ft++gr)):=by
       simp only[amQ,am5,amm]
       refine am1 f1 (List.Perm.cons a (am1 g ?_))
       rw[← amm,← amm]
       exact am2.append_right gr
     exact S.write nd k (ama) ⟨_,ha⟩ e2 (q2.mono (.refl _) fun c hc=>ao (ne c (by simp[hc]))) (hp.nodup_iff.mpr nd) fun c hc=>hp.mem_iff.mp hc
theorem bH.setAt(S:bH K CL b H Z δ σ (t::ts) (v::vs))(hi:δ[i]? = some (some (.lst tl)))(hj:j<tl.length) :
   ∃a us,σ[i]? = some (some (.ref a))/\H a=some (.lst us)/\us.length=tl.length/\bH K CL b (upd H a (.lst (us.set j v))) Z (δ.set i (some (.lst (tl.set j t)))) σ ts vs:=by
 obtain⟨fp,gp,e,r,nd,k⟩:=S.rep
 obtain⟨v0,f1,f2,f3,hv,pN,rt,put,_⟩:=e.get hi
 subst pN
 cases rt with
 | @lst a us _ g ha rs=>
   cases r with
   | @cons _ _ _ _ ft gr q1 q2=>
     have ne:∀c∈(f1++(g++f3))++(ft++gr),c≠a:=fun c hc e=>by
       subst e
       have hp:((f1++((c::g)++f3))++(ft++gr)).Perm (c::((f1++(g++f3))++(ft++gr))):=by
         rw[am5,← am5]
         exact(ant.append_right _)
       exact(ana.mp (hp.nodup_iff.mp nd)).1 hc
     refine⟨a,us,hv,ha,rs.length.symm,?_⟩
     obtain⟨vj,g1,g2,g3,_,hg,_,set⟩:=rs.at (al9 hj)
     subst hg
     have r1:bB K CL (upd H a (.lst (us.set j v))) Z (.lst (tl.set j t)) (.ref a) (a::(g1++(ft++g3))):=
       .lst az (set (fun c hc=>ao (ne c (by
         rcases amr.mp hc with h|h
         . simp[h]
         . simp[h]))) (q1.mono (.refl _) fun c hc=>ao (ne c (by simp[hc]))))
     have e2:=put (H':=upd H a (.lst (us.set j v))) (.refl _) (fun c hc=>ao (ne c (by
       rcases amr.mp hc with h|h
       . simp[h]
       . simp[h]))) r1
     rw[gj hv]at e2
     have hp:((f1++((a::(g1++(ft++g3)))++f3))++gr).Perm ((f1++((a::(g1++g3))++f3))++(ft++gr)):=by
       simp only[am5,amm]
       refine am1 f1 (List.Perm.cons a (am1 g1 ?_))
       have:=(am2 (l₁:=ft) (l₂:=g3++f3)).append_right gr
       simp only[amm]at this
       exact this
     have sb:((f1++((a::(g1++g3))++f3))++(ft++gr)).Sublist ((f1++((a::(g1++(g2++g3)))++f3))++(ft++gr)):=by
       refine am7 (am7 (am4 _) (am7 (List.Sublist.cons₂ a ?_) (am4 _))) (am4 _)
       exact am7 (am4 _) (anH _ _)
     exact S.write nd k (ama) ⟨_,ha⟩ e2 (q2.mono (.refl _) fun c hc=>ao (ne c (by simp[hc]))) (hp.nodup_iff.mpr (nd.sublist sb)) fun c hc=>sb.subset (hp.mem_iff.mp hc)
section
variable{tl0:List T}{D:eL}{pp pa pb:Pos}
theorem Z9(i:Nat)(h0:δ[i]? = some (some (.lst tl0)))(h:bO X CL b e δ t δ1)(h1:δ1[i]? = some (some (.lst tl)))(hl:tl.length<sizeLine)(k:D.nx (δ1.set i (some (.lst (tl++[t])))))
   (hi:X.N[i]? = some x:=by rfl) (hv:XS X.env.scope x:=by first|exact Or.inl rfl|exact Or.inr (Or.inl rfl)|exact Or.inr (Or.inr rfl)) (hd:(x==("__debug__":Str))=false:=by decide) (iO:(x==("__classdict__":Str))=false:=by decide)
   (kg:attributeBase (.Name x pp) "append" X.env (eval (.Name x pp) X.env)=eval (.Name x pp) X.env:=by rfl)
   (yc:((backTo pb (starEach [e] X.env)).all (fun x=>!x.1)&&(backToKw pb (keywordEach [] X.env)).all (fun x=>x.1.isSome)&&decide ([e].length+([]:List Keyword).length+(if ([]:List Keyword).isEmpty then 0 else 1)<30))=true:=by rfl)
   (hline:(pa.endLine==pb.line)=true:=by rfl) (hs:starEach [e] X.env=(false,eval e X.env)::starEach [] X.env:=by exact bA rfl) (K1:swapsWith (.Call (.Attribute (.Name x pp) "append" pa) [e] [] pb) none pos.line X.env=pure false:=by rfl) :
   Tw X CL b (.Expr (.Call (.Attribute (.Name x pp) "append" pa) [e] [] pb) pos) δ D:=fun H Z σ ts vs E S M=>
 qz (Ii (X6 PySem.F.plainAttrs_list PySem.F.slot_list_append PySem.F.type_list_append Az (g8 hi hv hd iO) (b8 cN dY hs) kg yc hline hs rfl) K1) (by
   obtain⟨v0,e0,r0⟩:=S.look h0
   refine⟨v0,e0,?_,?_⟩
   . rw[T.bP]at r0
     cases r0 with
     | lst hq _=>exact .inl ⟨rfl,_,hq⟩
   . refine h H Z σ ts vs _ S fun v H1 Z1 z1 k1 S1=>?_
     obtain⟨a,us,ea,ha,hu,S2⟩:=S1.append h1
     rw[e0]at ea
     cases ea
     exact⟨a,us,v,rfl,rfl,ha,by rw[hu];exact hl,M.nx _ σ _ Z1 z1 S2 k⟩)
end
def ad7:Option (Option T)->Option T
 | some (some t)=>some (.sh t.bP)
 | _=>none
def shO:Option (Option T)->Option T
 | some (some (T.sh d))=>some (.sh d)
 | _=>none
def wj(δ:List (Option T))(ix:List Nat):List (Option T):=ix.map fun i=>ad7 δ[i]?
def D3(δ:List (Option T))(ix:List Nat):List (Option T):=ix.map fun i=>shO δ[i]?
theorem yh(S:bH K CL b H Z δ σ ts vs):∀(ix:List Nat) (H':Hp),fE K CL H' H (wj δ ix) (ix.map fun i=>(σ[i]?).getD none) []
 | [],_=>.nil
 | i::r,H'=>by
   have ih:=yh S r H'
   show fE K CL H' H (ad7 δ[i]?::wj δ r) (((σ[i]?).getD none)::r.map fun i=>(σ[i]?).getD none) []
   cases e:δ[i]? with
   | none=>exact .skip ih
   | some o=>
     cases o with
     | none=>exact .skip ih
     | some t=>
       obtain⟨v,hv,rv⟩:=S.look e
       rw[hv]
       exact .cons (fp:=[]) (gp:=[]) (.sh rv) ih
theorem D4(S:bH K CL b H Z δ σ ts vs):∀(ix:List Nat) (H':Hp),fE K CL H' Z (D3 δ ix) (ix.map fun i=>(σ[i]?).getD none) []
 | [],_=>.nil
 | i::r,H'=>by
   have ih:=D4 S r H'
   show fE K CL H' Z (shO δ[i]?::D3 δ r) (((σ[i]?).getD none)::r.map fun i=>(σ[i]?).getD none) []
   cases e:δ[i]? with
   | none=>exact .skip ih
   | some o=>
     cases o with
     | none=>exact .skip ih
     | some t=>
       cases t with
       | sh d=>
         obtain⟨v,hv,rv⟩:=S.N4 e
         rw[hv]
         exact .cons (fp:=[]) (gp:=[]) (.sh rv) ih
       | tup _=>exact .skip ih
       | lst _=>exact .skip ih
       | ins _ _=>exact .skip ih
       | rX _=>exact .skip ih
       | dct _=>exact .skip ih
       | pin _ _=>exact .skip ih
       | gF _ _ _=>exact .skip ih
section
variable{ds:List D}
structure Comes(X:Cx)(CL:Str->Addr)(b:Bx)(δ1:List (Option T))(σ:L2.St)(ts:List T)(vs:List V)(Z H:Hp)(ds:List D)(J:It)(H1:Hp):Prop where
 ex:∃Z1 us,aA Z Z1/\aA H H1/\bH X.K CL b H1 Z1 δ1 σ ts vs/\ay X.K CL Z1 ds us/\(∀i H2,aA Z1 H2->i<ds.length->J.go i H2) ∧
   (∀i H2 x H',aA Z1 H2->i<ds.length->J.XU i H2 x H'->H'=H2/\us[i]? = some x)/\(∀H2,aA Z1 H2->J.stop ds.length H2)
def Yh(X:Cx)(CL:Str->Addr)(b:Bx)(tg e:Expr)(δ:List (Option T))(ds:List D)(δ1:List (Option T)):Prop:=
 ∃wi,PI X tg e wi/\∀(H Z:Hp) (σ:L2.St) (ts:List T) (vs:List V) (R:It->Hp->Prop),bH X.K CL b H Z δ σ ts vs->(∀J H1,Comes X CL b δ1 σ ts vs Z H ds J H1->R J H1)->wi σ H R
theorem gH{tg:Expr}(h:bO X CL b iter δ (.sh (.lst ds)) δ1):Yh X CL b tg iter δ ds δ1:=by
 refine⟨_,Ue cN,fun H Z σ ts vs R S k=>h H Z σ ts vs _ S fun v H1 Z1 z1 k1 S1=>?_⟩
 obtain⟨fp,gp,_,r,_,_⟩:=S1.rep
 cases r with
 | cons r _=>
   cases r with
   | sh r=>
     cases r with
     | @lst a us _ hq rr=>
       refine⟨a,rfl,⟨us,S1.zh.seq hq⟩,k _ _ ⟨Z1,us,z1,k1,S1.pop,rr,fun i H2 s hi=>?_,fun i H2 y H' s hi hy=>⟨hy.1,hy.2 us (s.seq hq)⟩,fun H2 s=>⟨us,s.seq hq,by rw[rr.length];exact aml _⟩⟩⟩
       have hi':i<us.length:=by rw[← rr.length];exact hi
       exact⟨us,us[i],s.seq hq,by simp[hi']⟩
theorem Oe{tg:Expr}(h:bO X CL b iter δ (.sh (.tup ds)) δ1):Yh X CL b tg iter δ ds δ1:=by
 refine⟨_,Zv cN,fun H Z σ ts vs R S k=>h H Z σ ts vs _ S fun v H1 Z1 z1 k1 S1=>?_⟩
 obtain⟨fp,gp,_,r,_,_⟩:=S1.rep
 cases r with
 | cons r _=>
   cases r with
   | sh r=>
     cases r with
     | @tup a us _ hq rr=>
       refine⟨a,rfl,⟨us,aA.wV S1.zh hq⟩,k _ _ ⟨Z1,us,z1,k1,S1.pop,rr,fun i H2 s hi=>?_,fun i H2 y H' s hi hy=>⟨hy.1,hy.2 us (aA.wV s hq)⟩,fun H2 s=>⟨us,aA.wV s hq,by rw[rr.length];exact aml _⟩⟩⟩
       have hi':i<us.length:=by rw[← rr.length];exact hi
       exact⟨us,us[i],aA.wV s hq,by simp[hi']⟩
def ck(lo:Int)(n:Nat):List D:=(List.range n).map fun(i:Nat)=>D.int (lo+i)
theorem Og(lo:Int)(n:Nat):ay K CL Z (ck lo n) ((List.range n).map fun(i:Nat)=>V.int (lo+i)):=by
 unfold ck
 generalize List.range n=l
 induction l with
 | nil=>exact .nil
 | cons i r ih=>exact .cons (.int _) ih
theorem cu{tg:Expr}{pr pc:Pos}{n:Int}(hm:X.mg "range" = none)(h:cZ X CL b iter δ (.int n) δ1)(hn:-(2 ^ 62)<=n/\n<2 ^ 62)(hg:Gl X "range")(E8:starEach [iter] X.env=[(false,eval iter X.env)]:=by rfl)(ag4:starEach [iter] X.env=(false,eval iter X.env)::starEach [] X.env:=by exact bA rfl) :
   Yh X CL b tg (.Call (.Name "range" pr) [iter] [] pc) δ (ck 0 n.toNat) δ1:=by
 refine⟨_,Ks hg hm (b8 cN dY ag4) E8,fun H Z σ ts vs R S k=>h H Z σ ts vs _ S fun v H1 Z1 z1 k1 S1 r=>⟨n,by rw[r.sc rfl],hn.1,hn.2,k _ _ ⟨Z1,_,z1,k1,S1,Og 0 n.toNat,fun i H2 s hi=>?_,fun i H2 y H' s hi hy=>?_,fun H2 s=>?_⟩⟩⟩
 . show i<n.toNat
   have:(ck 0 n.toNat).length=n.toNat:=by simp[ck]
   omega
 . have hi':i<n.toNat:=by simpa [ck] using hi
   refine⟨hy.1,?_⟩
   rw[amg,amZ hi',hy.2]
   rfl
 . show n.toNat<=(ck 0 n.toNat).length
   simp[ck]
theorem aad{D:eL}{gf:List Stmt}(i:Nat){pos':Pos}(P:Nat->List (Option T)->Prop)(h:Yh X CL b (.Name x pos') iter δ ds δ1)(h0:P 0 δ1)(hl:∀j δ,P j δ->i<δ.length)
   (hs:∀j d δ,ds[j]? = some d->P j δ->dZ X CL b gf (δ.set i (some (.sh d))) {nx:=P (j+1),rt:=D.rt,bk:=D.nx,ct:=P (j+1)}) (hd:∀δ,P ds.length δ->D.nx δ)
   (hp:PassesOwn (model X.prog X.w) X.A X.env X.xe) (hc:X.calm=true) (hN:X.N.Nodup) (hi:X.N[i]? = some x) (hx:Loc X.env.scope x) (hf:X.fn x=true\/X.env.scope.names.lookup x=some .local) (hq:∀x,foldedSetIterable iter X.env x=pure x:=by intro _;rfl) :
   Tw X CL b (.For (.Name x pos') iter gf [] pos) δ D:=fun H Z σ ts vs E S M=>by
 obtain⟨wi,pi,hw⟩:=h
 refine qz (Bp hp hc pi (kR hN hi hx hf) M3 hq) (hw H Z σ ts vs _ S fun J H1 zz=>?_)
 obtain⟨Z1,us,z1,k1,S1,rr,go,yl,st⟩:=zz
 refine⟨fun j m σ H2=>m=ds.length-j/\j<=ds.length/\∃Z2 δ2,aA Z1 Z2/\bH X.K CL b H2 Z2 δ2 σ ts vs/\P j δ2,⟨_,rfl,amR _,Z1,δ1,.refl _,S1,h0⟩,?_⟩
 rintro j m σ H2 ⟨rfl,hj,Z2,δ2,s,S2,p2⟩
 by_cases iS:j<ds.length
 . refine .inr ⟨go j H2 (s.trans S2.zh) iS,fun σ' H'=>∃Z2 δ2,aA Z1 Z2/\bH X.K CL b H' Z2 δ2 σ' ts vs/\P (j+1) δ2,fun σ' H' h=>⟨ds.length-(j+1),by omega,rfl,iS,h⟩,fun y H' hy=>?_⟩
   obtain⟨e,hu⟩:=yl j H2 y H' (s.trans S2.zh) iS hy
   subst e
   obtain⟨d,zQ,rd⟩:=rr.Ux hu
   have S3:=(S2.push (rd.mono s)).set (hl j δ2 p2)
   exact hs j d δ2 zQ p2 _ Z2 _ ts vs _ S3 ⟨fun δ' σ' H' Z' s' S' k=>⟨Z',δ',s.trans s',S',k⟩,fun t v H' Z' δ' σ' s' S' k=>M.rt t v H' Z' δ' σ' (z1.trans (s.trans s')) S' k,fun δ' σ' H' Z' s' S' k=>M.nx δ' σ' H' Z' (z1.trans (s.trans s')) S' k,fun δ' σ' H' Z' s' S' k=>⟨Z',δ',s.trans s',S',k⟩⟩
 . have e:j=ds.length:=by omega
   subst e
   exact .inl ⟨st H2 (s.trans S2.zh),M.nx δ2 σ H2 Z2 (z1.trans s) S2 (hd δ2 p2)⟩
def Block(X:Cx)(CL:Str->Addr)(scope:Scope)(Nc:List Str)(ifs:List Expr)(elt:Expr)(δc:List (Option T))(ds:List D)(p:D->Bool)(g:D->T):Prop:=
 ∀C s0 H0 f0 b' d,d∈ds->TIv (d7 X scope Nc C s0 H0 f0) CL b' ifs (some (.sh d)::δc) (p d)/\(p d=true->bO (d7 X scope Nc C s0 H0 f0) CL b' elt (some (.sh d)::δc) (g d) (some (.sh d)::δc))
variable{δc:List (Option T)}{p:D->Bool}{g:D->T}
end
def isD:L3.D->String->Option Bool
 | .non,n=>if n="int" \/ n="str" \/ n="list" \/ n="tuple" \/ n="bool" \/ n="dict" then some false else none
 | .bl _,n=>if n="int" \/ n="bool" then some true else if n="str" \/ n="list" \/ n="tuple" \/ n="dict" then some false else none
 | .int _,n=>if n="int" then some true else if n="str" \/ n="list" \/ n="tuple" \/ n="bool" \/ n="dict" then some false else none
 | .str _, n => if n = "str" then some true else if n = "int" \/ n = "list" \/ n = "tuple" \/ n = "bool" \/ n = "dict" then some false else none
 | .lst _,n=>if n="list" then some true else if n="int" \/ n="str" \/ n="tuple" \/ n="bool" \/ n="dict" then some false else none
 | .tup _,n=>if n="tuple" then some true else if n="int" \/ n="str" \/ n="list" \/ n="bool" \/ n="dict" then some false else none
 | _,_=>none
def aae(t n:String):Option Bool:=if (Value.type t==Value.type n)=true then some true else if PySem.W.kitMeta n=true then(fastBuiltinMro t).map (·.contains (.type n)) else none
theorem lP{t n:String}:PySem.W.kitOne K (.type t) (.type n)=aae t n:=rfl
theorem Oh:(["NoneType","bool","int","str","list","tuple"].all fun t=>["int","str","list","tuple","bool","dict"].all fun n=>aae t n==some (t==n || (t=="bool" && n=="int")))=true:=by decide +kernel
theorem pO{t n:String}(ht:t∈["NoneType","bool","int","str","list","tuple"])(hn:n∈["int","str","list","tuple","bool","dict"]):aae t n=some (t==n || (t=="bool" && n=="int")):=by
 have:=Oh
 rw[aok]at this
 have h:=this t ht
 rw[aok]at h
 simpa using h n hn
def tyD:L3.D->Option String
 | .non=>some "NoneType"
 | .bl _=>some "bool"
 | .int _=>some "int"
 | .str _ => some "str"
 | .lst _=>some "list"
 | .tup _=>some "tuple"
 | _=>none
theorem K2:j8 X (.builtin "isinstance") (fun xs H Q=>∃y n d t,xs=[y,.ty n]/\bu X.K CL H d y/\tyD d=some t/\n∈["int","str","list","tuple","bool","dict"]/\Q (.bl (t==n || (t=="bool" && n=="int"))) H):=by
 intro pins s σ H xs us Q I r h
 obtain⟨y,n,d,t,rfl,rd,ht,hn,q⟩:=h
 obtain⟨u,u2,rfl,ru,ru2⟩:=r.two
 cases (show u2=Value.type n from ru2)
 have fin:∀tk,EP X pins σ Q (.bool (t==n || (t=="bool" && n=="int"))) {s with toks:=tk}:=fun tk=>⟨.bl _,H,I.tok tk,rfl,q⟩
 cases rd with
 | non=>cases ht;cases (show u=Value.none from ru);exact aor PySem.W.kitx_none I.Aq True.intro (lP.trans (pO (by decide) hn)) (fun z=>nomatch z) fin
 | bl c=>cases ht;cases (show u=Value.bool c from ru);exact aor PySem.W.kitx_bool I.Aq True.intro (lP.trans (pO (by decide) hn)) (fun z=>nomatch z) fin
 | int c=>cases ht;obtain⟨tt,e⟩:=(show ∃t,u=Value.int c t from ru);cases e;exact aor PySem.W.kitx_int I.Aq True.intro (lP.trans (pO (by decide) hn)) (fun z=>nomatch z) fin
 | str c=>cases ht;obtain⟨tt,e⟩:=(show ∃t,u=Value.str c t from ru);cases e;exact aor PySem.W.kitx_str I.Aq True.intro (lP.trans (pO (by decide) hn)) (fun z=>nomatch z) fin
 | @lst a ws _ hq rr=>
   cases ht
   cases (show u=Value.ref a from ru)
   obtain⟨its,_,pl,_⟩:=I.list hq
   obtain⟨o,n',e,c,_⟩:=pl
   exact aor PySem.W.kitx_list I.Aq ⟨o,e,c⟩ (lP.trans (pO (by decide) hn)) (fun z=>nomatch z) fin
 | @tup a ws _ hq rr=>
   cases ht
   cases (show u=Value.ref a from ru)
   obtain⟨its,_,pl,_⟩:=I.tuple hq
   obtain⟨o,e,c,_⟩:=pl
   exact aor PySem.W.kitx_tuple I.Aq ⟨o,e,c⟩ (lP.trans (pO (by decide) hn)) (fun z=>nomatch z) fin
 | ins _ _=>cases ht
 | any _=>cases ht
 | val _=>cases ht
 | rX _ _=>cases ht
 | dct _ _=>cases ht
 | gF _ _ _=>cases ht
variable{pp pq:Pos}
theorem sN{d:L3.D}{t n:String}{nm:Str}(hm:X.mg "isinstance" = none)(Oi:X.mg nm=none)(hg:Gl X "isinstance")(Oj:Gl X nm)(hbn:bootBuiltins nm=some (.type n))(hnm:nm≠"__name__")(Yi:(nm==("__debug__":Str))=false)(h:cZ X CL b e δ d δ1)(ht:tyD d=some t)(hn:n∈["int","str","list","tuple","bool","dict"])
   (hs:starEach [e,.Name nm pq] X.env=(false,eval e X.env)::starEach [.Name nm pq] X.env:=by exact bA rfl) :
   bO X CL b (.Call (.Name "isinstance" pp) [e,.Name nm pq] [] pos) δ (.sh (.bl (t==n || (t=="bool" && n=="int")))) δ1:=fun H Z σ ts vs Q S k=>
 bW (ji (K2 (CL:=CL)) hg hm boot_isinstance (b8 cN (b8 (Ub Oj Oi hbn (v:=.ty n) rfl hnm Yi) dY) hs) (he:=hs)) (h H Z σ ts vs _ S fun v H1 Z1 z1 k1 S1 r=>
   ⟨v,n,d,t,rfl,r,ht,hn,k _ H1 Z1 z1 k1 (S1.push (.bl _))⟩)
variable{n:Nat}
theorem aq(h:Nat.ble n 1000=true):n<=sizeLine:=anW (g7 (amh h))
structure Vn(X:Cx)(i:Nat)(x:Str):Prop where
 hi:X.N[i]? = some x
 hv:XS X.env.scope x
 hd:(x==("__debug__":Str))=false
 iO:(x==("__classdict__":Str))=false
structure Ln(X:Cx)(i:Nat)(x:Str):Prop extends Vn X i x where
 loc:Loc X.env.scope x
 hf:X.fn x=true\/X.env.scope.names.lookup x=some .local
structure Gx(X:Cx):Prop where
 nd:X.N.Nodup
 calm:X.calm=true
 xe:PassesOwn (model X.prog X.w) X.A X.env X.xe
structure Fc(X:Cx)(CL:Str->Addr)(x:Str)(k n:Nat){A:Type}(arg:A->List D)(Pre:A->Prop)(res:A->T):Prop where
 ex:∃f fd ps,g9 X.prog X.w X.K X.mg X.base ou k f fd ps (UG X.K CL n arg Pre res)/\X.mg x=some (.ref f)/\PySem.W.keepIn X.K (.ref f)=true/\Binds X.K fd ps []
 room:dW k X.A
section
variable{d:L3.D}{D:eL}{gf:List Stmt}{ds:List L3.D}
theorem v_(n:Vn X i x)(h:δ[i]? = some (some (.sh d)):=by rfl):bO X CL b (.Name x pos) δ (.sh d) δ:=ZW i n.hi n.hv n.hd n.iO h
theorem vF(n:Vn X i x)(h:δ[i]? = some (some t):=by rfl):bO X CL b (.Name x pos) δ (.sh t.bP) (δ.set i (some (.sh t.bP))):=UB i n.hi n.hv n.hd n.iO h
theorem vM(n:Vn X i x)(h:δ[i]? = some (some t):=by rfl):bO X CL b (.Name x pos) δ t (δ.set i none):=UC i n.hi n.hv n.hd n.iO h
theorem vB(n:Vn X i x)(h:δ[i]? = some (some t):=by rfl):cZ X CL b (.Name x pos) δ t.bP δ:=ZX i n.hi n.hv n.hd n.iO h
theorem lB(h:cZ X CL b e δ (.int k) δ1):bO X CL b (.UnaryOp .USub e pos) δ (.sh (.int (-k))) δ1:=fun H Z σ ts vs Q S kk=>
 bW (adA ZF cN) (h H Z σ ts vs _ S fun v H1 Z1 z1 k1 S1 r=>⟨k,r.sc rfl,kk _ H1 Z1 z1 k1 (S1.push (.int _))⟩)
theorem vL(n:Vn X i x)(h:δ[i]? = some (some (.lst (ds.map T.sh))):=by rfl):cZ X CL b (.Name x pos) δ (.lst ds) δ:=by
 have:=vB (CL:=CL) (b:=b) (pos:=pos) n h
 rwa [T.bP,iY]at this
theorem c_{k:Nat}{A:Type}{arg:A->List L3.D}{Pre:A->Prop}{res:A->T}(a:A)(F:Fc X CL x k n arg Pre res)(hg:Gl X x)(h:N6 X CL b (e::es) δ (arg a) δ1)(hp:Pre a)(hc:(res a).clean=true)(hn:(arg a).length=n:=by rfl)
   (wc:(x==("__debug__":Str))=false:=by decide) (he:starEach (e::es) X.env=(false,eval e X.env)::starEach es X.env:=by exact bA rfl) (hpl:(backTo pos (starEach es X.env)).any (·.1)=false:=by rfl) :
   bO X CL b (.Call (.Name x pp) (e::es) [] pos) δ (res a) δ1:=by
 obtain⟨f,fd,ps,F1,m,k,b⟩:=F.ex
 exact UH a F1 F.room m k b h hn hp hc hg wc he hpl
theorem aR{pos':Pos}(g:Gx X)(n:Ln X i x)(h:bO X CL b e δ t δ1)(k:dZ X CL b gf (δ1.set i (some t)) D)(hl:i<δ1.length:=by exact amh rfl)(hs:swapsWith e (some (.Name x pos')) pos.line X.env=pure false:=by rfl) :
   dZ X CL b (.Assign [.Name x pos'] e pos::gf) δ D:=cX (Oc i h k hl g.nd n.hi n.loc hs n.hf)
theorem bT(h:bO X CL b e δ t δ1)(k:D.rt t δ1):dZ X CL b (.Return (some e) pos::gf) δ D:=cX (Z7 h k)
theorem iM{a c:List Stmt}(h:qA X CL b e δ p δ1)(h1:p=true->dZ X CL b a δ1 {D with nx:=fun δ2=>dZ X CL b gf δ2 D})(h2:p=false->dZ X CL b c δ1 {D with nx:=fun δ2=>dZ X CL b gf δ2 D}):dZ X CL b (.If e a c pos::gf) δ D:=cX (ad5 h h1 h2)
theorem dZ.to{D':eL}(h:dZ X CL b gf δ D')(h1:∀δ,D'.nx δ->D.nx δ)(h2:∀t δ,D'.rt t δ->D.rt t δ)(h3:∀δ,D'.bk δ->D.bk δ)(h4:∀δ,D'.ct δ->D.ct δ):dZ X CL b gf δ D:=fun H Z σ ts vs E S M=>h H Z σ ts vs E S (M.to h1 h2 h3 h4)
theorem AH{a c:List Stmt}(J:List (Option T)->Prop)(h:qA X CL b e δ p δ1)(h1:p=true->dZ X CL b a δ1 {D with nx:=J})(h2:p=false->dZ X CL b c δ1 {D with nx:=J})(k:∀δ2,J δ2->dZ X CL b gf δ2 D):dZ X CL b (.If e a c pos::gf) δ D:=
 iM h (fun hp=>dZ.to (h1 hp) k (fun _ _ q=>q) (fun _ q=>q) (fun _ q=>q)) (fun hp=>dZ.to (h2 hp) k (fun _ _ q=>q) (fun _ q=>q) (fun _ q=>q))
theorem ig{body:List Stmt}{pos':Pos}(g:Gx X)(n:Ln X i x)(P:Nat->List (Option T)->Prop)(h:Yh X CL b (.Name x pos') e δ ds δ1)(h0:P 0 δ1)(hl:∀j δ,P j δ->i<δ.length)
   (hs:∀j d δ,ds[j]? = some d->P j δ->dZ X CL b body (δ.set i (some (.sh d))) {nx:=P (j+1),rt:=D.rt,bk:=fun δ2=>dZ X CL b gf δ2 D,ct:=P (j+1)}) (hd:∀δ,P ds.length δ->dZ X CL b gf δ D) (hq:∀x,foldedSetIterable e X.env x=pure x:=by intro _;rfl) :
   dZ X CL b (.For (.Name x pos') e body [] pos::gf) δ D:=
 cX (aad (D:={D with nx:=fun δ1=>dZ X CL b gf δ1 D}) i P h h0 hl hs hd g.xe g.calm g.nd n.hi n.loc n.hf hq)
theorem jl{o:Option Expr}{l:Nat}(h:∃c,swapsWith e o l env=pure c):swapsWith e o l env=pure true\/swapsWith e o l env=pure false:=by
 obtain⟨c,h⟩:=h
 cases c
 . exact .inr h
 . exact .inl h
theorem cy{C:Addr}(h1:Nc[i]? = some x)(h2:scope.names.lookup x=some .local)(hd:(x==("__debug__":Str))=false:=by decide)(iO:(x==("__classdict__":Str))=false:=by decide):Vn (d7 X scope Nc C s H fp) i x:=
 ⟨h1,.inl (lookup_relabel_local h2),hd,iO⟩
theorem cJ{C:Addr}(h1:Nc[i]? = some x)(h2:scope.names.lookup x=some .free)(hd:(x==("__debug__":Str))=false:=by decide)(iO:(x==("__classdict__":Str))=false:=by decide):Vn (d7 X scope Nc C s H fp) i x:=by
 refine⟨h1,?_,hd,iO⟩
 have q:=gi (env:=X.env) h2
 show(relabel scope X.env).names.lookup x=some .local\/(relabel scope X.env).names.lookup x=some .cell\/(relabel scope X.env).names.lookup x=some .free
 rw[show(relabel scope X.env).names.lookup x=_ from q]
 split
 . exact .inr (.inl rfl)
 . exact .inr (.inr rfl)
theorem dH{C:Addr}(h2:scope.names.lookup x=some .globalImplicit):Gl (d7 X scope Nc C s H fp) x:=by
 have q:=gi (env:=X.env) h2
 show(relabel scope X.env).names.lookup x=some .globalImplicit
 rw[show(relabel scope X.env).names.lookup x=_ from q]
 rfl
theorem gC{C:Addr}{k:Nat}{A:Type}{arg:A->List L3.D}{Pre:A->Prop}{res:A->T}(F:Fc X CL x k n arg Pre res):Fc (d7 X scope Nc C s H fp) CL x k n arg Pre res:=⟨F.ex,F.room⟩
end
variable{d:L3.D}{t:String}
theorem K3:bootBuiltins "int" = some (.type "int"):=by decide +kernel
theorem isI(hm:X.mg "isinstance" = none)(Oi:X.mg "int" = none)(hg:Gl X "isinstance")(Oj:Gl X "int")(h:cZ X CL b e δ d δ1)(ht:tyD d=some t:=by rfl)(hs:starEach [e,.Name "int" pq] X.env=(false,eval e X.env)::starEach [.Name "int" pq] X.env:=by exact bA rfl) :
   bO X CL b (.Call (.Name "isinstance" pp) [e,.Name "int" pq] [] pos) δ (.sh (.bl (t=="int" || (t=="bool" && "int" == "int")))) δ1:=sN hm Oi hg Oj K3 (by decide) (by decide) h ht (by decide) hs
theorem FT:bootBuiltins "bool" = some (.type "bool"):=by decide +kernel
theorem isB(hm:X.mg "isinstance" = none)(Oi:X.mg "bool" = none)(hg:Gl X "isinstance")(Oj:Gl X "bool")(h:cZ X CL b e δ d δ1)(ht:tyD d=some t:=by rfl)(hs:starEach [e,.Name "bool" pq] X.env=(false,eval e X.env)::starEach [.Name "bool" pq] X.env:=by exact bA rfl) :
   bO X CL b (.Call (.Name "isinstance" pp) [e,.Name "bool" pq] [] pos) δ (.sh (.bl (t=="bool" || (t=="bool" && "bool" == "int")))) δ1:=sN hm Oi hg Oj FT (by decide) (by decide) h ht (by decide) hs
theorem K4:bootBuiltins "str" = some (.type "str"):=by decide +kernel
theorem isS(hm:X.mg "isinstance" = none)(Oi:X.mg "str" = none)(hg:Gl X "isinstance")(Oj:Gl X "str")(h:cZ X CL b e δ d δ1)(ht:tyD d=some t:=by rfl)(hs:starEach [e,.Name "str" pq] X.env=(false,eval e X.env)::starEach [.Name "str" pq] X.env:=by exact bA rfl) :
   bO X CL b (.Call (.Name "isinstance" pp) [e,.Name "str" pq] [] pos) δ (.sh (.bl (t=="str" || (t=="bool" && "str" == "int")))) δ1:=sN hm Oi hg Oj K4 (by decide) (by decide) h ht (by decide) hs
theorem dP:bootBuiltins "list" = some (.type "list"):=by decide +kernel
theorem isL(hm:X.mg "isinstance" = none)(Oi:X.mg "list" = none)(hg:Gl X "isinstance")(Oj:Gl X "list")(h:cZ X CL b e δ d δ1)(ht:tyD d=some t:=by rfl)(hs:starEach [e,.Name "list" pq] X.env=(false,eval e X.env)::starEach [.Name "list" pq] X.env:=by exact bA rfl) :
   bO X CL b (.Call (.Name "isinstance" pp) [e,.Name "list" pq] [] pos) δ (.sh (.bl (t=="list" || (t=="bool" && "list" == "int")))) δ1:=sN hm Oi hg Oj dP (by decide) (by decide) h ht (by decide) hs
theorem oJ:bootBuiltins "tuple" = some (.type "tuple"):=by decide +kernel
theorem isT(hm:X.mg "isinstance" = none)(Oi:X.mg "tuple" = none)(hg:Gl X "isinstance")(Oj:Gl X "tuple")(h:cZ X CL b e δ d δ1)(ht:tyD d=some t:=by rfl)(hs:starEach [e,.Name "tuple" pq] X.env=(false,eval e X.env)::starEach [.Name "tuple" pq] X.env:=by exact bA rfl) :
   bO X CL b (.Call (.Name "isinstance" pp) [e,.Name "tuple" pq] [] pos) δ (.sh (.bl (t=="tuple" || (t=="bool" && "tuple" == "int")))) δ1:=sN hm Oi hg Oj oJ (by decide) (by decide) h ht (by decide) hs
def lQ(sc:Scope)(l:List (Str×NameKind)):Bool:=l.all fun p=>sc.names.lookup p.1==some p.2
theorem cz{sc:Scope}{l:List (Str×NameKind)}(h:lQ sc l=true)(i:Nat){k:NameKind}(hi:l[i]? = some (x,k)):sc.names.lookup x=some k:=by
 unfold lQ at h
 rw[aok]at h
 exact aoY.mp (h _ (amt hi))
inductive UI(X:Cx):List Nat->List Str->Prop where
 | nil:UI X [] []
 | cons {i:Nat} {y:Str} {ix:List Nat} {ys:List Str} (n:Vn X i y) (k:X.env.kindOf y=some .cell\/X.env.kindOf y=some .free) (r:UI X ix ys):UI X (i::ix) (y::ys)
def Ol(scope:Scope)(x:Str)(D5:List Str):Bool:=
 scope.kind == .function&&scope.names.lookup x==some .local&&D5.all (fun y=>scope.names.lookup y==some .free)&&decide ((x::D5).Nodup) &&
   scope.names.all fun y=>y.2 != .cell&&(y.2 != .local || scope.names.lookup y.1==some .local)&&(y.2 != .free || (D5.contains y.1&&scope.names.lookup y.1==some .free))
theorem bI{D5:List Str}(c:UI X ix D5)(ok:Ol scope x D5=true):fO X scope x (x::D5) ix:=by
 unfold Ol at ok
 simp only[amI,aok,decide_eq_true_eq,aoY]at ok
 obtain⟨⟨⟨⟨h1,h2⟩,h3⟩,h4⟩,h5⟩:=ok
 have kc:∀y∈D5,X.env.kindOf y=some .cell\/X.env.kindOf y=some .free:=by
   clear h3 h4 h5
   induction c with
   | nil=>intro y hy;cases hy
   | cons n k r ih=>
     intro y hy
     rcases ami.mp hy with e|hy
     . subst e;exact k
     . exact ih y hy
 refine⟨h1,fun y hy e=>?_,h4,fun y hy e=>?_,h2,fun y hy e=>?_,?_,fun i hi=>?_⟩
 . have:=(h5 y hy).1.1
   rw[e]at this
   simp at this
 . have:=(h5 y hy).1.2
   rw[e]at this
   simpa using this
 . have:=(h5 y hy).2
   rw[e]at this
   simp at this
   exact⟨this.2,kc _ this.1⟩
 . congr 1
   clear h3 h4 h5 kc
   induction c with
   | nil=>rfl
   | cons n k r ih=>rw[anv,n.hi,← ih]
 . clear h4 h5 kc
   induction c with
   | nil=>cases hi
   | @cons i' y ix ys n k r ih=>
     rcases ami.mp hi with e|hi
     . subst e;exact⟨y,n.hi,h3 y ama⟩
     . exact ih (fun z hz=>h3 z (ame _ hz)) hi
def D.uJ:D->Int
 | .int i=>i
 | _=>0
def D.toS:D->Str
 | .str x => x
 | _=>Str.empty
theorem aag{bs:List Int}(h0:0<=k)(h1:k<bs.length):rW (bs.map D.int) k=some (.int (bs.getD k.toNat 0)):=by
 obtain⟨j,rfl⟩:∃j:Nat,k=j:=⟨k.toNat,by omega⟩
 refine aG ?_
 have hl:j<bs.length:=by omega
 rw[amg,al9 hl]
 simp[List.getD,hl]
theorem D6:∀(bs:List Int),D.aY (bs.map D.int)=true
 | []=>rfl
 | i::r=>by rw[amB,D.aY,D6 r];rfl
theorem fM{lo:Int}{d:D}(h:(ck lo n)[j]? = some d):d=.int (lo+j)/\j<n:=by
 have hl:j<n:=by
   have:=(amf.mp h).1
   simpa [ck] using this
 refine⟨?_,hl⟩
 unfold ck at h
 rw[amg,amZ hl]at h
 exact(amA h).symm
theorem gk(l:List α):l.filter (fun _=>true)=l:=by simp
theorem D7{K:PySem.W.Frag}{CL:Str->Addr}{Z:Hp}:∀(ns:List Int),ay K CL Z (ns.map D.int) (ns.map V.int)
 | []=>.nil
 | n::r=>.cons (.int n) (D7 r)
mutual
def D.toPy:D->PyData
 | .non=>.none
 | .bl b=>.bool b
 | .int i=>.int i
 | .str x => .str x
 | .tup ds=>.tuple (D.cD ds)
 | .lst ds=>.list (D.cD ds)
 | .ins _ _=>.none
 | .rX _=>.none
 | .dct _=>.none
 | .any=>.none
 | .val _=>.none
 | .gF _ _ _=>.none
def D.cD:List D->List PyData
 | []=>[]
 | d::ds=>d.toPy::D.cD ds
end
inductive jH:Nat->D->Prop where
 | non (n:Nat):jH n .non
 | bl (n:Nat) (b:Bool):jH n (.bl b)
 | int (n:Nat) (i:Int):jH n (.int i)
 | str (n:Nat) (x:Str) (h:PyData.strOk x=true):jH n (.str x)
 | tup {n:Nat} {ds:List D} (h:∀d∈ds,jH n d):jH (n+1) (.tup ds)
 | lst {n:Nat} {ds:List D} (h:∀d∈ds,jH n d):jH (n+1) (.lst ds)
def rY(a b:D):Bool:=PyData.eqv a.toPy b.toPy
theorem jH.aah{n:Nat}:∀{ds:List D},(∀d∈ds,d.toPy.canLay0=true/\d.toPy.depth<=n)->PyData.canLayAll0 (D.cD ds)=true/\PyData.depthAll (D.cD ds)<=n
 | [],_=>⟨by rw[D.cD,PyData.canLayAll0],by rw[D.cD,PyData.depthAll];exact amR _⟩
 | d::ds,h=>by
   have h1:=h d ama
   have h2:=jH.aah (ds:=ds) fun e he=>h e (ame _ he)
   rw[D.cD,PyData.canLayAll0,PyData.depthAll,h1.1,h2.1]
   exact⟨rfl,Nat.max_le.mpr ⟨h1.2,h2.2⟩⟩
theorem jH.lay{d:D}(h:jH n d):d.toPy.canLay0=true/\d.toPy.depth<=n:=by
 induction h with
 | non n=>exact⟨by rw[D.toPy,PyData.canLay0],by rw[D.toPy,PyData.depth];exact amR _⟩
 | bl n b=>exact⟨by rw[D.toPy,PyData.canLay0],by rw[D.toPy,PyData.depth];exact amR _⟩
 | int n i=>exact⟨by rw[D.toPy,PyData.canLay0],by rw[D.toPy,PyData.depth];exact amR _⟩
 | str n x hx=>exact⟨by rw[D.toPy,PyData.canLay0];exact hx,by rw[D.toPy,PyData.depth];exact amR _⟩
 | @tup n ds _ ih=>
   have:=jH.aah ih
   rw[D.toPy,PyData.canLay0,PyData.depth]
   exact⟨this.1,by omega⟩
 | @lst n ds _ ih=>
   have:=jH.aah ih
   rw[D.toPy,PyData.canLay0,PyData.depth]
   exact⟨this.1,by omega⟩
theorem lR{d:D}(h:jH n d):rY d d=true:=SeqAt.eqv_refl _ h.lay.1
theorem uK(I:L2.Inv X pins σ H s){d:D}{u:Value}(hd:jH n d)(q:bu X.K CL H d v)(r:RelV v u):∃as,Reads s.heap u d.toPy as:=by
 refine bu.rec (motive_1:=fun d v _=>∀(n:Nat) (u:Value),jH n d->RelV v u->∃as,Reads s.heap u d.toPy as)
   (motive_2:=fun ds vs _=>∀(n:Nat) (us:List Value),(∀d∈ds,jH n d)->Vals vs us->∃as,ReadsAll s.heap us (D.cD ds) as) (motive_3:=fun _ _ _=>True) (motive_4:=fun _ _ _=>True) (motive_5:=fun _ _ _=>True)
   (fun _ _ _ r=>?non) (fun b _ _ _ r=>?bl) (fun i _ _ _ r=>?int) (fun x _ _ _ r=>?str) (fun _ _ _ hd _=>by cases hd) (fun _ _ _ hd _=>by cases hd) (fun hq _ ih n u hd r=>?tup) (fun hq _ ih n u hd r=>?lst) (fun _ _ _ _ _ hd _=>by cases hd) (fun _ _ _ _ _ hd _=>by cases hd) (fun _ _ _ _ _ hd _=>by cases hd) (fun _ _ _ _ _ _ _ hd _=>by cases hd)
   (fun _ _ _ r=>?nil) (fun _ _ ih ihs n us h r=>?cons) trivial (fun _ _ _ _=>trivial) trivial (fun _ _ _ _=>trivial) trivial (fun _ _ _ _=>trivial) q n u hd r
 case non=>cases r;rw[D.toPy];exact⟨[],.none⟩
 case bl=>cases r;rw[D.toPy];exact⟨[],.bool b⟩
 case int=>obtain⟨t,rfl⟩:=r;rw[D.toPy];exact⟨[],.int i t⟩
 case str=>obtain⟨t,rfl⟩:=r;rw[D.toPy];exact⟨[],.str x t⟩
 case tup=>
   cases hd with
   | tup hd=>
     cases r
     obtain⟨its,rv,⟨o,e,c,k,dt⟩,_⟩:=I.tuple hq
     obtain⟨as,ra⟩:=ih _ _ hd rv
     rw[D.toPy]
     exact⟨as,.tuple e c dt (by simpa using ra)⟩
 case lst=>
   cases hd with
   | lst hd=>
     cases r
     obtain⟨its,rv,⟨o,k,e,c,_,dt⟩,_⟩:=I.list hq
     obtain⟨as,ra⟩:=ih _ _ hd rv
     rw[D.toPy]
     exact⟨_,.list e c dt (by simpa using ra)⟩
 case nil=>cases r;rw[D.cD];exact⟨[],.nil⟩
 case cons=>
   cases r with
   | cons r rs=>
     obtain⟨as,ra⟩:=ih n _ (h _ ama) r
     obtain⟨bs,rb⟩:=ihs n _ (fun e he=>h e (ame _ he)) rs
     rw[D.cD]
     exact⟨as++bs,.cons ra rb⟩
variable{δ3:List (Option T)}{p2:Pos}{t:T}{gf:List Stmt}{DD:eL}{d1 d2:D}{ds:List D}
theorem aai(hu:X.A.units+64<cLine):oq X (compareOp .Eq) (fun x y H Q=>∃a c,bu X.K CL H a x/\bu X.K CL H c y/\jH 60 a/\jH 60 c/\Q (.bl (rY a c)) H):=by
 intro pins s σ H x y v u Q I rx ry h
 obtain⟨a,c,ra,rc,da,dc,q⟩:=h
 obtain⟨as,r1⟩:=uK I da ra rx
 obtain⟨bs,r2⟩:=uK I dc rc ry
 exact SeqAt.rcAt_reads r1 r2 da.lay.1 dc.lay.1 (by have:=da.lay.2;omega) X.prog X.w X.xe _ ⟨.bl _,H,I,rfl,q⟩
theorem aaj(hu:X.A.units+64<cLine):oq X (compareOp .NotEq) (fun x y H Q=>∃a c,bu X.K CL H a x/\bu X.K CL H c y/\jH 60 a/\jH 60 c/\Q (.bl (!rY a c)) H):=by
 intro pins s σ H x y v u Q I rx ry h
 obtain⟨a,c,ra,rc,da,dc,q⟩:=h
 obtain⟨as,r1⟩:=uK I da ra rx
 obtain⟨bs,r2⟩:=uK I dc rc ry
 exact SeqAt.rcNeAt_reads r1 r2 da.lay.1 dc.lay.1 (by have:=da.lay.2;omega) X.prog X.w X.xe _ ⟨.bl _,H,I,rfl,q⟩
theorem ad8{op:CmpOp}{f:Bool->Bool}(ho:oq X (compareOp op) (fun x y H Q=>∃a c,bu X.K CL H a x/\bu X.K CL H c y/\jH 60 a/\jH 60 c/\Q (.bl (f (rY a c))) H))(h1:cZ X CL b e1 δ d1 δ1)(h2:cZ X CL b e2 δ1 d2 δ2)(k1:jH 60 d1)(k2:jH 60 d2)
   (hm:behindInMarks op e2=false):qA X CL b (.Compare e1 [op] [e2] pos) δ (f (rY d1 d2)) δ2/\bO X CL b (.Compare e1 [op] [e2] pos) δ (.sh (.bl (f (rY d1 d2)))) δ2:=by
 constructor
 . intro H Z σ ts vs Q S k
   refine uE (sf ho cN cN hm) (h1 H Z σ ts vs _ S fun v1 H1 Z1 z1 k1' S1 r1=>h2 H1 Z1 σ ts vs _ S1 fun v2 H2 Z2 z2 Om S2 r2=>?_)
   exact⟨d1,d2,r1.mono Om,r2,k1,k2,_,rfl,k H2 Z2 (z1.trans z2) (k1'.trans Om) S2⟩
 . intro H Z σ ts vs Q S k
   refine bW (se ho cN cN hm) (h1 H Z σ ts vs _ S fun v1 H1 Z1 z1 k1' S1 r1=>h2 H1 Z1 σ ts vs _ S1 fun v2 H2 Z2 z2 Om S2 r2=>?_)
   exact⟨d1,d2,r1.mono Om,r2,k1,k2,k _ H2 Z2 (z1.trans z2) (k1'.trans Om) (S2.push (.bl _))⟩
theorem Oo(hu:X.A.units+64<cLine)(h1:cZ X CL b e1 δ d1 δ1)(h2:cZ X CL b e2 δ1 d2 δ2)(k1:jH 60 d1)(k2:jH 60 d2):qA X CL b (.Compare e1 [.Eq] [e2] pos) δ (rY d1 d2) δ2/\bO X CL b (.Compare e1 [.Eq] [e2] pos) δ (.sh (.bl (rY d1 d2))) δ2:=
 ad8 (f:=fun b=>b) (aai hu) h1 h2 k1 k2 (oB _)
theorem yi(hu:X.A.units+64<cLine)(h1:cZ X CL b e1 δ d1 δ1)(h2:cZ X CL b e2 δ1 d2 δ2)(k1:jH 60 d1)(k2:jH 60 d2):qA X CL b (.Compare e1 [.NotEq] [e2] pos) δ (!rY d1 d2) δ2/\bO X CL b (.Compare e1 [.NotEq] [e2] pos) δ (.sh (.bl (!rY d1 d2))) δ2:=
 ad8 (f:=fun b=>!b) (aaj hu) h1 h2 k1 k2 (oB _)
def cutD(xs:List α)(lo hi:Option Int):List α:=(xs.drop (HT.f7 xs.length 0 lo)).take (HT.f7 xs.length xs.length hi-HT.f7 xs.length 0 lo)
theorem ay.drop{K:PySem.W.Frag}{Z:Hp}:∀{ds:List L3.D} {vs:List V} (n:Nat),ay K CL Z ds vs->ay K CL Z (ds.drop n) (vs.drop n)
 | _,_,0,r=>r
 | _,_,_+1,.nil=>.nil
 | _,_,n+1,.cons _ t=>ay.drop n t
theorem ay.take{K:PySem.W.Frag}{Z:Hp}:∀{ds:List L3.D} {vs:List V} (n:Nat),ay K CL Z ds vs->ay K CL Z (ds.take n) (vs.take n)
 | _,_,0,_=>.nil
 | _,_,_+1,.nil=>.nil
 | _,_,n+1,.cons r t=>.cons r (ay.take n t)
theorem ay.cut{ds:List L3.D}(r:ay K CL Z ds vs)(lo hi:Option Int):ay K CL Z (cutD ds lo hi) (Br vs lo hi):=by
 unfold cutD Br
 rw[r.length]
 exact(r.drop _).take _
theorem oK:∀{ds:List L3.D},D.aY ds=true->∀d∈ds,d.gA=true
 | [],_,_,h=>by cases h
 | d::ds,k,e,h=>by
   rw[D.aY,amI]at k
   rcases ami.mp h with h|h
   . subst h;exact k.1
   . exact oK k.2 e h
theorem iZ:∀{ds:List L3.D},(∀d∈ds,d.gA=true)->D.aY ds=true
 | [],_=>rfl
 | d::ds,h=>by rw[D.aY,h d ama,iZ fun e he=>h e (ame _ he)];rfl
theorem UJ{xs:List α}{lo hi:Option Int}{x:α}(h:x∈cutD xs lo hi):x∈xs:=List.mem_of_mem_drop (anD h)
def Yj(X:Cx)(CL:Str->Addr)(b:Bx)(e:Option Expr)(δ:List (Option T))(k:Option Int)(δ':List (Option T)):Prop:=
 ∃t,PO X e t/\∀(H Z:Hp) (σ:L2.St) (ts:List T) (vs:List V) (Q:Option Int->Hp->Prop),bH X.K CL b H Z δ σ ts vs->(∀H' Z',aA Z Z'->aA H H'->bH X.K CL b H' Z' δ' σ ts vs->Q k H')->t σ H Q
theorem mL:Yj X CL b none δ none δ:=⟨_,Us,fun H Z σ ts vs Q S k=>k H Z (.refl _) (.refl _) S⟩
theorem mO(h:cZ X CL b e δ (.int k) δ1):Yj X CL b (some e) δ (some k) δ1:=⟨_,Ut cN,fun H Z σ ts vs Q S kk=>h H Z σ ts vs _ S fun v H1 Z1 z1 k1 S1 r=>⟨k,r.sc rfl,kk H1 Z1 z1 k1 S1⟩⟩
theorem sO{lo hi:Option Expr}{l h:Option Int}(h1:cZ X CL b e δ (.lst ds) δ1)(hi1:D.aY ds=true)(h2:Yj X CL b lo δ1 l δ2)(h3:Yj X CL b hi δ2 h δ3):bO X CL b (.Subscript e (.Slice lo hi none p2) pos) δ (.lst ((cutD ds l h).map T.sh)) δ3:=fun H Z σ ts vs Q S k=>by
 obtain⟨t2,po2,w2⟩:=h2
 obtain⟨t3,po3,w3⟩:=h3
 refine bW (x9 Uu cN po2 po3) (h1 H Z σ ts vs _ S fun v H1 Z1 z1 k1 S1 r=>w2 H1 Z1 σ ts vs _ S1 fun H2 Z2 z2 k2 S2=>w3 H2 Z2 σ ts vs _ S2 fun H3 Z3 z3 k3 S3=>?_)
 have r':=r.mono (k2.trans k3)
 cases r' with
 | lst hq rr=>
   refine⟨_,_,rfl,hq,fun p hp=>?_⟩
   have rc:=ay.gA S3.tp (iZ fun d hd=>oK hi1 d (UJ hd)) (rr.cut l h)
   obtain⟨c,S4⟩:=(bH.qI rc S3).qX (g0:=[]) (by simp[rc.length]) hp
   exact k _ _ _ (z1.trans (z2.trans z3)) (k1.trans (k2.trans (k3.trans c))) S4
theorem fq(hm:X.mg "tuple" = none)(h:cZ X CL b e δ (.lst ds) δ1)(hi:D.aY ds=true)(hg:Gl X "tuple")(hs:starEach [e] X.env=(false,eval e X.env)::starEach [] X.env:=by exact bA rfl):bO X CL b (.Call (.Name "tuple" pp) [e] [] pos) δ (.sh (.tup ds)) δ1:=fun H Z σ ts vs Q S k=>
 bW (iP qH hg hm oJ (b8 cN dY hs) (he:=hs)) (h H Z σ ts vs _ S fun v H1 Z1 z1 k1 S1 r=>by
   cases r with
   | lst hq rr=>
     refine⟨_,_,rfl,.inl ⟨hq,fun l hl=>?_⟩⟩
     obtain⟨a,c,S2⟩:=(bH.qI (ay.gA S1.tp hi rr) S1).BD (by simp[rr.length]) hl
     obtain⟨Z3,z3,S3⟩:=S2.Bw
     rw[T.bP,iY]at S3
     exact k _ _ Z3 (z1.trans (a.trans z3)) (k1.trans c) S3)
theorem vO{tl0:List T}{pa pb:Pos}(n:Vn X i x)(h0:δ[i]? = some (some (.lst tl0)))(h:bO X CL b e δ t δ1)(h1:δ1[i]? = some (some (.lst tl)))(hl:tl.length<=1000000)(k:dZ X CL b gf (δ1.set i (some (.lst (tl++[t])))) DD)
   (kg:attributeBase (.Name x pp) "append" X.env (eval (.Name x pp) X.env)=eval (.Name x pp) X.env:=by rfl)
   (yc:((backTo pb (starEach [e] X.env)).all (fun x=>!x.1)&&(backToKw pb (keywordEach [] X.env)).all (fun x=>x.1.isSome)&&decide ([e].length+([]:List Keyword).length+(if ([]:List Keyword).isEmpty then 0 else 1)<30))=true:=by rfl)
   (hline:(pa.endLine==pb.line)=true:=by rfl) (hs:starEach [e] X.env=(false,eval e X.env)::starEach [] X.env:=by exact bA rfl) (K1:swapsWith (.Call (.Attribute (.Name x pp) "append" pa) [e] [] pb) none pos.line X.env=pure false:=by rfl) :
   dZ X CL b (.Expr (.Call (.Attribute (.Name x pp) "append" pa) [e] [] pb) pos::gf) δ DD:=
 cX (Z9 i h0 h h1 (aoU hl (by rw[amE];decide)) k n.hi n.hv n.hd n.iO kg yc hline hs K1)
theorem Oq{ps:Pos}(n:Vn X i x)(h:bO X CL b e δ t δ1)(h2:cZ X CL b e2 δ1 (.int k) δ1)(h1:δ1[i]? = some (some (.lst tl)))(hk:Iv tl.length k=some j)(kk:dZ X CL b gf (δ1.set i (some (.lst (tl.set j t)))) DD)
   (ha:∀v,assign (.Subscript (.Name x pp) e2 ps) X.env v=(do
     let ov ← holding [v] (eval (.Name x pp) X.env)
     let iv ← holding [v,ov] (eval e2 X.env)
     standAt ps
     holding [v,ov,iv] (setItem ov iv v)
     release [v,ov,iv] []):=by intro _;rfl)
   (hs:swapsWithSole [.Subscript (.Name x pp) e2 ps] e pos.line X.env=pure false:=by rfl) (hw:swappedStores [.Subscript (.Name x pp) e2 ps] e X.env=pure none:=by rfl) (ha1:(assignEach [.Subscript (.Name x pp) e2 ps] X.env).map (·.2)=[assign (.Subscript (.Name x pp) e2 ps) X.env]:=by rfl) :
   dZ X CL b (.Assign [.Subscript (.Name x pp) e2 ps] e pos::gf) δ DD:=by
 refine cX fun H Z σ ts vs E S M=>qz (Zo cN (Zn (g8 n.hi n.hv n.hd n.iO) cN set_list ha) hs hw ha1) (h H Z σ ts vs _ S fun v H1 Z1 z1 k1 S1=>?_)
 have hj:j<tl.length:=(wU hk).2.1
 obtain⟨v0,e0,_⟩:=S1.look h1
 refine⟨v0,e0,?_⟩
 refine h2 H1 Z1 σ _ _ _ S1 fun v2 H2 Z2 z2 k2 S2 r2=>?_
 obtain⟨a,us,ea,N3,hu,S3⟩:=S2.setAt h1 hj
 rw[e0]at ea
 cases ea
 exact⟨a,us,k,j,rfl,r2.sc rfl,N3,by rw[hu];exact hk,M.nx _ σ _ Z2 (z1.trans z2) S3 kk⟩
theorem cA(hn:ds.length=n)(hm:X.mg "len" = none)(h:cZ X CL b e δ (.lst ds) δ1)(hg:Gl X "len")(hs:starEach [e] X.env=(false,eval e X.env)::starEach [] X.env:=by exact bA rfl):bO X CL b (.Call (.Name "len" pp) [e] [] pos) δ (.sh (.int n)) δ1:=by
 subst hn
 exact II hm h hg hs
theorem dI(h:bO X CL b e δ (.lst (ds.map T.sh)) δ1):cZ X CL b e δ (.lst ds) δ1:=by
 have:=X9 h
 rwa [T.bP,iY]at this
theorem qZ{f:α->D}{l:List α}(z:α)(h0:0<=k)(h1:k<l.length):rW (l.map f) k=some (f (l.getD k.toNat z)):=by
 obtain⟨j,rfl⟩:∃j:Nat,k=j:=⟨k.toNat,by omega⟩
 refine aG ?_
 have hl:j<l.length:=by omega
 rw[amg,al9 hl]
 simp[List.getD,hl]
theorem jm{α:Type}{f:α->D}(h:∀a,(f a).gA=true):∀(l:List α),D.aY (l.map f)=true
 | []=>rfl
 | a::l=>by rw[amB,D.aY,h a,jm h l];rfl
variable{d:D}
theorem vE(n:Vn X i x)(h:δ[i]? = some (some t))(e:t.bP=d):cZ X CL b (.Name x pos) δ d δ:=e▸vB n h
theorem sP(x:Str):∀l:List Str,inV (.str x) (l.map V.str)=decide (x∈l)
 | []=>by simp[inV]
 | y::l=>by
   have ih:=sP x l
   unfold inV at ih ⊢
   rw[amB,aoH,ih]
   have e:∀a c:Str,Uv (.str a) (.str c)=(a==c):=fun _ _=>rfl
   rw[e]
   by_cases h:y=x
   . subst h;simp
   . have h':¬ x=y:=fun e=>h e.symm
     simp[h,h']
theorem ay.strs{K:PySem.W.Frag}{Z:Hp}:∀{l:List Str} {vs:List V},ay K CL Z (l.map D.str) vs->vs=l.map V.str
 | [],_,r=>by
   have r':ay K CL Z [] _:=r
   cases r';rfl
 | y::l,_,r=>by
   have r':ay K CL Z (D.str y::l.map D.str) _:=r
   cases r' with
   | cons r1 r2=>rw[r1.sc rfl,ay.strs r2];rfl
theorem iu:∀l:List Str,(l.map V.str).all sA=true
 | []=>rfl
 | y::l=>by rw[amB,List.all_cons,iu l];rfl
variable{l:List Str}
theorem aeb(h1:cZ X CL b e1 δ (.str x) δ1)(h2:cZ X CL b e2 δ1 (.tup (l.map .str)) δ2)(hm:behindInMarks .In e2=false) :
   qA X CL b (.Compare e1 [.In] [e2] pos) δ (decide (x∈l)) δ2/\bO X CL b (.Compare e1 [.In] [e2] pos) δ (.sh (.bl (decide (x∈l)))) δ2:=by
 constructor
 . intro H Z σ ts vs Q S k
   refine uE (sf Ay cN cN hm) (h1 H Z σ ts vs _ S fun v1 H1 Z1 z1 k1 S1 r1=>h2 H1 Z1 σ ts vs _ S1 fun v2 H2 Z2 z2 k2 S2 r2=>?_)
   cases r2 with
   | tup hq rr=>
     have e:=rr.strs
     subst e
     refine⟨_,_,rfl,.inr hq,by rw[r1.sc rfl];rfl,iu l,_,rfl,?_⟩
     rw[amq amu,r1.sc rfl,sP]
     exact k H2 Z2 (z1.trans z2) (k1.trans k2) S2
 . intro H Z σ ts vs Q S k
   refine bW (se Ay cN cN hm) (h1 H Z σ ts vs _ S fun v1 H1 Z1 z1 k1 S1 r1=>h2 H1 Z1 σ ts vs _ S1 fun v2 H2 Z2 z2 k2 S2 r2=>?_)
   cases r2 with
   | tup hq rr=>
     have e:=rr.strs
     subst e
     refine⟨_,_,rfl,.inr hq,by rw[r1.sc rfl];rfl,iu l,?_⟩
     rw[amq amu,r1.sc rfl,sP]
     exact k _ H2 Z2 (z1.trans z2) (k1.trans k2) (S2.push (.bl _))
theorem Ot(h1:cZ X CL b e1 δ (.str x) δ1)(h2:IC X CL b es δ1 ((l.map D.str).map T.sh) δ2)(hl:(l.map D.str).length<=sizeLine:=by exact aq rfl) :
   qA X CL b (.Compare e1 [.In] [.Tuple es j p2] pos) δ (decide (x∈l)) δ2/\bO X CL b (.Compare e1 [.In] [.Tuple es j p2] pos) δ (.sh (.bl (decide (x∈l)))) δ2:=aeb h1 (ah (aQ h2 hl)) rfl
def yj:Expr->Option Str
 | .Constant (.str x) _ _=>some x
 | _=>none
def uL:List Expr->Option (List Str)
 | []=>some []
 | e::es=>(yj e).bind fun x=>(uL es).map (x::·)
theorem D8(h:yj e=some x):∃j p,e=.Constant (.str x) j p:=by
 unfold yj at h
 split at h
 . cases h;exact⟨_,_,rfl⟩
 . cases h
theorem sQ:∀{es:List Expr} {l:List Str},uL es=some l->IC X CL b es δ ((l.map D.str).map T.sh) δ
 | [],l,h=>by
   have e:l=[]:=(amA h).symm
   subst e
   exact cS
 | e::es,l,h=>by
   rw[uL]at h
   obtain⟨x,hx,h⟩:=Option.bind_eq_some_iff.mp h
   obtain⟨l',hl,rfl⟩:=amG.mp h
   obtain⟨j,p,rfl⟩:=D8 hx
   exact aU fk (sQ hl)
theorem Ou{l:List α}(z:α)(h0:0<=k)(h1:k<l.length):rW l k=some (l.getD k.toNat z):=by
 obtain⟨j,rfl⟩:∃j:Nat,k=j:=⟨k.toNat,by omega⟩
 refine aG ?_
 have hl:j<l.length:=by omega
 rw[al9 hl]
 simp[List.getD,hl]
theorem Ov(h0:0<=k)(h1:k<n):Iv n k=some k.toNat:=by
 unfold Iv
 rw[amx h0,amx h1]
theorem str_len(x y:Str):(x++y).length=x.length+y.length:=by
 show(x.cps++y.cps).size=_
 rw[Array.size_append];rfl
theorem FU(x y:Str)(h1:PyData.strOk x=true)(h2:PyData.strOk y=true):PyData.strOk (x++y)=true:=by
 unfold PyData.strOk at *
 show(x.cps++y.cps).all _=true
 rw[Array.all_append,h1,h2];rfl
variable{tt:List T}
theorem bH.aal(S:bH K CL b H Z δ σ ts vs)(hi:δ[i]? = some (some (.tup tt)))(hj:tt[j]? = some t) :
   ∃a0 us0 v,σ[i]? = some (some (.ref a0))/\Z a0=some (.tup us0)/\us0[j]? = some v/\bH K CL b H Z (δ.set i (some (.tup (tt.set j (.sh .any))))) σ (t::ts) (v::vs):=by
 obtain⟨fp,gp,e,r,nd,k⟩:=S.rep
 obtain⟨v0,f1,f2,f3,hv,pN,rt,put,_⟩:=e.get hi
 subst pN
 cases rt with
 | @tup a0 us0 _ _ hq r0=>
   obtain⟨vj,g1,g2,g3,hvj,hg,rj,set⟩:=r0.at hj
   subst hg
   have r2:=set (H':=H) (t':=.sh .any) (v':=vj) (g:=[]) (fun _ _=>rfl) (.sh (.any vj))
   rw[gj hvj]at r2
   have e2:=put (H':=H) (.refl _) (fun _ _=>rfl) (bB.tup hq r2)
   rw[gj hv]at e2
   have hp:((f1++((g1++([]++g3))++f3))++(g2++gp)).Perm ((f1++((g1++(g2++g3))++f3))++gp):=by
     simp only[anm,amm]
     refine am1 f1 (am1 g1 ?_)
     have:=(am2 (l₁:=g3++f3) (l₂:=g2)).append_right gp
     simp only[amm]at this
     exact this
   exact⟨a0,us0,vj,hv,hq,hvj,⟨⟨_,g2++gp,e2,.cons rj r,hp.nodup_iff.mpr nd,fun a ha=>k a (hp.mem_iff.mp ha)⟩,S.bh,S.zz,S.zh,S.new,S.tp,S.tab⟩⟩
variable{pc ps:Pos}{kj:Nat}
theorem UK(j:Nat)(n:Vn X i x)(h:δ[i]? = some (some (.tup tt)))(hj:tt[j]? = some t):bO X CL b (.Subscript (.Name x pp) (.Constant (.int j) kj pc) ps) δ t (δ.set i (some (.tup (tt.set j (.sh .any))))):=fun H Z σ ts vs Q S k=>by
 obtain⟨a0,us0,v,hv,hq,hvj,S'⟩:=S.aal h hj
 exact bW (yb Bt (g8 n.hi n.hv n.hd n.iO) Nk (fun _ _=>rfl)) ⟨_,hv,a0,us0,j,v,rfl,rfl,om.of (S.zh _ _ hq),aG hvj,k v H Z (.refl _) (.refl _) S'⟩
variable{ds:List D}
theorem vFL(n:Vn X i x)(h:δ[i]? = some (some (.lst (ds.map T.sh)))):bO X CL b (.Name x pos) δ (.sh (.lst ds)) (δ.set i (some (.sh (.lst ds)))):=by
 have:=vF (CL:=CL) (b:=b) (pos:=pos) n h
 rwa [T.bP,iY]at this
theorem jj.get:∀{fs:List (Str×D)} {gs:List (Str×V)} {f:Str} {d:D},jj K CL Z fs gs->fs.lookup f=some d->∃v,gs.lookup f=some v/\bu K CL Z d v
 | _,_,_,_,.nil,e=>by simp at e
 | _,_,f,d,.cons (x:=x) r t,e=>by
   rw[amP]at e ⊢
   cases h:f==x with
   | true=>rw[h]at e;cases e;exact⟨_,rfl,r⟩
   | false=>rw[h]at e;exact jj.get t e
def oi(f:Str)(t:T):List (Str×T)->List (Str×T)
 | []=>[(f,t)]
 | (g,x)::r=>if g=f then(g,t)::r else(g,x)::oi f t r
variable{fs:List (Str×T)}
theorem c9.length{gs:List (Str×V)}(h:c9 K CL H Z fs gs fp):fs.length=gs.length:=
 c9.ind (P:=fun d v _=>d.length=v.length) rfl (fun _ _ i=>congrArg (· + 1) i) h
theorem c9.put{f:Str}{g:List Addr}(q:bB K CL H Z t v g):∀{fs:List (Str×T)} {gs:List (Str×V)} {fp:List Addr},c9 K CL H Z fs gs fp →
   ∃fp' f',c9 K CL H Z (oi f t fs) (j9 f v gs) fp'/\f'.Sublist fp/\fp'.Perm (g++f')
 | _,_,_,.nil=>⟨g++[],[],.cons q .nil,am4 _,ao0 _⟩
 | _,_,_,.cons (x:=x) (fp:=fp) (gp:=gp) r rs=>by
   rw[oi,j9]
   by_cases h:x=f
   . rw[amx h,amx h]
     exact⟨g++gp,gp,.cons q rs,anH _ _,ao0 _⟩
   . rw[amq h,amq h]
     obtain⟨p,p',h1,h2,h3⟩:=c9.put (f:=f) q rs
     refine⟨fp++p,fp++p',.cons r h1,am7 (am4 _) h2,(am1 fp h3).trans ?_⟩
     rw[← amm,← amm]
     exact am2.append_right p'
theorem bH.yk{o:HO}{fp' gp IL:List Addr}(hm:iL o=false)(S:bH K CL b H Z δ σ ts vs)(own:∀c∈fp++gp,Z c=none/\b.B c=none)(ha:a∈fp++gp)
   (e':fE K CL (upd H a o) Z δ2 σ fp') (r':aO K CL (upd H a o) Z tl us IL) (pm:(fp'++IL).Nodup) (sub:∀c∈fp'++IL,c∈fp++gp) :
   bH K CL b (upd H a o) Z δ2 σ tl us:=by
 have oa:=own a ha
 refine⟨⟨_,_,e',r',pm,fun c hc=>own c (sub c hc)⟩,fun c u q=>?_,S.zz,fun c u q=>?_,S.new,fun c u q i=>?_,S.tab⟩
 . rw[ao (aM q oa.2)];exact S.bh c u q
 . rw[ao (aM q oa.1)];exact S.zh c u q
 . by_cases hc:c=a
   . subst hc;rw[az]at q;cases q;rw[hm]at i;cases i
   . rw[ao hc]at q;exact S.tp c u q i
variable{c:Str}
theorem bH.setField{x:Addr}{f:Str}(S:bH K CL b H Z δ σ (t::ts) (v::vs))(hi:δ[i]? = some (some (.pin x (.ins c fs)))) :
   ∃dx gs,σ[i]? = some (some (.ref x))/\H x=some (.ins (CL c) dx gs)/\gs.length=fs.length/\bH K CL b (upd H x (.ins (CL c) dx (j9 f v gs))) Z (δ.set i (some (.pin x (.ins c (oi f t fs))))) σ ts vs:=by
 obtain⟨fp,gp,e,r,nd,k⟩:=S.rep
 obtain⟨v0,f1,f2,f3,hv,pN,rt,put,_⟩:=e.get hi
 subst pN
 cases rt with
 | pin rt=>
 cases rt with
 | @ins a dx _ gs _ g ha rs=>
   cases r with
   | @cons _ _ _ _ ft gr q1 q2=>
     have ne:∀c∈(f1++(g++f3))++(ft++gr),c≠x:=fun c hc e=>by
       subst e
       have hp:((f1++((c::g)++f3))++(ft++gr)).Perm (c::((f1++(g++f3))++(ft++gr))):=by
         rw[am5,← am5]
         exact(ant.append_right _)
       exact(ana.mp (hp.nodup_iff.mp nd)).1 hc
     refine⟨dx,gs,hv,ha,rs.length.symm,?_⟩
     have q1':=q1.mono (H':=upd H x (.ins (CL c) dx (j9 f v gs))) (.refl _) fun c hc=>ao (ne c (by simp[hc]))
     have rs':=rs.mono (H':=upd H x (.ins (CL c) dx (j9 f v gs))) (.refl _) fun c hc=>ao (ne c (by simp[hc]))
     obtain⟨p,p',h1,h2,h3⟩:=c9.put (f:=f) q1' rs'
     have r1:bB K CL (upd H x (.ins (CL c) dx (j9 f v gs))) Z (.pin x (.ins c (oi f t fs))) (.ref x) (x::p):=.pin (.ins az h1)
     have e2:=put (H':=upd H x (.ins (CL c) dx (j9 f v gs))) (.refl _) (fun c hc=>ao (ne c (by
       rcases amr.mp hc with h|h
       . simp[h]
       . simp[h]))) r1
     rw[gj hv]at e2
     have hp:((f1++((x::p)++f3))++gr).Perm ((f1++((x::p')++f3))++(ft++gr)):=by
       have h4:((f1++((x::p)++f3))++gr).Perm ((f1++((x::(ft++p'))++f3))++gr):=((h3.cons x).append_right f3).append_left f1 |>.append_right gr
       refine h4.trans ?_
       simp only[am5,amm]
       refine am1 f1 (List.Perm.cons x ?_)
       have:=(am2 (l₁:=ft) (l₂:=p'++f3)).append_right gr
       simp only[amm]at this
       exact this
     have sb:((f1++((x::p')++f3))++(ft++gr)).Sublist ((f1++((x::g)++f3))++(ft++gr)):=
       am7 (am7 (am4 _) (am7 (List.Sublist.cons₂ x h2) (am4 _))) (am4 _)
     exact S.yk rfl k (by simp) e2 (q2.mono (.refl _) fun c hc=>ao (ne c (by simp[hc]))) (hp.nodup_iff.mpr (nd.sublist sb)) fun c hc=>sb.subset (hp.mem_iff.mp hc)
variable{f:Str}{d:D}{fs:List (Str×D)}
theorem jA(hc:x6 X.K (CL c))(n:bz X.K (CL c) f)(h:cZ X CL b e δ (.ins c fs) δ1)(hl:fs.lookup f=some d)(hb:attributeBase e f X.env (eval e X.env)=eval e X.env:=by rfl) :
   cZ X CL b (.Attribute e f pos) δ d δ1:=fun H Z σ ts vs Q S k=>
 bW (Fy cN hb) (h H Z σ ts vs _ S fun v H' Z' z s S' r=>by
   cases r with
   | @ins a dx _ gs _ ha rf=>
     obtain⟨w,hw,KG⟩:=rf.get hl
     exact⟨a,CL c,dx,gs,w,rfl,ha,hc,n,hw,k w H' Z' z s S' KG⟩)
theorem gn(hc:x6 X.K (CL c))(n:bz X.K (CL c) f)(h:bO X CL b e δ (.sh (.ins c fs)) δ1)(hl:fs.lookup f=some d)(hb:attributeBase e f X.env (eval e X.env)=eval e X.env:=by rfl) :
   bO X CL b (.Attribute e f pos) δ (.sh d) δ1:=fun H Z σ ts vs Q S k=>
 bW (Fy cN hb) (h H Z σ ts vs _ S fun v H' Z' z s S'=>by
   obtain⟨fp,gp,_,r,_,_⟩:=S'.rep
   cases r with
   | cons r _=>
     cases r with
     | sh r=>
       cases r with
       | @ins a dx _ gs _ ha rf=>
         obtain⟨w,hw,KG⟩:=rf.get hl
         exact⟨a,CL c,dx,gs,w,rfl,S'.zh _ _ ha,hc,n,hw,k w H' Z' z s (S'.pop.push KG)⟩)
theorem D9{gs:List (Str×T)}{pa pb:Pos}(hc:x6 X.K (CL c))(n:bz X.K (CL c) f)(nm:Vn X i x)(h:bO X CL b e δ t δ1)(h1:δ1[i]? = some (some (.pin a (.ins c gs))))(hl:gs.length<1000)
   (k:dZ X CL b gf (δ1.set i (some (.pin a (.ins c (oi f t gs))))) DD) (hs:swapsWith e (some (.Attribute (.Name x pa) f pb)) pc.line X.env=pure false:=by rfl) :
   dZ X CL b (.Assign [.Attribute (.Name x pa) f pb] e pc::gf) δ DD:=cX fun H Z σ ts vs E S M=>
 qz (ZG (g8 nm.hi nm.hv nm.hd nm.iO) cN hs) (h H Z σ ts vs _ S fun v H' Z' z s S'=>by
   obtain⟨dx,ws,hv,hx,hlen,S2⟩:=S'.setField (f:=f) h1
   exact⟨.ref a,hv,a,CL c,dx,ws,rfl,hx,hc,n,by rw[hlen];exact hl,M.nx _ σ _ Z' z S2 k⟩)
def spI(K:PySem.W.Frag)(CL:Str->Addr){A:Type}(c:Str)(n:Nat)(arg:A->List D)(Pre:A->Prop)(res:A->List (Str×T)):Sp:=fun vs H Q _=>
 ∃(W H0:Hp) (a:A) (x dx:Addr) (us:List V),vs=.ref x::us/\H0 x=none/\H0 dx=none/\dx≠x/\H=upd (upd H0 dx (.own x)) x (.ins (CL c) dx []) ∧
   aA W H0/\(∀c o,H0 c=some o->iL o=true->W c=some o)/\ay K CL W (arg a) us/\(arg a).length+1=n/\Pre a/\lu CL W ∧
   ∀H' W' fp,aA H0 H'->aA W W'->aA W' H'->(∀c o,W' c=some o->W c=none->H0 c=none)->(∀c o,H' c=some o->iL o=true->W' c=some o) →
     bB K CL H' W' (.ins c (res a)) (.ref x) fp->fp.Nodup->(∀c∈fp,W' c=none/\H0 c=none)->Q .non H'
variable{A:Type}{k:Nat}{f:Addr}{ps:List Str}{arg:A->List D}{Pre:A->Prop}
theorem UL{res:A->List (Str×T)}(a:A)(M:Mk X.K (CL c) f)(F:g9 X.prog X.w X.K X.mg X.base ou k f fd ps (spI X.K CL c n arg Pre res))(hr:dW (k+1) X.A)(hm:X.mg x=some (.ref (CL c)))(hb:Binds X.K fd ps [])
   (h:N6 X CL b (e::es) δ (arg a) δ1) (hn:(arg a).length+1=n) (hp:Pre a) (hc:T.iQ (res a)=true) (hg:Gl X x)
   (wc:(x==("__debug__":Str))=false:=by decide) (he:starEach (e::es) X.env=(false,eval e X.env)::starEach es X.env:=by exact bA rfl) (hpl:(backTo pos (starEach es X.env)).any (·.1)=false:=by rfl) :
   bO X CL b (.Call (.Name x pp) (e::es) [] pos) δ (.ins c (res a)) δ1:=fun H Z σ ts vs Q S kk=>
 bW (Uo M F hr hg hm hb .nil DX X8 wc he hpl) (h H Z σ ts vs _ S fun us H1 Z1 z1 k1 S1 r x dx hx hdx ne=>by
   rw[amQ]
   refine⟨H1,H1,a,x,dx,us,rfl,hx,hdx,ne,rfl,.refl _,fun _ _ q _=>q,r,hn,hp,S1.KY,fun H' W' fp hh ww wh nw tp rt nd own=>⟨rfl,?_⟩⟩
   obtain⟨Z',z',S'⟩:=S1.back hh S1.zh ww wh nw tp rt nd own (.inr (by rw[T.clean];exact hc))
   exact kk _ H' Z' (z1.trans z') (k1.trans hh) S')
theorem UM{arg:A->List D}{Pre:A->Prop}{res:A->List (Str×T)}(F:kh K x qual st f fd)(S:aP N ps (ak st))
   (hb:∀(gB:Value) (Ar:Around) (outer:List Env) (s:Shared) (H:Hp) (E:XK) (b:Bx) (a:A) (y:Addr),dW k (Ar.deeper (envOfC qual (ak st) s.heap.objs.size f gB))->Pre a →
     dZ (n9 ou P w K mg base N qual (ak st) f gB Ar outer s H E).E7 CL b (ez st) (some (.pin y (.ins c []))::((arg a).map (fun d=>some (T.sh d))++List.replicate (N.length-((arg a).length+1)) none))
       {nx:=fun δ=>δ[0]? = some (some (.pin y (.ins c (res a)))),rt:=fun _ _=>False}) :
   g9 P w K mg base ou (k+1) f fd ps (spI K CL c ps.length arg Pre res):=by
 refine F.ok S (fun vs H Q E h=>?_) (fun gB Ar outer s H vs Q E hr h=>?_)
 . obtain⟨W,H0,a,y,dx,us,rfl,_,_,_,_,_,_,r,hl,_⟩:=h
   rw[am8,← r.length];exact hl
 . obtain⟨W,H0,a,y,dx,us,rfl,hy,hdx,ne,rfl,wh,tp,r,hl,hp,tb,kk⟩:=h
   have old:∀{d:Addr} {o:HO},H0 d=some o->upd (upd H0 dx (.own y)) y (.ins (CL c) dx []) d=some o:=fun {d o} q=>by
     rw[ao (aM q hy),ao (aM q hdx)];exact q
   refine⟨_,M3,hb gB Ar outer s _ E ⟨H0,W⟩ a y hr hp _ W _ [] [] _ ⟨⟨[y]++[],[],?_,.nil,by simp,fun d hd=>?_⟩,fun d o q=>old q,.refl _,fun d o q=>old (wh d o q),fun d o q z=>?_,fun d o q i=>?_,tb⟩ ⟨fun δ' σ' H' Z' s' S' e=>?_,fun t v H' Z' δ' σ' s' S' e=>e.elim,fun _ _ _ _ _ _ e=>e.elim,fun _ _ _ _ _ _ e=>e.elim⟩⟩
   . unfold L2.start
     rw[amB,am8,am5,← r.length]
     exact .cons (.pin (.ins az .nil)) (iR _ r)
   . have:d=y:=by simpa using hd
     subst this
     exact⟨ZU wh hy,hy⟩
   . have q':W d=some o:=q
     have z':W d=none:=z
     rw[q']at z';cases z'
   . by_cases h1:d=y
     . subst h1;rw[az]at q;cases q;cases i
     . rw[ao h1]at q
       by_cases h2:d=dx
       . subst h2;rw[az]at q;cases q;cases i
       . rw[ao h2]at q;exact tp d o q i
   . obtain⟨fp,gp,eE,_,nd,own⟩:=S'.rep
     obtain⟨v,f1,f2,f3,hv,pN,rt,_,_⟩:=eE.get e
     subst pN
     cases rt with
     | pin rt=>
       refine kk H' Z' f2 S'.bh S'.zz S'.zh S'.new S'.tp rt ?_ fun d hd=>own d (by simp[hd])
       have h1:=(amK.mp nd).1
       exact(amK.mp (amK.mp h1).2.1).1
variable{body:List Stmt}{ds q8:List D}
theorem BF(g:Gx X)(P:Nat->List (Option T)->Prop)(m:Nat)(h0:P m δ)
   (hs:∀m δ,P m δ->∃p δ1,qA X CL b e δ p δ1 ∧
     (p=true->dZ X CL b body δ1 {nx:=fun δ2=>∃m',m'<m/\P m' δ2,rt:=DD.rt,bk:=fun δ2=>dZ X CL b gf δ2 DD,ct:=fun δ2=>∃m',m'<m/\P m' δ2})/\(p=false->dZ X CL b gf δ1 DD)) :
   dZ X CL b (.While e body [] pos::gf) δ DD:=cX fun H Z σ ts vs E S M=>
 qz (Np g.xe ZT M3) (by
   refine⟨fun m σ H=>∃Z2 δ2,aA Z Z2/\bH X.K CL b H Z2 δ2 σ ts vs/\P m δ2,⟨m,Z,δ,.refl _,S,h0⟩,?_⟩
   rintro m σ H ⟨Z2,δ2,z2,S2,p2⟩
   obtain⟨p,δ3,ht,h1,h2⟩:=hs m δ2 p2
   refine ht H Z2 σ ts vs _ S2 fun H3 Z3 z3 k3 S3=>?_
   cases p with
   | true=>
     rw[amx rfl]
     refine⟨fun σ' H'=>∃m',m'<m/\∃Z2 δ2,aA Z Z2/\bH X.K CL b H' Z2 δ2 σ' ts vs/\P m' δ2,fun σ' H' q=>q,?_⟩
     refine h1 rfl H3 Z3 σ ts vs _ S3 ⟨fun δ' σ' H' Z' s' S' ⟨m',l,q⟩=>⟨m',l,Z',δ',z2.trans (z3.trans s'),S',q⟩,fun t v H' Z' δ' σ' s' S' q=>M.rt t v H' Z' δ' σ' (z2.trans (z3.trans s')) S' q,
       fun δ' σ' H' Z' s' S' q=>M.nx δ' σ' H' Z' (z2.trans (z3.trans s')) S' q,fun δ' σ' H' Z' s' S' ⟨m',l,q⟩=>⟨m',l,Z',δ',z2.trans (z3.trans s'),S',q⟩⟩
   | false=>
     rw[amq (by decide)]
     exact M.nx δ3 σ H3 Z3 (z2.trans z3) S3 (h2 rfl))
def aec(K:PySem.W.Frag):R2:=fun x y H Q=>∃l b xs zs,x=.ref l/\y=.ref b/\nV K H l xs/\nV K H b zs/\xs.length+zs.length<=sizeLine/\∀p,H p=none->Q (.ref p) (upd H p (.lst (xs++zs)))
theorem UN:oq X (binaryOp .Add) (aec X.K):=by
 intro pins s σ H x y v u Q I rx ry h
 obtain⟨l,b,xs,zs,rfl,rfl,hH,hB,hz,q⟩:=h
 cases rx
 cases ry
 obtain⟨its,r,pl,_⟩:=I.list hH
 obtain⟨KD,r2,pl2,_⟩:=I.list hB
 have e1:=r.length
 have e2:=r2.length
 obtain⟨⟨c1,dd,da1,sl⟩,ho,hc,n,hd⟩:=pl.isList
 obtain⟨⟨c2,X5,da2,sl2⟩,M0,FE,n2,hd2⟩:=pl2.isList
 cases hc;cases FE;cases hd;cases hd2
 refine concat_meets ⟨_,ho,rfl⟩ ⟨_,M0,rfl⟩ noFill_list_add seq_list_add PySem.F.slot_list_add PySem.F.entry_list_add (PySem.F.args_list_add_2 (Value.ref l) (Value.ref b))
   (list_addW l b its.toArray KD.toArray n n2 dd X5 sl sl2 (by rw[amJ,amJ];omega)) ⟨ho,M0,?_⟩
 have ea:its.toArray++KD.toArray=(its++KD).toArray:=by simp
 rw[ea]
 exact⟨.ref _,_,I.adU (t':=s.toks) (r.append r2) (by rw[amn];omega),rfl,q _ I.fresh⟩
theorem ay.app{ds q8:List L3.D}{vs2:List V}(h:ay K CL Z ds vs)(r2:ay K CL Z q8 vs2):ay K CL Z (ds++q8) (vs++vs2):=
 ay.ind (P:=fun ds vs=>ay K CL Z (ds++q8) (vs++vs2)) r2 (fun r _ i=>.cons r i) h
theorem BG(h1:cZ X CL b e1 δ (.lst ds) δ1)(h2:cZ X CL b e2 δ1 (.lst q8) δ2)(i1:D.aY ds=true)(i2:D.aY q8=true)(hz:ds.length+q8.length<=sizeLine) :
   bO X CL b (.BinOp e1 .Add e2 pos) δ (.lst ((ds++q8).map T.sh)) δ2:=fun H Z σ ts vs Q S k=>
 bW (xY UN cN cN) (h1 H Z σ ts vs _ S fun v1 H1 Z1 z1 k1 S1 r1=>h2 H1 Z1 σ ts vs _ S1 fun v2 H2 Z2 z2 k2 S2 r2=>by
   have KZ:=r1.mono k2
   cases KZ with
   | lst Ow Ea=>
     cases r2 with
     | lst UO Fe=>
       refine⟨_,_,_,_,rfl,rfl,Ow,UO,by rw[← Ea.length,← Fe.length];exact hz,fun p hp=>?_⟩
       have rc:=ay.app (ay.gA S2.tp i1 Ea) (ay.gA S2.tp i2 Fe)
       obtain⟨c,S4⟩:=(bH.qI rc S2).qX (g0:=[]) (by simp[rc.length,Ea.length,Fe.length]) hp
       exact k _ _ _ (z1.trans z2) (k1.trans (k2.trans c)) S4)
theorem boot_min:bootBuiltins "min" = some (.builtin "min"):=by decide +kernel
theorem boot_max:bootBuiltins "max" = some (.builtin "max"):=by decide +kernel
theorem boot_str:bootBuiltins "str" = some (.type "str"):=by decide +kernel
theorem IQ{i j:Int}(g:Gx X)(hm:X.mg "min" = none)(hg:Gl X "min")(h:N6 X CL b [e1,e2] δ [.int i,.int j] δ1)(hs:starEach [e1,e2] X.env=(false,eval e1 X.env)::starEach [e2] X.env:=by exact bA rfl)(hpl:(backTo pos (starEach [e2] X.env)).any (·.1)=false:=by rfl) :
   bO X CL b (.Call (.Name "min" pp) [e1,e2] [] pos) δ (.sh (.int (if j<i then j else i))) δ1:=fun H Z σ ts vs Q S k=>
 bW (ji (Kw g.calm) hg hm boot_min X8 (he:=hs) (hpl:=hpl)) (h H Z σ ts vs _ S fun us H1 Z1 z1 k1 S1 r=>by
   cases r with
   | cons r1 r=>
     cases r with
     | cons r2 r=>
       cases r
       rw[r1.sc rfl,r2.sc rfl]
       exact⟨i,j,rfl,k _ H1 Z1 z1 k1 (S1.push (.int _))⟩)
theorem IU{i j:Int}(g:Gx X)(hm:X.mg "max" = none)(hg:Gl X "max")(h:N6 X CL b [e1,e2] δ [.int i,.int j] δ1)(hs:starEach [e1,e2] X.env=(false,eval e1 X.env)::starEach [e2] X.env:=by exact bA rfl)(hpl:(backTo pos (starEach [e2] X.env)).any (·.1)=false:=by rfl) :
   bO X CL b (.Call (.Name "max" pp) [e1,e2] [] pos) δ (.sh (.int (if j > i then j else i))) δ1:=fun H Z σ ts vs Q S k=>
 bW (ji (Kv g.calm) hg hm boot_max X8 (he:=hs) (hpl:=hpl)) (h H Z σ ts vs _ S fun us H1 Z1 z1 k1 S1 r=>by
   cases r with
   | cons r1 r=>
     cases r with
     | cons r2 r=>
       cases r
       rw[r1.sc rfl,r2.sc rfl]
       exact⟨i,j,rfl,k _ H1 Z1 z1 k1 (S1.push (.int _))⟩)
theorem UQ{i:Int}(hm:X.mg "str" = none)(hg:Gl X "str")(h:cZ X CL b e δ (.int i) δ1)(hi:i.natAbs.log2<1920)(hs:starEach [e] X.env=(false,eval e X.env)::starEach [] X.env:=by exact bA rfl) :
   bO X CL b (.Call (.Name "str" pp) [e] [] pos) δ (.sh (.str (toString i))) δ1:=fun H Z σ ts vs Q S k=>
 bW (iP Bq hg hm boot_str (b8 cN dY hs) (he:=hs)) (h H Z σ ts vs _ S fun v H1 Z1 z1 k1 S1 r=>by
   rw[r.sc rfl]
   exact⟨i,rfl,hi,k _ H1 Z1 z1 k1 (S1.push (.str _))⟩)
structure Fm(X:Cx)(CL:Str->Addr)(x:Str)(k n:Nat){A:Type}(arg:A->List D)(Pre:A->Prop)(res:A->List (Str×T)):Prop where
 ex:∃f fd ps,Mk X.K (CL x) f/\g9 X.prog X.w X.K X.mg X.base ou k f fd ps (spI X.K CL x n arg Pre res)/\X.mg x=some (.ref (CL x))/\Binds X.K fd ps []
 room:dW (k+1) X.A
def aan(N:List Str)(y:Addr)(c:Str)(ds:List D):List (Option T):=some (.pin y (.ins c []))::(ds.map (fun d=>some (T.sh d))++List.replicate (N.length-(ds.length+1)) none)
section
variable{m:Str}{D:eL}
theorem mk_{arg:A->List L3.D}{Pre:A->Prop}{res:A->List (Str×T)}(a:A)(F:Fm X CL x k n arg Pre res)(hg:Gl X x)(h:N6 X CL b (e::es) δ (arg a) δ1)(hp:Pre a)(hc:T.iQ (res a)=true)(hn:(arg a).length+1=n:=by rfl)
   (wc:(x==("__debug__":Str))=false:=by decide) (he:starEach (e::es) X.env=(false,eval e X.env)::starEach es X.env:=by exact bA rfl) (hpl:(backTo pos (starEach es X.env)).any (·.1)=false:=by rfl) :
   bO X CL b (.Call (.Name x pp) (e::es) [] pos) δ (.ins x (res a)) δ1:=by
 obtain⟨f,fd,ps,M,F1,m,b⟩:=F.ex
 exact UL a M F1 F.room m b h hn hp hc hg wc he hpl
end
theorem pP{f:Str}{d:α}{fs:List (Str×α)}:((f,d)::fs).lookup f=some d:=by
 rw[amP,anM]
theorem fW{f g:Str}{d:α}{fs:List (Str×α)}(h:(f==g)=false):((g,d)::fs).lookup f=fs.lookup f:=by
 rw[amP,h]
theorem oM{f:Str}:oi f t []=[(f,t)]:=rfl
variable{u:T}
theorem dB{f g:Str}{fs:List (Str×T)}(h:¬ g=f):oi f t ((g,u)::fs)=(g,u)::oi f t fs:=by
 rw[oi,amq h]
theorem K5{f:Str}{fs:List (Str×T)}:oi f t ((f,u)::fs)=(f,t)::fs:=by
 rw[oi,amx rfl]
variable{d:L3.D}
def Ox(d:L3.D):Option (List L3.D):=match d with
 | .lst ds=>some ds
 | .tup ds=>some ds
 | _=>none
theorem bu.Ox{ds:List L3.D}(r:bu K CL Z d v)(h:L3.Ox d=some ds):∃p us,v=.ref p/\(nV K Z p us\/om K Z p us)/\ay K CL Z ds us:=by
 cases r with
 | tup hq rr=>cases h;exact⟨_,_,rfl,.inr hq,rr⟩
 | lst hq rr=>cases h;exact⟨_,_,rfl,.inl hq,rr⟩
 | non=>cases h
 | bl=>cases h
 | int=>cases h
 | str=>cases h
 | any=>cases h
 | val=>cases h
 | rX=>cases h
 | dct=>cases h
 | ins=>cases h
 | gF=>cases h
theorem wY(h1:cZ X CL b e1 δ (.str x) δ1)(h2:cZ X CL b e2 δ1 d δ2)(hd:L3.Ox d=some (l.map .str))(hm:behindInMarks .NotIn e2=false) :
   qA X CL b (.Compare e1 [.NotIn] [e2] pos) δ (!decide (x∈l)) δ2/\bO X CL b (.Compare e1 [.NotIn] [e2] pos) δ (.sh (.bl (!decide (x∈l)))) δ2:=by
 constructor
 . intro H Z σ ts vs Q S k
   refine uE (sf sE cN cN hm) (h1 H Z σ ts vs _ S fun v1 H1 Z1 z1 k1 S1 r1=>h2 H1 Z1 σ ts vs _ S1 fun v2 H2 Z2 z2 k2 S2 r2=>?_)
   obtain⟨p,us,rfl,hq,rr⟩:=bu.Ox r2 hd
   have e:=rr.strs
   subst e
   refine⟨_,_,rfl,hq,by rw[r1.sc rfl];rfl,iu l,_,rfl,?_⟩
   rw[amx rfl,r1.sc rfl,sP]
   exact k H2 Z2 (z1.trans z2) (k1.trans k2) S2
 . intro H Z σ ts vs Q S k
   refine bW (se sE cN cN hm) (h1 H Z σ ts vs _ S fun v1 H1 Z1 z1 k1 S1 r1=>h2 H1 Z1 σ ts vs _ S1 fun v2 H2 Z2 z2 k2 S2 r2=>?_)
   obtain⟨p,us,rfl,hq,rr⟩:=bu.Ox r2 hd
   have e:=rr.strs
   subst e
   refine⟨_,_,rfl,hq,by rw[r1.sc rfl];rfl,iu l,?_⟩
   rw[amx rfl,r1.sc rfl,sP]
   exact k _ H2 Z2 (z1.trans z2) (k1.trans k2) (S2.push (.bl _))
variable{ds:List L3.D}
theorem aW:IC X CL b [] δ (([]:List L3.D).map T.sh) δ:=cS
theorem au(h1:bO X CL b e δ (.sh d) δ1)(h2:IC X CL b es δ1 (ds.map T.sh) δ2)(hs:starEach (e::es) X.env=(false,eval e X.env)::starEach es X.env:=by exact bA rfl):IC X CL b (e::es) δ ((d::ds).map T.sh) δ2:=aU h1 h2 hs
theorem jI(h:IC X CL b es δ (ds.map T.sh) δ1)(hl:ds.length<=sizeLine):bO X CL b (.List es pos) δ (.lst (ds.map T.sh)) δ1:=lz h (by simpa using hl)
theorem dg(l:List Str):D.aY (l.map L3.D.str)=true:=jm (fun _=>rfl) _
theorem IV(h:bO X CL b e δ (.lst (ds.map T.sh)) δ1):bO X CL b e δ (.sh (.lst ds)) δ1:=by
 have:=FP h
 rwa [T.bP,iY]at this
theorem kT(h:bO X CL b e δ t δ1)(q:t.bP=d):bO X CL b e δ (.sh d) δ1:=q▸FP h
theorem Eb{d2:L3.D}(h:cZ X CL b e δ d δ1)(q:d=d2):cZ X CL b e δ d2 δ1:=q▸h
theorem aD{t2:T}(h:bO X CL b e δ t δ1)(q:t=t2):bO X CL b e δ t2 δ1:=q▸h
structure ym(Z H Z' H':Hp):Prop where
 z:aA Z Z'
 h:aA H H'
 zh:aA Z' H'
 new:∀a o,Z' a=some o->Z a=none->H a=none
 tp:∀a o,H' a=some o->iL o=true->Z' a=some o
theorem ym.refl(zh:aA Z H)(tp:∀a o,H a=some o->iL o=true->Z a=some o):ym Z H Z H:=⟨.refl _,.refl _,zh,fun a o q z=>(by rw[q]at z;cases z),tp⟩
theorem ym.tup{p:Addr}(zh:aA Z H)(tp:∀a o,H a=some o->iL o=true->Z a=some o)(hp:H p=none):ym Z H (upd Z p (.tup xs)) (upd H p (.tup xs)):=by
 have zp:Z p=none:=zh.free hp
 refine⟨aA.upd zp,aA.upd hp,fun a o q=>?_,fun a o q z=>?_,fun a o q i=>?_⟩
 . by_cases e:a=p
   . subst e;rw[az]at q ⊢;exact q
   . rw[ao e]at q ⊢;exact zh a o q
 . by_cases e:a=p
   . subst e;exact hp
   . rw[ao e,z]at q;cases q
 . by_cases e:a=p
   . subst e;rw[az]at q ⊢;exact q
   . rw[ao e]at q ⊢;exact tp a o q i
theorem bH.grow(S:bH K CL b H Z δ σ ts vs)(g:ym Z H Z' H'):bH K CL b H' Z' δ σ ts vs:=by
 obtain⟨fp,gp,e,r,nd,k⟩:=S.rep
 have old:∀a∈fp++gp,∃o,H a=some o:=fun a ha=>(amr.mp ha).elim (e.there a) (r.there a)
 have keep:∀a∈fp++gp,H' a=H a:=fun a ha=>by
   obtain⟨o,q⟩:=old a ha
   rw[q];exact g.h a o q
 refine⟨⟨fp,gp,e.mono g.z (fun a ha=>keep a (amk _ ha)),r.mono g.z (fun a ha=>keep a (amc _ ha)),nd,fun a ha=>⟨?_,(k a ha).2⟩⟩,S.bh.trans g.h,S.zz.trans g.z,g.zh,fun a o q z=>?_,g.tp,S.tab⟩
 . cases q:Z' a with
   | none=>rfl
   | some o=>
     obtain⟨u,hu⟩:=old a ha
     rw[g.new a o q (k a ha).1]at hu;cases hu
 . cases e2:Z a with
   | none=>exact S.bh.free (g.new a o q e2)
   | some u=>
     have:=g.z a u e2
     rw[q]at this;cases this
     exact S.new a o e2 z
def IW(δ:List (Option T)):List Nat->List D->List (Option T)
 | i::is,d::ds=>IW (δ.set i (some (.sh d))) is ds
 | _,_=>δ
def yo(σ:L2.St):List Nat->List V->L2.St
 | i::is,v::vs=>yo (σ.set i (some v)) is vs
 | _,_=>σ
theorem bH.sets{ps:List D}{ys:List V}:∀{is:List Nat} {δ:List (Option T)} {σ:L2.St},bH K CL b H Z δ σ ts vs->ay K CL Z ps ys->(∀i∈is,i<δ.length)->bH K CL b H Z (IW δ is ps) (yo σ is ys) ts vs:=by
 intro is
 induction is generalizing ps ys with
 | nil=>
   intro δ σ S r _
   cases ps<;>cases ys<;>exact S
 | cons i is ih=>
   intro δ σ S r hl
   cases r with
   | nil=>exact S
   | cons r rr=>exact ih ((S.push r).set (hl i ama)) rr (fun j hj=>by rw[aoQ];exact hl j (ame _ hj))
section
variable{tg:Expr}{ds:List D}
structure BH(X:Cx)(CL:Str->Addr)(b:Bx)(δ1:List (Option T))(σ:L2.St)(ts:List T)(vs:List V)(Z H:Hp)(ds:List D)(J:It)(H1:Hp):Prop where
 ex:∃Z1,aA Z Z1/\aA H H1/\bH X.K CL b H1 Z1 δ1 σ ts vs/\(∀i H2,aA Z1 H2->i<ds.length->J.go i H2) ∧
   (∀i Z2 H2 x H',aA Z1 Z2->aA Z2 H2->(∀a o,H2 a=some o->iL o=true->Z2 a=some o)->i<ds.length->J.XU i H2 x H'->∃Z3 d,ds[i]? = some d/\ym Z2 H2 Z3 H'/\bu X.K CL Z3 d x)/\(∀H2,aA Z1 H2->J.stop ds.length H2)
def Yk(X:Cx)(CL:Str->Addr)(b:Bx)(tg e:Expr)(δ:List (Option T))(ds:List D)(δ1:List (Option T)):Prop:=
 ∃wi,PI X tg e wi/\∀(H Z:Hp) (σ:L2.St) (ts:List T) (vs:List V) (R:It->Hp->Prop),bH X.K CL b H Z δ σ ts vs->(∀J H1,BH X CL b δ1 σ ts vs Z H ds J H1->R J H1)->wi σ H R
theorem IX(h:Yh X CL b tg iter δ ds δ1):Yk X CL b tg iter δ ds δ1:=by
 obtain⟨wi,pi,hw⟩:=h
 refine⟨wi,pi,fun H Z σ ts vs R S k=>hw H Z σ ts vs R S fun J H1 zz=>?_⟩
 obtain⟨Z1,us,z1,k1,S1,rr,go,yl,st⟩:=zz
 refine k J H1 ⟨Z1,z1,k1,S1,go,fun i Z2 H2 x H' s1 s2 tp hi hy=>?_,st⟩
 obtain⟨e,hu⟩:=yl i H2 x H' (s1.trans s2) hi hy
 subst e
 obtain⟨d,hd,rd⟩:=rr.Ux hu
 exact⟨Z2,d,hd,.refl s2 tp,rd.mono s1⟩
def Tgt(X:Cx)(CL:Str->Addr)(tg:Expr)(is:List Nat)(parts:D->Option (List D)):Prop:=
 ∃t:TG,PG X tg t/\∀(Z H:Hp) (d:D) (ps:List D) (x:V) (σ:L2.St) (Q:L2.St->Hp->Prop),aA Z H->bu X.K CL Z d x->parts d=some ps->(∀ys,ay X.K CL Z ps ys->Q (yo σ is ys) H)->t x σ H Q
def part1(d:D):Option (List D):=some [d]
def part2:D->Option (List D)
 | .tup [a,c]=>some [a,c]
 | _=>none
theorem K6{d:D}{ps:List D}(h:part2 d=some ps):∃d1 d2,d=.tup [d1,d2]/\ps=[d1,d2]:=by
 unfold part2 at h
 split at h
 . cases h;exact⟨_,_,rfl,rfl⟩
 . cases h
theorem FW{d:D}{ps:List D}{x:V}{Q:L2.St->Hp->Prop}(zh:aA Z H)(r:bu K CL Z d x)(e:part2 d=some ps)(k:∀ys,ay K CL Z ps ys->Q (yo σ [i,j] ys) H):Zm K 2 (DS (vD i) (DS (vD j) Zk)) x σ H Q:=by
 obtain⟨d1,d2,rfl,rfl⟩:=K6 e
 cases r with
 | tup hq rr=>
   cases rr with
   | cons r1 rr=>
     cases rr with
     | cons r2 rr=>
       cases rr
       exact⟨_,_,rfl,aA.wV zh hq,rfl,_,_,rfl,_,_,rfl,rfl,k _ (.cons r1 (.cons r2 .nil))⟩
theorem Oz{px:Pos}(hN:X.N.Nodup)(n:Ln X i x):Tgt X CL (.Name x px) [i] part1:=
 ⟨vD i,kR hN n.hi n.loc n.hf,fun Z H d ps x σ Q zh r e k=>by
   cases e
   exact k [x] (.cons r .nil)⟩
theorem BI{y:Str}{px py pt:Pos}(hN:X.N.Nodup)(hc:X.calm=true)(n:Ln X i x)(m:Ln X j y)(hs:(assignEach [.Name x px,.Name y py] X.env).map (·.2)=assign (.Name x px) X.env::(assignEach [.Name y py] X.env).map (·.2):=by rfl)(wQ:(assignEach [.Name y py] X.env).map (·.2)=assign (.Name y py) X.env::(assignEach [] X.env).map (·.2):=by rfl)
   (hn:(assignEach [.Name x px,.Name y py] X.env).length=2:=by rfl) (E8:(assignEach [.Name x px,.Name y py] X.env).findIdx? (·.1)=none:=by rfl):Tgt X CL (.Tuple [.Name x px,.Name y py] k pt) [i,j] part2:=
 ⟨Zm X.K 2 (DS (vD i) (DS (vD j) Zk)),Nn hc (r9 (kR hN n.hi n.loc n.hf) (r9 (kR hN m.hi m.loc m.hf) Ij wQ) hs) hn E8,fun Z H d ps x σ Q zh r e k=>FW zh r e k⟩
theorem UR{D:eL}(is:List Nat)(parts:L3.D->Option (List L3.D))(P:Nat->List (Option T)->Prop)(h:Yk X CL b tg iter δ ds δ1)(ht:Tgt X CL tg is parts)(h0:P 0 δ1)(hl:∀j δ,P j δ->∀i∈is,i<δ.length)
   (hs:∀j d δ,ds[j]? = some d->P j δ->∃ps,parts d=some ps/\dZ X CL b gf (IW δ is ps) {nx:=P (j+1),rt:=D.rt,bk:=D.nx,ct:=P (j+1)}) (hd:∀δ,P ds.length δ->D.nx δ)
   (hp:PassesOwn (model X.prog X.w) X.A X.env X.xe) (hc:X.calm=true) (hq:∀x,foldedSetIterable iter X.env x=pure x:=by intro _;rfl) :
   Tw X CL b (.For tg iter gf [] pos) δ D:=fun H Z σ ts vs E S M=>by
 obtain⟨wi,pi,hw⟩:=h
 obtain⟨t,pg,ht⟩:=ht
 refine qz (Bp hp hc pi pg M3 hq) (hw H Z σ ts vs _ S fun J H1 zz=>?_)
 obtain⟨Z1,z1,k1,S1,go,yl,st⟩:=zz
 refine⟨fun j m σ H2=>m=ds.length-j/\j<=ds.length/\∃Z2 δ2,aA Z1 Z2/\bH X.K CL b H2 Z2 δ2 σ ts vs/\P j δ2,⟨_,rfl,amR _,Z1,δ1,.refl _,S1,h0⟩,?_⟩
 rintro j m σ H2 ⟨rfl,hj,Z2,δ2,s,S2,p2⟩
 by_cases iS:j<ds.length
 . refine .inr ⟨go j H2 (s.trans S2.zh) iS,fun σ' H'=>∃Z2 δ2,aA Z1 Z2/\bH X.K CL b H' Z2 δ2 σ' ts vs/\P (j+1) δ2,fun σ' H' h=>⟨ds.length-(j+1),by omega,rfl,iS,h⟩,fun y H' hy=>?_⟩
   obtain⟨Z3,d,zQ,gr,rd⟩:=yl j Z2 H2 y H' s S2.zh S2.tp iS hy
   obtain⟨ps,hps,hb⟩:=hs j d δ2 zQ p2
   have S3:=S2.grow gr
   refine ht Z3 H' d ps y σ _ S3.zh rd hps fun ys rys=>?_
   have S4:=S3.sets (is:=is) rys (hl j δ2 p2)
   have s3:=s.trans gr.z
   exact hb _ Z3 _ ts vs _ S4 ⟨fun δ' σ' H' Z' s' S' k=>⟨Z',δ',s3.trans s',S',k⟩,fun t v H' Z' δ' σ' s' S' k=>M.rt t v H' Z' δ' σ' (z1.trans (s3.trans s')) S' k,fun δ' σ' H' Z' s' S' k=>M.nx δ' σ' H' Z' (z1.trans (s3.trans s')) S' k,fun δ' σ' H' Z' s' S' k=>⟨Z',δ',s3.trans s',S',k⟩⟩
 . have e:j=ds.length:=by omega
   subst e
   exact .inl ⟨st H2 (s.trans S2.zh),M.nx δ2 σ H2 Z2 (z1.trans s) S2 (hd δ2 p2)⟩
theorem FY{D:eL}{is:List Nat}{parts:L3.D->Option (List L3.D)}(g:Gx X)(ht:Tgt X CL tg is parts)(P:Nat->List (Option T)->Prop)(h:Yk X CL b tg iter δ ds δ1)(h0:P 0 δ1)(hl:∀j δ,P j δ->∀i∈is,i<δ.length)
   (hs:∀j d δ,ds[j]? = some d->P j δ->∃ps,parts d=some ps/\dZ X CL b body (IW δ is ps) {nx:=P (j+1),rt:=D.rt,bk:=fun δ2=>dZ X CL b gf δ2 D,ct:=P (j+1)}) (hd:∀δ,P ds.length δ->dZ X CL b gf δ D) (hq:∀x,foldedSetIterable iter X.env x=pure x:=by intro _;rfl) :
   dZ X CL b (.For tg iter body [] pos::gf) δ D:=
 cX (UR (D:={D with nx:=fun δ1=>dZ X CL b gf δ1 D}) is parts P h ht h0 hl hs hd g.xe g.calm hq)
end
structure oN(X:Cx)(scope:Scope)(xs:List Str)(Nc:List Str)(ix:List Nat):Prop where
 kind:scope.kind=.function
 uH:∀y∈scope.names,y.2 ≠ .cell
 nd:Nc.Nodup
 names:∀y∈scope.names,y.2=.local->scope.names.lookup y.1=some .local
 own:∀x∈xs,scope.names.lookup x=some .local
 frees:∀y∈scope.names,y.2=.free->scope.names.lookup y.1=some .free/\(X.env.kindOf y.1=some .cell\/X.env.kindOf y.1=some .free)
 hd:Nc=xs++ix.filterMap (X.N[·]?)
 Yg:∀i∈ix,∃y,X.N[i]? = some y/\scope.names.lookup y=some .free
def K7(σ:L2.St)(ix:List Nat)(os:List (Option V)):L2.St:=os++ix.map fun i=>(σ[i]?).getD none
variable{xs:List Str}
theorem Ec(sc:oN X scope xs Nc ix)(I:Inv X pins σ H s)(pN:∀b∈fp,v8 X pins H b/\b<s.heap.objs.size){h':Heap}{m:Str->Option Value}{tk:Nat}
   (hn:h'.Ns s.heap.objs.size m) (hk:∀b o,s.heap.get? b=some o->h'.get? b=some o) :
   Inv (d7 X scope Nc s.heap.objs.size s H fp) [] (K7 σ ix (List.replicate xs.length none)) H {s with heap:=h',toks:=tk}:=by
 have frees:∀y∈scope.names,y.2=.free->∃c,X.env.cells.lookup y.1=some c:=fun y hy e=>I.ok.has y.1 (sc.frees y hy e).2
 have sub:∀{y:Str} {c:Addr},(cT X.env scope.names []).lookup y=some c->X.env.cells.lookup y=some c:=fun {y c} e=>mK frees (fun _ _ z=>by cases z) e
 have hlen:(K7 σ ix (List.replicate xs.length none)).length=Nc.length:=by
   have all:∀l:List Nat,(∀i∈l,∃y,X.N[i]? = some y/\scope.names.lookup y=some .free)->(l.filterMap (X.N[·]?)).length=l.length:=by
     intro l
     induction l with
     | nil=>intro _;rfl
     | cons i r ih=>
       intro h
       obtain⟨y,e,_⟩:=h i ama
       rw[anv,e]
       show _+1=_+1
       rw[ih fun j hj=>h j (ame _ hj)]
   unfold K7
   rw[sc.hd,amn,amn,al8,anJ,all ix sc.Yg]
 have C0:s.heap.get? s.heap.objs.size=none:=Heap.get?_none_of_le (aml _)
 refine⟨⟨I.ok.mod,sc.kind,I.ok.glob,I.ok.blt,aml _,fun y z c h1 h2=>I.ok.inj y z c (sub h1) (sub h2),fun y hy=>?_,fun y c hf _=>(by cases (show false=true from hf)),I.ok.hd,I.ok.frames,.inl rfl,fun b hb=>⟨amV (pN b hb).2,fun y c e=>(pN b hb).1.2.2.2.2.1 y c (sub e)⟩,I.bs,am9 I.ok.Ni I.sz,fun b o e hb=>?_,fun b hb hf=>?_,I.stack,I.Ic⟩,
   rfl,I.bare,Un.kept hk,⟨m,hn,fun i y v h1 h2 h3=>?_⟩,fun y c e=>?_,I.cQ.fresh (aml _),fun y c e=>I.kQ y c (sub e),fun p hp=>absurd (show p∈([]:List (Addr×Obj)) from hp) (by simp),I.cQ.kept hk,hlen⟩
 .
   have hy':(relabel scope X.env).names.lookup y=some .cell\/(relabel scope X.env).names.lookup y=some .free:=hy
   cases e:scope.names.lookup y with
   | none=>
     have:=jE (env:=X.env) e
     rcases hy' with q|q<;>(rw[show(relabel scope X.env).names.lookup y=none from this]at q;cases q)
   | some k=>
     have q:=gi (env:=X.env) e
     have hk:k=.free:=by
       by_cases hk:k=.free
       . exact hk
       . have hb:(k==NameKind.free)=false:=by simpa using hk
         rw[amq (by rw[hb];simp)]at q
         have nc:k ≠ .cell:=fun z=>by
           subst z
           exact sc.uH _ (anw e) rfl
         rcases hy' with z|z
         . rw[show(relabel scope X.env).names.lookup y=some k from q]at z
           exact absurd (amA z) nc
         . rw[show(relabel scope X.env).names.lookup y=some k from q]at z
           exact absurd (amA z) hk
     subst hk
     exact ko e
 .
   rcases(pN b hb).1.2.2.2.1 with z|z
   . exact I.ok.Nj b o e z
   . exact absurd (amX (amC e) (am9 I.ok.Ni z)) (aoG _)
 . rcases ami.mp (I.Bo b hf) with z|z
   . exact(pN b hb).1.2.1 z
   . exact(pN b hb).1.2.2.1 z
 .
   unfold K7 at h2
   by_cases hi:i<xs.length
   . rw[amF (by rw[anJ];exact hi),List.getElem?_replicate,amx hi]at h2
     cases h2
   . obtain⟨n,rfl⟩:∃n,i=xs.length+n:=⟨i-xs.length,by omega⟩
     rw[an0 (by rw[anJ];omega),anJ,Nat.add_sub_cancel_left,amg]at h2
     cases ei:ix[n]? with
     | none=>rw[ei]at h2;cases h2
     | some j=>
       rw[ei]at h2
       have OB:(σ[j]?).getD none=some v:=amA h2
       have hj:σ[j]? = some (some v):=by
         cases q:σ[j]? with
         | none=>rw[q]at OB;cases OB
         | some o=>rw[q]at OB;exact congrArg some OB
       obtain⟨y',Yl,FZ⟩:=sc.Yg j (amt ei)
       have hNc:Nc[xs.length+n]? = some y':=by
         have all:∀(l:List Nat) (i:Nat),(∀j∈l,∃y,X.N[j]? = some y/\scope.names.lookup y=some .free)->l[i]? = some j->(l.filterMap (X.N[·]?))[i]? = some y':=by
           intro l
           induction l with
           | nil=>intro i _ h;simp at h
           | cons a r ih=>
             intro i h hi
             obtain⟨ya,ea,_⟩:=h a ama
             rw[anv,ea]
             cases i with
             | zero=>
               simp at hi
               subst hi
               rw[Yl]at ea
               cases ea
               rfl
             | succ i=>exact ih i (fun j hj=>h j (List.mem_cons_of_mem _ hj)) (by simpa using hi)
         rw[sc.hd,an0 (by omega),Nat.add_sub_cancel_left]
         exact all ix n sc.Yg ei
       have ey:y'=y:=by
         have Ym:Nc[xs.length+n]? = some y:=h1
         rw[hNc]at Ym
         exact amA Ym
       subst ey
       have sr:=(sc.frees (y',.free) (anw FZ) rfl).2
       have aao:XS X.env.scope y':=sr.elim (fun z=>.inr (.inl z)) (fun z=>.inr (.inr z))
       obtain⟨m0,hn0,hl0⟩:=I.loc
       obtain⟨u,ru,lk⟩:=hl0 j y' v Yl hj aao
       refine⟨u,ru,?_⟩
       rcases lk with⟨kk,_⟩|⟨_,c,hc,qG⟩
       . rcases sr with z|z
         . rw[kk]at z;cases z
         . rw[kk]at z;cases z
       . obtain⟨c',Kp⟩:=ko (env:=X.env) (cs:=[]) FZ
         have:c'=c:=by
           have:=sub Kp
           rw[hc]at this
           exact(amA this).symm
         subst this
         obtain⟨o,ho,hd⟩:=qG
         refine .inr ⟨?_,c',Kp,o,hk _ _ ho,hd⟩
         have q:=gi (env:=X.env) FZ
         show(relabel scope X.env).names.lookup y'=some .cell\/(relabel scope X.env).names.lookup y'=some .free
         rw[show(relabel scope X.env).names.lookup y'=_ from q]
         split
         . exact .inl rfl
         . exact .inr rfl
 . obtain⟨v,o,ho,hd⟩:=I.cell y c (sub e)
   exact⟨v,o,hk _ _ ho,hd⟩
def OD(X:Cx)(tg elt:Expr)(ifs:List Expr)(n:Nat)(σ:L2.St)(ix:List Nat)(D:Addr)(N:Hp->Prop)(xv:V)(os:List (Option V))(H3:Hp):Prop:=
 ∃t:TG,PG X tg t/\t xv (K7 σ ix os) H3 fun σ8 H4=>∃os',os'.length=n/\σ8=K7 σ ix os'/\Z8 X ifs σ8 H4 fun ok H5=>
   if ok=true then DZ X elt σ8 H5 fun y H6=>∃acc,H6 D=some (.lst acc)/\acc.length<sizeLine/\N (upd H6 D (.lst (acc++[y]))) else N H5
variable{tg:Expr}{it:Addr}{E:Value->Shared->Prop}
theorem F0{J:It}{tn:Nat->Heap->Prop}{G:Addr->Hp->Prop}{RR:Value->Addr->Result->Shared->Prop}
   (sc:oN X scope xs Nc ix) (hc:X.calm=true) (I:Inv X pins σ H s) (Tn:Turn X.prog X.w X.K tg J fp it tn) (st:tn 0 s.heap) (hf:∀b∈fp,v8 X pins H b)
   (loop:∀D,H D=none->∃W:Nat->Nat->Hp->Prop,(∃m,W 0 m (upd H D (.lst [])))/\∀i m H2,W i m H2->(J.stop i H2/\G D H2) ∨
     (J.go i H2/\∃N:Hp->Prop,(∀H',N H'->∃m',m'<m/\W (i+1) m' H')/\∀xv H3,J.XU i H2 xv H3->∀C s0 H0 f0 os,os.length=xs.length->OD (d7 X scope Nc C s0 H0 f0) tg elt ifs xs.length σ ix D N xv os H3))
   (hRR:∀D C s' H',(∃m,s'.heap.Ns C m)->(∃o,s'.heap.get? C=some o/\∀v,o.data ≠ .cell v)->H' C=none->(C≠X.env.locals/\C∉X.fs/\X.s₀.heap.objs.size<=C/\(∀y c,X.env.cells.lookup y=some c->c≠C)/\∀q∈X.pn++pins,q.1≠C)->(∀h',Heap.SameBut C s'.heap h'->Inv X pins σ H' {s' with heap:=h'})->G D H'->RR (.ref D) C (.ok .next) s') :
   wpAny (model X.prog X.w) X.A (newList []) (fun acc s₃=>wpAny (model X.prog X.w) X.A (newFunctionEnv scope X.env.globals (cT X.env scope.names []) [] X.env.qual none .none (some X.env)) (fun OG s₄=>
     codeAny (model X.prog X.w) X.A (.compStart (.ListComp elt [⟨tg,iter,ifs,0⟩] scope pos) 0 (.ref it) acc {OG with scope:=relabel scope X.env}) (RR acc OG.locals) s₄) E s₃) E s:=by
 refine ank ?_
 have I3:Inv X pins σ (upd H s.heap.objs.size (.lst [])) {s with heap:=s.heap.push {cls:=.type "list",dict:=none,data:=.seq ([]:List Value).toArray}}:=
   I.laid (t':=s.toks) (fun b u e=>amo _ e) (aml _) ⟨by show 0<=sizeLine;exact amR _,[],0,.nil,amD _ rfl⟩
 have hD:H s.heap.objs.size=none:=I.cQ.fresh (aml _)
 obtain⟨W,⟨m0,w0⟩,turn⟩:=loop _ hD
 have OI:∀b∈fp,v8 X pins (upd H s.heap.objs.size (.lst [])) b/\b<(s.heap.push {cls:=.type "list",dict:=none,data:=.seq ([]:List Value).toArray}).objs.size:=fun b hb=>by
   obtain⟨f0,f1⟩:=hf b hb
   obtain⟨o,ho,_⟩:=Tn.obj 0 _ st b hb
   have iS:=amC ho
   refine⟨⟨by rw[ao (amV iS)];exact f0,f1⟩,?_⟩
   rw[aoZ];exact Nat.lt_succ_of_lt iS
 have st3:tn 0 (s.heap.push {cls:=.type "list",dict:=none,data:=.seq ([]:List Value).toArray}):=Tn.keep 0 _ _ st fun b _ o e=>amo _ e
 generalize hs3:({s with heap:=s.heap.push {cls:=.type "list",dict:=none,data:=.seq ([]:List Value).toArray}}:Shared)=s3 at I3 ⊢
 have hh3:s3.heap=s.heap.push {cls:=.type "list",dict:=none,data:=.seq ([]:List Value).toArray}:=by rw[← hs3]
 rw[← hh3]at OI st3
 refine wpAny_newFunctionEnv sc.uH (by intro y hy;simp at hy) (fun h₁ aaq aar=>?_) sc.kind
 have old:∀b o,s3.heap.get? b=some o->h₁.get? b=some o:=fun b o e=>(aar.2 b (amV (amC e))).trans (amo _ e)
 have J0:=Ec (tk:=s3.toks+([]:List (Str×Value)).length) sc I3 OI aaq old
 have st4:tn 0 h₁:=Tn.keep 0 _ _ st3 fun b _ o e=>old b o e
 have Yn:∀s4:Shared,s4={s3 with heap:=h₁,toks:=s3.toks+([]:List (Str×Value)).length}->codeAny (model X.prog X.w) X.A (.compLoop (.ListComp elt [⟨tg,iter,ifs,0⟩] scope pos) 0 (.ref it) (.ref s.heap.objs.size) (compEnvC scope (cT X.env scope.names []) s3.heap.objs.size X.env)) (RR (.ref s.heap.objs.size) s3.heap.objs.size) s4:=by
   rintro s4 rfl
   have stat:∀{H':Hp},(∀b∈fp,H' b=none)->∀b∈fp,v8 (d7 X scope Nc s3.heap.objs.size s3 (upd H s.heap.objs.size (.lst [])) fp) [] H' b:=fun {H'} hn b hb=>by
     obtain⟨⟨f0,f1,f2,f3,f4,f5⟩,iS⟩:=OI b hb
     refine⟨hn b hb,amV iS,fun z=>?_,.inl hb,fun y c e=>f4 y c (mK (fun y hy e=>I.ok.has y.1 (sc.frees y hy e).2) (fun _ _ z=>by cases z) e),fun p hp=>absurd (show p∈([]:List (Addr×Obj)) from hp) (by simp)⟩
     rcases ami.mp (I3.Bo b z) with q|q
     . exact f1 q
     . exact f2 q
   refine BE (fun n s'=>∃i o H',o.length=xs.length/\Inv (d7 X scope Nc s3.heap.objs.size s3 (upd H s.heap.objs.size (.lst [])) fp) [] (K7 σ ix o) H' s'/\tn i s'.heap/\(∀b∈fp,H' b=none)/\W i n H') ?_ m0 ⟨0,_,_,anJ,J0,st4,fun b hb=>(OI b hb).1.1,w0⟩
   rintro n s5 ⟨i,o5,H5,ol5,I5,st5,fr5,w5⟩
   rcases turn i n H5 w5 with⟨stop,g⟩|⟨go,N,hN,step⟩
   . refine dz (Tn.done (d7 X scope Nc s3.heap.objs.size s3 (upd H s.heap.objs.size (.lst [])) fp) rfl rfl rfl hc i [] s5 _ H5 _ I5 (stat fr5) st5 stop) fun r s6 zz=>?_
     obtain⟨hr,I6⟩:=zz
     subst hr
     obtain⟨m6,hn6,_⟩:=I6.loc
     obtain⟨oc,esc,epc,hoc,hdc,_⟩:=id hn6
     have fpC:=I3.zR (aml s3.heap.objs.size) (H':=fun _=>none) rfl
     refine hRR _ _ s6 H5 ⟨m6,hn6⟩ ⟨oc,hoc,fun v z=>by rw[hdc]at z;cases z⟩ I6.free ⟨fpC.2.1,fpC.2.2.1,?_,fpC.2.2.2.2.1,fpC.2.2.2.2.2⟩ (fun h' OJ=>K0 I3 (fun b hb=>(OI b hb).1) I6 OJ) g
     exact I3.sz
   . refine dz (Tn.item (d7 X scope Nc s3.heap.objs.size s3 (upd H s.heap.objs.size (.lst [])) fp) rfl rfl rfl hc i [] s5 _ H5 _ I5 (stat fr5) st5 go) fun r s6 zz=>?_
     obtain⟨u,hr,h6⟩:=zz
     subst hr
     refine dz h6 fun _ s7 zz=>?_
     obtain⟨xv,H7,I7,r7,y7,Tz,fr7⟩:=zz
     have I7':=I7.pinned (stat fr7) (Tn.obj _ _ Tz)
     obtain⟨t,hg,ht⟩:=step xv _ y7 s3.heap.objs.size s3 (upd H s.heap.objs.size (.lst [])) fp o5 ol5
     refine dz (hg _ s7 _ H7 xv u _ I7' r7 ht) fun _ s8 zz=>?_
     obtain⟨σ8,H8,I8,os8,ol8,e8,h8⟩:=zz
     subst e8
     refine dz (Od I8 h8 rfl) fun ok s9 zz=>?_
     obtain⟨H9,I9,q9⟩:=zz
     have again:∀{Ha:Hp} {sa:Shared},Inv (d7 X scope Nc s3.heap.objs.size s3 (upd H s.heap.objs.size (.lst [])) fp) ([]++xX fp s7.heap) (K7 σ ix os8) Ha sa->N Ha->∃m,m<n/\∃i o H',o.length=xs.length/\Inv (d7 X scope Nc s3.heap.objs.size s3 (upd H s.heap.objs.size (.lst [])) fp) [] (K7 σ ix o) H' sa/\tn i sa.heap/\(∀b∈fp,H' b=none)/\W i m H':=fun {Ha sa} Ia na=>by
       obtain⟨m',hm,wa⟩:=hN Ha na
       refine⟨m',hm,i+1,os8,Ha,ol8,Ia.sd,Tn.keep _ _ _ Tz fun b hb o e=>(Ia.pin (b,o) (amc _ (amc _ (mH hb e)))).1,fun b hb=>?_,wa⟩
       obtain⟨o,e,d⟩:=Tn.obj _ _ Tz b hb
       exact(Ia.pin (b,o) (amc _ (amc _ (mH hb e)))).2.1
     cases ok with
     | false=>
       rw[amq amu]at q9 ⊢
       exact again I9 q9
     | true=>
       rw[amx rfl]at q9 ⊢
       refine dz (q9 _ s9 I9) fun v sa zz=>?_
       obtain⟨y,Ha,Ia,ra,acc,BJ,hlen,na⟩:=zz
       refine dz (Az (X:=d7 X scope Nc s3.heap.objs.size s3 (upd H s.heap.objs.size (.lst [])) fp) _ sa _ Ha (.ref s.heap.objs.size) [y] (.ref s.heap.objs.size) [v] (fun _ Hb=>Hb=upd Ha s.heap.objs.size (.lst (acc++[y]))) Ia rfl (.cons ra .nil) ⟨_,acc,y,rfl,rfl,BJ,hlen,rfl⟩) fun _ sb zz=>?_
       obtain⟨_,Hb,Ib,_,eb⟩:=zz
       subst eb
       exact again Ib na
 exact codeAny_compStart_list (Yn _ rfl) (Tn.self _ 0 _ _ _ st4 (Yn _ rfl))
def K8(ps:List D):List (Option T):=ps.map fun p=>some (.sh p)
theorem AI:∀{ys:List V} {os:List (Option V)} {pre r:L2.St},os.length=ys.length->yo (pre++(os++r)) (List.range' pre.length ys.length) ys=pre++(ys.map some++r)
 | [],os,pre,r,h=>by
   have:os=[]:=ao2.mp h
   subst this
   rfl
 | y::ys,os,pre,r,h=>by
   match os,h with
   | o::os,h=>
     show yo ((pre++(o::(os++r))).set pre.length (some y)) (List.range' (pre.length+1) ys.length) ys=_
     rw[List.set_append_right _ _ (aml _),Nat.sub_self,List.set_cons_zero]
     have:=AI (ys:=ys) (os:=os) (pre:=pre++[some y]) (r:=r) (by simpa using h)
     simp only[amn,am8,List.length_nil,amm,List.singleton_append]at this
     rw[this]
     simp
theorem UT:∀{ps:List D} {ys:List V} {δc:List (Option T)} {σc:L2.St},ay K CL Z ps ys->fE K CL H Z δc σc []->fE K CL H Z (K8 ps++δc) (ys.map some++σc) []:=fun {ps ys δc σc} h e=>
 ay.ind (P:=fun ps ys=>fE K CL H Z (K8 ps++δc) (ys.map some++σc) []) e (fun r _ i=>.cons (fp:=[]) (gp:=[]) (.sh r) i) h
section
variable{W1:Hp}{δc:List (Option T)}{J:It}{ds:List D}{p:D->Bool}{g:D->T}{parts:D->Option (List D)}
def uM(X:Cx)(CL:Str->Addr)(scope:Scope)(Nc:List Str)(n:Nat)(tg:Expr)(parts:D->Option (List D))(ifs:List Expr)(elt:Expr)(δc:List (Option T))(ds:List D)(p:D->Bool)(g:D->T):Prop:=
 ∀C s0 H0 f0 b',Tgt (d7 X scope Nc C s0 H0 f0) CL tg (List.range' 0 n) parts/\∀d,d∈ds->∃ps,parts d=some ps/\ps.length=n/\TIv (d7 X scope Nc C s0 H0 f0) CL b' ifs (K8 ps++δc) (p d)/\(p d=true->bO (d7 X scope Nc C s0 H0 f0) CL b' elt (K8 ps++δc) (g d) (K8 ps++δc))
structure GW(K:PySem.W.Frag)(CL:Str->Addr)(H W1:Hp)(D:Addr)(l:List T)(k:Nat)(H2 Z2:Hp)(Ff:List V)(fp:List Addr):Prop where
 a1:aA H H2
 a2:aA W1 Z2
 a3:aA Z2 H2
 a4:Z2 D=none
 a5:∀a o,Z2 a=some o->W1 a=none->H a=none
 a6:∀a o,H2 a=some o->iL o=true->Z2 a=some o
 a7:H2 D=some (.lst Ff)
 a8:aO K CL H2 Z2 l Ff fp
 a9:fp.Nodup
 b1:D∉fp
 b2:∀a∈fp,Z2 a=none/\H a=none
 b3:Ff.length<=k
theorem yp(S:bH X.K CL b H Z δ σ ts vs)(zw:aA Z W1)(wh:aA W1 H)(tp:∀a o,H a=some o->iL o=true->W1 a=some o)
   (cap:∀H',fE X.K CL H' W1 δc (ix.map fun i=>(σ[i]?).getD none) []) (inner:uM X CL scope Nc n tg parts ifs elt δc ds p g)
   (hgo:∀i H2,aA W1 H2->i<ds.length->J.go i H2)
   (hy:∀i Z2 H2 x H',aA W1 Z2->aA Z2 H2->(∀a o,H2 a=some o->iL o=true->Z2 a=some o)->i<ds.length->J.XU i H2 x H'->∃Z3 d,ds[i]? = some d/\ym Z2 H2 Z3 H'/\bu X.K CL Z3 d x)
   (E8:∀H2,aA W1 H2->J.stop ds.length H2) (hlen:ds.length<=sizeLine) (c:W1=Z\/∀d∈ds,(g d).clean=true) :
   ∀D,H D=none->∃W:Nat->Nat->Hp->Prop,(∃m,W 0 m (upd H D (.lst [])))/\∀i m H2,W i m H2->(J.stop i H2/\∃Z2,aA Z Z2/\aA H H2/\bH X.K CL b H2 Z2 δ σ (.lst ((ds.filter p).map g)::ts) (.ref D::vs)) ∨
     (J.go i H2/\∃N:Hp->Prop,(∀H',N H'->∃m',m'<m/\W (i+1) m' H')/\∀xv H3,J.XU i H2 xv H3->∀C s0 H0 f0 os,os.length=n->OD (d7 X scope Nc C s0 H0 f0) tg elt ifs n σ ix D N xv os H3):=by
 intro D hD
 have wD:W1 D=none:=wh.free hD
 refine⟨fun i m H2=>m=ds.length-i/\i<=ds.length/\∃Z2 Ff fp,GW X.K CL H W1 D (((ds.take i).filter p).map g) i H2 Z2 Ff fp,⟨ds.length,rfl,amR _,W1,[],[],aA.upd hD,.refl _,wh.trans (aA.upd hD),wD,fun a o q z=>?_,fun a o q i=>?_,az,.nil,ang,by simp,by simp,by simp⟩,?_⟩
 . rw[q]at z;cases z
 . by_cases ha:a=D
   . subst ha;rw[az]at q;cases q;cases i
   . rw[ao ha]at q;exact tp a o q i
 . rintro i m H2 ⟨rfl,hi,Z2,Ff,fp,hh,wz,zh,zD,nw,tp2,hD2,ra,nd,nD,own,hav⟩
   by_cases iS:i<ds.length
   . refine .inr ⟨hgo i H2 (wz.trans zh) iS,fun H'=>∃Z2 Ff fp,GW X.K CL H W1 D (((ds.take (i+1)).filter p).map g) (i+1) H' Z2 Ff fp,fun H' h=>⟨ds.length-(i+1),by omega,rfl,iS,h⟩,fun xv H3 y C s0 H0 f0 os Uq=>?_⟩
     obtain⟨Z3,d,hd,gr,rd⟩:=hy i Z2 H2 xv H3 wz zh tp2 iS y
     have aas:∀a,Z2 a=none->(∃o,H2 a=some o)->Z3 a=none:=fun a e ⟨o,e2⟩=>by
       cases q:Z3 a with
       | none=>rfl
       | some u=>rw[gr.new a u q e]at e2;cases e2
     have nw3:∀a o,Z3 a=some o->W1 a=none->H a=none:=fun a o q z=>by
       cases e:Z2 a with
       | none=>exact hh.free (gr.new a o q e)
       | some u=>
         have:=gr.z a u e
         rw[q]at this;cases this
         exact nw a o e z
     have ra3:aO X.K CL H3 Z3 (((ds.take i).filter p).map g) Ff fp:=ra.mono gr.z fun a ha=>by
       obtain⟨o,e⟩:=ra.there a ha
       rw[e];exact gr.h a o e
     have ow3:∀a∈fp,Z3 a=none/\H a=none:=fun a ha=>⟨aas a (own a ha).1 (ra.there a ha),(own a ha).2⟩
     have zD3:Z3 D=none:=aas D zD ⟨_,hD2⟩
     have Yo:H3 D=some (.lst Ff):=gr.h D _ hD2
     have hh3:=hh.trans gr.h
     have wz3:=wz.trans gr.z
     have zh3:=gr.zh
     have tp3:=gr.tp
     clear own nw ra zD hD2 hh wz zh tp2 gr aas
     have F2:d∈ds:=amt hd
     have htk:ds.take (i+1)=ds.take i++[d]:=by rw[anh,hd];rfl
     obtain⟨tgt,yq⟩:=inner C s0 H0 f0 ⟨H3,Z3⟩
     obtain⟨ps,hps,hpl,it,ie⟩:=yq d F2
     obtain⟨t,pg,ht⟩:=tgt
     refine⟨t,pg,ht Z3 H3 d ps xv _ _ zh3 rd hps fun ys rys=>?_⟩
     have hyl:ys.length=n:=by rw[← rys.length];exact hpl
     have es:yo (K7 σ ix os) (List.range' 0 n) ys=K7 σ ix (ys.map some):=by
       have:=AI (ys:=ys) (os:=os) (pre:=[]) (r:=ix.map fun i=>(σ[i]?).getD none) (by rw[Uq,hyl])
       rw[hyl]at this
       exact this
     refine⟨ys.map some,by rw[al8];exact hyl,es,?_⟩
     rw[es]
     have S0:bH X.K CL ⟨H3,Z3⟩ H3 Z3 (K8 ps++δc) (K7 σ ix (ys.map some)) [] []:=
       ⟨⟨[],[],UT rys ((cap H3).mono wz3 fun a ha=>by cases ha),.nil,ang,fun a ha=>by cases ha⟩,.refl _,.refl _,zh3,fun a o q z=>(by have z':Z3 a=none:=z;rw[show Z3 a=some o from q]at z';cases z'),tp3,(S.ad2.mono zw).mono wz3⟩
     refine it.sem S0 fun H4 Z4 z4 k4 S4=>?_
     have ahj:∀a∈fp,H4 a=H3 a:=fun a ha=>by
       obtain⟨o,e⟩:=ra3.there a ha
       rw[e];exact k4 a o e
     have OL:∀a,Z3 a=none->(∃o,H3 a=some o)->Z4 a=none:=fun a e ⟨o,e2⟩=>by
       cases q:Z4 a with
       | none=>rfl
       | some u=>
         have:=S4.new a u q e
         rw[show H3 a=none from this]at e2;cases e2
     cases hp:p d with
     | false=>
       refine NQ ⟨Z4,Ff,fp,hh3.trans k4,wz3.trans z4,S4.zh,OL D zD3 ⟨_,Yo⟩,fun a o q z=>?_,S4.tp,k4 D _ Yo,?_,nd,nD,fun a ha=>⟨OL a (ow3 a ha).1 (ra3.there a ha),(ow3 a ha).2⟩,by omega⟩
       . cases e:Z3 a with
         | none=>exact hh3.free (S4.new a o q e)
         | some u=>
           have:=z4 a u e
           rw[q]at this;cases this
           exact nw3 a o e z
       . rw[htk,List.filter_append,ao3 (by simp[hp]),List.filter_nil,amQ]
         exact ra3.mono z4 ahj
     | true=>
       refine NR ((ie hp) H4 Z4 (K7 σ ix (ys.map some)) [] [] _ S4 fun yv H5 Z5 z5 k5 S5=>⟨Ff,k5 D _ (k4 D _ Yo),by omega,?_⟩)
       obtain⟨f1,g1,e1,r1,nd1,aef⟩:=S5.rep
       cases r1 with
       | @cons _ _ _ _ fy fn ry rn=>
         cases rn
         rw[amQ]at nd1 aef
         have ndy:fy.Nodup:=(amK.mp nd1).2.1
         have UU:∀a∈fy,Z5 a=none/\H3 a=none:=fun a ha=>aef a (amc _ ha)
         have F3:∀a,Z3 a=none->(∃o,H3 a=some o)->Z5 a=none:=fun a e ⟨o,e2⟩=>by
           cases q:Z5 a with
           | none=>rfl
           | some u=>
             have:=S5.new a u q e
             rw[show H3 a=none from this]at e2;cases e2
         have yD:∀a∈fy,a≠D:=fun a ha e=>by
           subst e
           rw[(UU a ha).2]at Yo;cases Yo
         have h5D:H5 D=some (.lst Ff):=k5 D _ (k4 D _ Yo)
         have sD:aA H (upd H5 D (.lst (Ff++[yv]))):=fun a o q=>by
           rw[ao (aM q hD)]
           exact k5 a o (k4 a o (hh3 a o q))
         refine⟨Z5,Ff++[yv],fp++fy,sD,wz3.trans (z4.trans z5),fun a o q=>?_,F3 D zD3 ⟨_,Yo⟩,fun a o q z=>?_,fun a o q im=>?_,az,?_,?_,?_,fun a ha=>?_,?_⟩
         . rw[ao (aM q (F3 D zD3 ⟨_,Yo⟩))];exact S5.zh a o q
         . cases e:Z3 a with
           | none=>exact hh3.free (S5.new a o q e)
           | some u=>
             have:=z5 a u (z4 a u e)
             rw[q]at this;cases this
             exact nw3 a o e z
         . by_cases ha:a=D
           . subst ha;rw[az]at q;cases q;cases im
           . rw[ao ha]at q;exact S5.tp a o q im
         . rw[htk,List.filter_append,List.filter_cons_of_pos hp,List.filter_nil,ams]
           refine aO.app (ra3.mono (z4.trans z5) fun a ha=>?_) (by
             have:=aO.cons (fp:=fy) (gp:=[]) (ry.mono (.refl _) fun a ha=>ao (yD a ha)) (aO.nil (H:=upd H5 D (.lst (Ff++[yv]))) (Z:=Z5))
             rwa [amQ]at this)
           have:a≠D:=fun e=>nD (e▸ha)
           rw[ao this]
           obtain⟨o,e⟩:=ra3.there a ha
           rw[e];exact k5 a o (k4 a o e)
         . refine amK.mpr ⟨nd,ndy,fun a ha a' N3 e=>?_⟩
           subst e
           obtain⟨o,e⟩:=ra3.there a ha
           rw[(UU a N3).2]at e;cases e
         . intro h
           rcases amr.mp h with h|h
           . exact nD h
           . exact yD D h rfl
         . rcases amr.mp ha with h|h
           . exact⟨F3 a (ow3 a h).1 (ra3.there a h),(ow3 a h).2⟩
           . exact⟨(UU a h).1,hh3.free (UU a h).2⟩
         . rw[amn,aoz];omega
   . have e:i=ds.length:=by omega
     subst e
     refine .inl ⟨E8 H2 (wz.trans zh),?_⟩
     rw[anE]at ra
     obtain⟨Z',z',S'⟩:=S.back (H':=H2) (W:=W1) (W':=Z2) (t:=.lst ((ds.filter p).map g)) (v:=.ref D) (fp:=D::fp) hh zw wz zh nw tp2 (.lst hD2 ra) (ana.mpr ⟨nD,nd⟩) (fun a ha=>by
       rcases ami.mp ha with h|h
       . subst h;exact⟨zD,hD⟩
       . exact own a h) (c.imp id fun c=>by
         rw[AG]
         exact yg fun d hd=>c d (anU.mp hd).1)
     exact⟨Z',z',hh,S'⟩
end
variable{δc:List (Option T)}{ds:List D}{p:D->Bool}{g:D->T}{parts:D->Option (List D)}
theorem AJ{J:It}{tn:Nat->Heap->Prop}{H1:Hp}{RR:Value->Addr->Result->Shared->Prop}
   (sc:oN X scope xs Nc ix) (hc:X.calm=true) (C:BH X CL b δ1 σ ts vs Z H ds J H1) (I:L2.Inv X pins σ H1 s) (Tn:Turn X.prog X.w X.K tg J fp it tn) (st:tn 0 s.heap) (hf:∀b∈fp,v8 X pins H1 b)
   (hb:(δc=wj δ1 ix/\∀d∈ds,(g d).clean=true)\/δc=D3 δ1 ix) (inner:uM X CL scope Nc xs.length tg parts ifs elt δc ds p g) (hlen:ds.length<=sizeLine)
   (hRR:∀D C s' H' Z',(∃m,s'.heap.Ns C m)->(∃o,s'.heap.get? C=some o/\∀v,o.data ≠ .cell v)->H' C=none->(C≠X.env.locals/\C∉X.fs/\X.s₀.heap.objs.size<=C/\(∀y c,X.env.cells.lookup y=some c->c≠C)/\∀q∈X.pn++pins,q.1≠C)->(∀h',Heap.SameBut C s'.heap h'->L2.Inv X pins σ H' {s' with heap:=h'})->aA Z Z'->aA H H'->bH X.K CL b H' Z' δ1 σ (.lst ((ds.filter p).map g)::ts) (.ref D::vs)->RR (.ref D) C (.ok .next) s') :
   wpAny (model X.prog X.w) X.A (newList []) (fun acc s₃=>wpAny (model X.prog X.w) X.A (newFunctionEnv scope X.env.globals (cT X.env scope.names []) [] X.env.qual none .none (some X.env)) (fun OG s₄=>
     codeAny (model X.prog X.w) X.A (.compStart (.ListComp elt [⟨tg,iter,ifs,0⟩] scope pos) 0 (.ref it) acc {OG with scope:=relabel scope X.env}) (RR acc OG.locals) s₄) E s₃) E s:=by
 obtain⟨Z1,z1,k1,S1,go,yl,stp⟩:=C.ex
 have lp:∀D,H1 D=none->∃W:Nat->Nat->Hp->Prop,(∃m,W 0 m (upd H1 D (.lst [])))/\∀i m H2,W i m H2->(J.stop i H2/\∃Z2,aA Z1 Z2/\aA H1 H2/\bH X.K CL b H2 Z2 δ1 σ (.lst ((ds.filter p).map g)::ts) (.ref D::vs)) ∨
     (J.go i H2/\∃N:Hp->Prop,(∀H',N H'->∃m',m'<m/\W (i+1) m' H')/\∀xv H3,J.XU i H2 xv H3->∀C s0 H0 f0 os,os.length=xs.length->OD (d7 X scope Nc C s0 H0 f0) tg elt ifs xs.length σ ix D N xv os H3):=by
   rcases hb with⟨e,cl⟩|e
   . subst e
     exact yp (W1:=H1) S1 S1.zh (.refl _) (fun _ _ q _=>q) (yh S1 ix) inner (fun i H2 s=>go i H2 (S1.zh.trans s)) (fun i Z2 H2 y H' s=>yl i Z2 H2 y H' (S1.zh.trans s)) (fun H2 s=>stp H2 (S1.zh.trans s)) hlen (.inr cl)
   . subst e
     exact yp (W1:=Z1) S1 (.refl _) S1.zh S1.tp (D4 S1 ix) inner go yl stp hlen (.inl rfl)
 exact F0 sc hc I Tn st hf lp fun D C s' H' m io nC ch ci ⟨Z',z',k',S'⟩=>hRR D C s' H' Z' m io nC ch ci (z1.trans z') (k1.trans k') S'
theorem vP(sc:oN X scope xs Nc ix)(I:L2.Inv X pins σ H s):closureFor scope X.env=pure (cT X.env scope.names []):=
 lA fun y hy e=>I.ok.has y.1 (sc.frees y hy e).2
theorem Ed(sc:oN X scope xs Nc ix)(hc:X.calm=true)(h:Yk X CL b tg iter δ ds δ1)(hb:(δc=wj δ1 ix/\∀d∈ds,(g d).clean=true)\/δc=D3 δ1 ix)(inner:uM X CL scope Nc xs.length tg parts ifs elt δc ds p g)(hlen:ds.length<=sizeLine)
   (hs:∀x,foldedSetIterable iter X.env x=pure x:=by intro _;rfl):bO X CL b (.ListComp elt [⟨tg,iter,ifs,0⟩] scope pos) δ (.lst ((ds.filter p).map g)) δ1:=fun H Z σ ts vs Q S k pins s I=>by
 obtain⟨wi,pi,hw⟩:=h
 rw[eval_ListComp]
 refine wpAny_comprehension_free (use:=none) rfl hs (vP sc I) sc.kind sc.names ?_
 refine dz (pi pins s σ H _ I (hw H Z σ ts vs (fun J H1=>BH X CL b δ1 σ ts vs Z H ds J H1) S fun J H1 C=>C)) fun v s1 h1=>dz h1 fun itv s2 zz=>?_
 obtain⟨it,fp,tn,J,H1,e,I1,Tn,st,hf,C⟩:=zz
 subst e
 refine AJ (RR:=fun acc C=>compPost (model X.prog X.w) X.A X.xe none (EP X pins σ Q) acc C) sc hc C I1 Tn st hf hb inner hlen fun D C' s' H' Z' m io nC ch ci z' k' S'=>?_
 obtain⟨m,hn⟩:=m
 exact⟨m,hn,fun h' OJ=>⟨.ref D,H',ci h' OJ,rfl,k _ H' Z' z' k' S'⟩⟩
variable{y:Str}
theorem UW{D:eL}{py aeg:Pos}(i:Nat)(sc:oN X scope xs Nc ix)(hc:X.calm=true)(h:Yk X CL b tg iter δ ds δ1)(hb:(δc=wj δ1 ix/\∀d∈ds,(g d).clean=true)\/δc=D3 δ1 ix)(inner:uM X CL scope Nc xs.length tg parts ifs elt δc ds p g)(hlen:ds.length<=sizeLine)
   (k:D.nx (δ1.set i (some (.lst ((ds.filter p).map g))))) (hl:i<δ1.length) (hN:X.N.Nodup) (hi:X.N[i]? = some y) (hx:Loc X.env.scope y) (hf':X.fn y=true\/X.env.scope.names.lookup y=some .local)
   (K1:swapsWith (.ListComp elt [⟨tg,iter,ifs,0⟩] scope pos) (some (.Name y py)) aeg.line X.env=pure true)
   (hs:∀x,foldedSetIterable iter X.env x=pure x:=by intro _;rfl):Tw X CL b (.Assign [.Name y py] (.ListComp elt [⟨tg,iter,ifs,0⟩] scope pos) aeg) δ D:=fun H Z σ ts vs E S M pins s I=>by
 obtain⟨wi,pi,hw⟩:=h
 rw[exec_Assign_Name_used _ _ _ _ K1]
 refine al6 (wpAny_standAt (al6 ?_))
 show wpAny _ X.A (do let _ ← comprehension (.ListComp elt [⟨tg,iter,ifs,0⟩] scope pos) scope X.env _ (newList []) false (eval iter X.env) (some (assign (.Name y py) X.env))) _ _ s
 refine al6 (anC (wpAny_comprehension_free (use:=some (assign (.Name y py) X.env)) (Q:=fun _ s'=>SP X pins E .next s') rfl hs (vP sc I) sc.kind sc.names ?_) (fun _ s' hq=>amd (amd hq)) fun _ _ e=>e)
 refine dz (pi pins s σ H _ I (hw H Z σ ts vs (fun J H1=>BH X CL b δ1 σ ts vs Z H ds J H1) S fun J H1 C=>C)) fun v s1 h1=>dz h1 fun itv s2 zz=>?_
 obtain⟨it,fp,tn,J,H1,e,I1,Tn,st,hf,C⟩:=zz
 subst e
 refine AJ (RR:=fun acc C=>compPost (model X.prog X.w) X.A X.xe (some (assign (.Name y py) X.env)) (fun _ s'=>SP X pins E .next s') acc C) sc hc C I1 Tn st hf hb inner hlen fun D' C' s' H' Z' m io nC ch ci z' k' S'=>?_
 obtain⟨m,hn⟩:=m
 obtain⟨o,ho,qG⟩:=io
 have I':L2.Inv X pins σ H' s':=ci s'.heap (.refl ..)
 have I2:L2.Inv X (pins++[(C',o)]) σ H' s':=I'.wO fun q hq=>by
   rcases amr.mp hq with z|z
   . exact I'.pin q (amc _ z)
   . have e:q=(C',o):=by simpa using z
     subst e
     exact⟨ho,nC,ch.1,ch.2.1,qG⟩
 show wpAny _ X.A (assign (.Name y py) X.env (.ref D')) _ _ s'
 have hg:PG X (.Name y py) (vD i):=kR hN hi hx hf'
 refine dz (hg _ s' σ H' (.ref D') (.ref D') (fun σ8 H8=>σ8=σ.set i (some (.ref D'))/\H8=H') I2 rfl ⟨rfl,rfl⟩) fun _ s8 zz=>?_
 obtain⟨σ8,H8,I8,e8,e8'⟩:=zz
 subst e8
 subst e8'
 obtain⟨hC8,nC8,_⟩:=I8.pin (C',o) (amc _ (amc _ (by simp)))
 refine⟨m,hn.at' fun o' e'=>by rw[ho]at e';cases e';exact hC8,fun h' OJ=>?_⟩
 have I9:L2.Inv X pins (σ.set i (some (.ref D'))) _ s8:=I8.wO fun q hq=>I8.pin q (amc _ (amk _ hq))
 have I10:=I9.turned (it:=C') (h':=h') (t':=s8.toks) (fun b o hb e=>(OJ.2 b hb).trans e) nC8 ch.1.symm.symm (.inr ch.2.2.1) ch.2.2.2.1 ch.2.2.2.2
 exact⟨_,_,I10,M.nx _ _ _ Z' z' (S'.set hl) k⟩
variable{pos':Pos}
theorem aau{D:eL}(gx:Gx X)(n:Ln X i x)(sc:oN X scope xs Nc ix)(h:Yk X CL b tg iter δ ds δ1)
   (hb:(δc=wj δ1 ix/\∀d∈ds,(g d).clean=true)\/δc=D3 δ1 ix) (inner:uM X CL scope Nc xs.length tg parts ifs elt δc ds p g) (hlen:ds.length<=sizeLine) (k:dZ X CL b gf (δ1.set i (some (.lst ((ds.filter p).map g)))) D) (hl:i<δ1.length)
   (K1:swapsWith (.ListComp elt [⟨tg,iter,ifs,0⟩] scope pc) (some (.Name x pos')) pos.line X.env=pure true\/swapsWith (.ListComp elt [⟨tg,iter,ifs,0⟩] scope pc) (some (.Name x pos')) pos.line X.env=pure false) (hs:∀x,foldedSetIterable iter X.env x=pure x:=by intro _;rfl) :
   dZ X CL b (.Assign [.Name x pos'] (.ListComp elt [⟨tg,iter,ifs,0⟩] scope pc) pos::gf) δ D:=by
 rcases K1 with K1|K1
 . exact cX (UW i sc gx.calm h hb inner hlen k hl gx.nd n.hi n.loc n.hf K1 hs)
 . exact cX (Oc i (Ed sc gx.calm h hb inner hlen hs) k hl gx.nd n.hi n.loc K1 n.hf)
variable{C:Addr}
theorem aav(h1:Nc[i]? = some x)(h2:scope.names.lookup x=some .local)(hd:(x==("__debug__":Str))=false:=by decide)(iO:(x==("__classdict__":Str))=false:=by decide):Ln (d7 X scope Nc C s H fp) i x:=
 ⟨cy h1 h2 hd iO,.inl (lookup_relabel_local h2),.inr (lookup_relabel_local h2)⟩
def Ite(K:PySem.W.Frag)(a:Addr):It:=
 ⟨fun i H=>∃xs x,nV K H a xs/\xs[i]? = some x,fun i H x H'=>∃T y,H T=none/\x=.ref T/\(∀xs,nV K H a xs->xs[i]? = some y)/\H'=upd H T (.tup [.int i,y]),fun i H=>∃xs,nV K H a xs/\xs.length<=i⟩
variable{elts:List Expr}{kk:Nat}{pt:Pos}
theorem K9(a e it:Addr)(yr:e≠it):Turn P w K (.Tuple elts kk pt) (Ite K a) [e,it] e (fun i h=>(∃old,PySem.IsEnum h e it i old)/\h.IsListIter it a i) where
 mem:=by simp
 obj:=fun i h st b hb=>by
   obtain⟨⟨old,he⟩,hit⟩:=st
   rcases ami.mp hb with z|z
   . subst z
     exact⟨_,he,fun v z=>by
       have z':Data.fields _=Data.cell v:=z
       cases z'⟩
   . have z:b=it:=by simpa using z
     subst z
     obtain⟨o,e,c,d⟩:=hit
     exact⟨o,e,fun v z=>by rw[d]at z;cases z⟩
 keep:=fun i h h' st k=>by
   obtain⟨⟨old,he⟩,hit⟩:=st
   exact⟨⟨old,k e (by simp) _ he⟩,hit.at fun o q=>k it (by simp) o q⟩
 item:=by
   intro X hP hw hK hc i pins s σ H E I hf st hg
   subst hP hw hK
   obtain⟨xs,x,hq,hx⟩:=hg
   obtain⟨its,rv,p,hz⟩:=I.list hq
   obtain⟨u,hu,ru⟩:=rv.get hx
   obtain⟨⟨old,he⟩,hit⟩:=st
   have fe:=hf e (by simp)
   have fi:=hf it (by simp)
   have hT0:H s.heap.objs.size=none:=I.cQ.fresh (aml _)
   have fT:=I.zR (aml s.heap.objs.size) hT0
   refine PySem.wpAny_pyNext_enum_item he hit p.isList (x:=u) (by simpa using hu) yr fun h' ho UX hT hsz hk=>⟨_,rfl,?_⟩
   refine PySem.wpAny_letOwnedTupleGo_enum ho fun h2 he2 wQ=>?_
   replace wQ:Heap.SameBut e h' h2:=wQ
   have eT:e<s.heap.objs.size:=amC he
   have keep:∀b o,b≠e->b≠it->s.heap.get? b=some o->h2.get? b=some o:=fun b o h1 h3 q=>(wQ.2 b h1).trans (hk b o h1 h3 q)
   have hT2:h2.get? s.heap.objs.size=some {cls:=.type "tuple",data:=.seq #[.int i s.toks,u]}:=(wQ.2 _ (aoR eT)).trans hT
   have nH:∀b o,H b=some o->b≠e/\b≠it/\b≠s.heap.objs.size:=fun b o q=>⟨fun z=>(by rw[z,fe.1]at q;cases q),fun z=>(by rw[z,fi.1]at q;cases q),fun z=>(by rw[z,hT0]at q;cases q)⟩
   have I':L2.Inv X pins σ (upd H s.heap.objs.size (.tup [.int i,x])) {s with heap:=h2,toks:=s.toks+1}:=by
     refine I.step (g':=s.gens) (d':=s.drawn) (ch:=[e,it,s.heap.objs.size]) (fun b hb=>?_) (fun b o _ _ hc q _=>?_) (fun b o _ _ hc q _=>⟨o.slots,?_⟩) (fun b o hc q n=>?_) (fun b o hc q=>⟨o,?_⟩) (fun b ys q=>?_) (fun b o u q=>?_) (fun b ps q=>⟨#[],?_⟩) (fun m hm=>?_) (fun b o q=>?_) I.bare
     . rcases ami.mp hb with z|hb
       . subst z;exact⟨fe.2.2.2.1,fe.2.1,fe.2.2.2.2.1,fe.2.2.2.2.2⟩
       . rcases ami.mp hb with z|hb
         . subst z;exact⟨fi.2.2.2.1,fi.2.1,fi.2.2.2.2.1,fi.2.2.2.2.2⟩
         . have z:b=s.heap.objs.size:=by simpa using hb
           subst z;exact⟨fT.2.2.2.1,fT.2.1,fT.2.2.2.2.1,fT.2.2.2.2.2⟩
     . exact keep b o (fun z=>hc (by simp[z])) (fun z=>hc (by simp[z])) q
     . exact keep b o (fun z=>hc (by simp[z])) (fun z=>hc (by simp[z])) q
     . rw[ao (fun z=>hc (by simp[z]))];exact n
     . exact keep b o (fun z=>hc (by simp[z])) (fun z=>hc (by simp[z])) q
     . rw[ao (nH b _ q).2.2];exact q
     . rw[ao (nH b _ q).2.2];exact q
     . rw[ao (nH b _ q).2.2,q];simp
     . obtain⟨o,es,ep,ho,r⟩:=hm
       exact⟨o,es,ep,keep _ o (anP fe.2.1) (anP fi.2.1) ho,r⟩
     . by_cases hb:b=s.heap.objs.size
       . subst hb
         rw[az]at q
         cases q
         exact⟨anW (g7 (amh rfl)),[.int i s.toks,u],.cons ⟨s.toks,rfl⟩ (.cons ru .nil),⟨_,hT2,rfl,_,rfl⟩⟩
       . rw[ao hb]at q
         refine(I.cQ b o q).v7 (fun c v hc z=>keep c v ?_ ?_ z) (fun c z=>by rw[ao (nH c _ z).2.2];exact z) (fun c ys z=>by rw[ao (nH c _ z).2.2];exact z) fun c ys z=>by rw[ao (nH c _ z).2.2];exact z
         . rcases hc with z|z
           . rw[z];exact(nH b _ q).1
           . exact(nH c _ z).1
         . rcases hc with z|z
           . rw[z];exact(nH b _ q).2.1
           . exact(nH c _ z).2.1
   have ei:((i+1:Nat):Int)=(i:Int)+1:=by omega
   refine⟨.ref s.heap.objs.size,_,I',rfl,⟨_,x,hT0,rfl,fun ys hy=>by rw[I.DR hy hq];exact hx,rfl⟩,⟨⟨u,by rw[ei];exact he2⟩,UX.at fun o q=>(wQ.2 it (anP yr)).trans q⟩,fun b hb=>?_⟩
   have hb':=hf b hb
   obtain⟨o,E5,_⟩:∃o,s.heap.get? b=some o/\True:=by
     rcases ami.mp hb with z|z
     . subst z;exact⟨_,he,trivial⟩
     . have z:b=it:=by simpa using z
       subst z
       obtain⟨o,q,_⟩:=hit
       exact⟨o,q,trivial⟩
   rw[ao (amV (amC E5))]
   exact hb'.1
 done:=by
   intro X hP hw hK hc i pins s σ H E I hf st hg
   subst hP hw hK
   obtain⟨xs,hq,hx⟩:=hg
   obtain⟨its,rv,p,hz⟩:=I.list hq
   obtain⟨⟨old,he⟩,hit⟩:=st
   obtain⟨f0,f1,f2,f3,f4,f5⟩:=hf it (by simp)
   have hl:=rv.length
   exact PySem.wpAny_pyNext_enum_end (I.ok.hd hc) he hit p.isList (by simp;omega) fun h' eb=>⟨rfl,I.turned (t':=s.toks) (fun b o hb e=>eb b o hb e) f0 f1 f3 f4 f5⟩
 self:=fun _ _ _ _ _ st h=>by
   obtain⟨⟨old,he⟩,_⟩:=st
   exact PySem.wpAny_pyIter_enum he h
def aeh(K:PySem.W.Frag)(ta:TA):TI:=fun σ H R=>ta σ H fun vs H1=>∃a xs,vs=[.ref a]/\nV K H1 a xs/\R (Ite K a) H1
theorem UY{a:Expr}{ta:TA}{p:Pos}(hg:Gl X "enumerate")(hm:X.mg "enumerate" = none)(ha:PA X [a] ta)(hs:starEach [a] X.env=(false,eval a X.env)::starEach [] X.env):PI X (.Tuple elts kk pt) (.Call (.Name "enumerate" p) [a] [] pos) (aeh X.K ta):=by
 intro pins s σ H R I h
 refine Call_ (qR I hg hm boot_enumerate (anV (dz (ha pos pins s σ H _ I h) fun us s1 zz=>?_) hs rfl))
 obtain⟨vs,H1,I1,r1,q1⟩:=zz
 obtain⟨l,xs,e,hq,q⟩:=q1
 subst e
 cases r1 with
 | cons r rr=>
   cases rr
   cases r
   obtain⟨its,rv,p,hz⟩:=I1.list hq
   refine PySem.call_enumerate_list p.isList fun h' he hit hsz hk=>?_
   have I2:L2.Inv X pins σ H1 {s1 with heap:=h'}:=I1.kept (t':=s1.toks) fun b o e=>hk b o e
   refine PySem.wpAny_pyIter_enum he ?_
   refine⟨s1.heap.objs.size+1,[s1.heap.objs.size+1,s1.heap.objs.size],_,_,H1,rfl,I2,K9 l _ _ (Nat.succ_ne_self _),⟨⟨_,he⟩,hit⟩,fun b hb=>?_,q⟩
   rcases ami.mp hb with z|z
   . subst z
     exact I1.zR (aoJ _) (I1.cQ.fresh (aoJ _))
   . have z:b=s1.heap.objs.size:=by simpa using z
     subst z
     exact I1.zR (aml _) (I1.cQ.fresh (aml _))
def yt(ds:List D):List D:=(List.range ds.length).map fun(i:Nat)=>.tup [.int i,ds.getD i .non]
theorem uN(ds:List D):(yt ds).length=ds.length:=by simp[yt]
theorem La{ds:List D}{d:D}(h:ds[i]? = some d):(yt ds)[i]? = some (.tup [.int i,d]):=by
 have hi:i<ds.length:=(amf.mp h).1
 unfold yt
 rw[amg,amZ hi]
 show some (D.tup [.int i,ds.getD i .non])=_
 rw[amb,h]
 rfl
variable{pr:Pos}{ds:List D}
theorem UZ(hm:X.mg "enumerate" = none)(h:bO X CL b e δ (.sh (.lst ds)) δ1)(hg:Gl X "enumerate")(hs:starEach [e] X.env=(false,eval e X.env)::starEach [] X.env:=by exact bA rfl):Yk X CL b (.Tuple elts kk pt) (.Call (.Name "enumerate" pr) [e] [] pc) δ (yt ds) δ1:=by
 refine⟨_,UY hg hm (b8 cN dY hs) hs,fun H Z σ ts vs R S k=>h H Z σ ts vs _ S fun v H1 Z1 z1 k1 S1=>?_⟩
 obtain⟨fp,gp,_,r,_,_⟩:=S1.rep
 cases r with
 | cons r _=>
   cases r with
   | sh r=>
     cases r with
     | @lst a us _ hq rr=>
       have hl:=rr.length
       refine⟨a,us,rfl,S1.zh.seq hq,k _ _ ⟨Z1,z1,k1,S1.pop,fun i H2 s hi=>?_,fun i Z2 H2 x H' s1 s2 tp hi hy=>?_,fun H2 s=>?_⟩⟩
       . rw[uN]at hi
         have hi':i<us.length:=by rw[← hl];exact hi
         exact⟨us,us[i],s.seq hq,al9 hi'⟩
       . rw[uN]at hi
         obtain⟨T,y,hT,rfl,hx,rfl⟩:=hy
         obtain⟨d,hd,rd⟩:=rr.Ux (hx us ((s1.trans s2).seq hq))
         have gr:ym Z2 H2 _ _:=ym.tup (xs:=[.int i,y]) s2 tp hT
         exact⟨_,_,La hd,gr,.tup (om.of az) (.cons (.int _) (.cons ((rd.mono s1).mono gr.z) .nil))⟩
       . rw[uN]
         exact⟨us,s.seq hq,by rw[← hl];exact aml _⟩
def insI(x:Int):List Int->List Int
 | []=>[x]
 | y::l=>if x<=y then x::y::l else y::insI x l
theorem insI_perm(x:Int):∀l,(insI x l).Perm (x::l)
 | []=>.refl _
 | y::l=>by
   rw[insI]
   split
   . exact .refl _
   . exact((insI_perm x l).cons y).trans (.swap x y l)
theorem uO{l:List Int}(h:ay K CL Z (l.map D.int) us):us=l.map V.int:=by
 refine ay.ind (P:=fun ds us=>∀l:List Int,ds=l.map D.int->us=l.map V.int) ?_ ?_ h l rfl
 . intro l e
   cases l with
   | nil=>rfl
   | cons=>cases e
 . intro d v ds vs r _ i l e
   cases l with
   | nil=>cases e
   | cons a l=>
     injection e with e1 e2
     subst e1
     rw[i l e2]
     cases r
     rfl
theorem ints_rep{K:PySem.W.Frag}{Z:Hp}:∀(l:List Int),ay K CL Z (l.map D.int) (l.map V.int)
 | []=>.nil
 | _::l=>.cons (.int _) (ints_rep l)
theorem F4:typeLookup (.type "list_reverseiterator") "__len__" = pure none:=by rw[typeLookup_type,aoA];kernel_rfl
theorem OO:typeLookup (.type "list_reverseiterator") "__length_hint__" = pure (some (.builtin "list_reverseiterator.__length_hint__")):=by rw[typeLookup_type,aoA];kernel_rfl
variable{A:Around}
theorem OQ{l:Addr}{i:Int}{Q:Bool->Shared->Prop}(hr:s.heap.IsRevIter it l i)(h:Q false s):wpAny (model prog w) A (Builtin.List.listLengthHint (.ref it)) Q E s:=by
 unfold Builtin.List.listLengthHint
 refine al6 (an4 hr.typeIs F4 ?_)
 refine al6 (an4 hr.typeIs OO ?_)
 generalize hid:("list_reverseiterator.__length_hint__":String)=id0
 wp_delta
 rw[show splitId id0=some ("list_reverseiterator","__length_hint__") from by subst hid;decide +kernel]
 subst hid
 refine al6 (aol (T:="list_reverseiterator") (b:=true) hr.typeIs (by rw[isSubtype_type];kernel_rfl) ?_)
 refine wpAny_ite_split (fun hab=>absurd hab (by decide)) (fun _=>?_)
 refine wpAny_ite_split (fun _=>?_) (fun hab=>absurd (by decide +kernel) hab)
 refine wpAny_ite_split (fun hab=>absurd hab (by decide +kernel)) (fun _=>?_)
 exact amd h
variable{items:Array Value}
theorem F5{l:Addr}(hh:A.handled=none)(hr:s.heap.IsRevIter it l ((items.size:Int)-1))(hl:s.heap.IsList l items)(yr:l≠it)(hlen:items.size<=sizeLine)(S:Addr)(res:Value)(c₀:Nat)
   (hS:s.heap.get? S=some {cls:=.type "list",data:=.seq #[] c₀}) (hSi:S≠it) (hSl:S≠l)
   (hR:∀h' tk lS c',(∀b o,b≠S->b≠it->s.heap.get? b=some o->h'.get? b=some o)->h'.get? S=some {cls:=.type "list",dict:=none,data:=.seq lS c',slots:=#[]} →
     ItemsOf (fun i v=>items[items.size-1-i]? = some v) lS items.size->R (.ok (.ret res)) {s with heap:=h',toks:=tk}) :
   wpAny (model prog w) A.in1 (Builtin.List.listExtendWith (.ref S) (.ref it) res)
     (fun fin s'=>match fin with | .done f=>R (.ok f) s' | .again c'=>c'.quiet=true/\codeAny (model prog w) A c' R s') (fun e s'=>R (.error e) s') s:=by
 have W:=(Walks.listRev (prog:=prog) (w:=w) (A:=A.in1) hh it l yr items).toS
 have hSf:S∉[it,l]:=fun h=>by
   rcases ami.mp h with e|h
   . exact hSi e
   . exact hSl (amM.mp h)
 have e0:(items.size:Int)-1=(items.size:Int)-1-((0:Nat):Int):=by omega
 have key:∀(h:Heap) (c₁ tk:Nat),(∀b o,b≠S->s.heap.get? b=some o->h.get? b=some o) →
     h.get? S=some {cls:=.type "list",data:=.seq #[] c₁}->codeAny (model prog w) A (.builtin "list.extend.loop" ⟨[.ref S,.ref it,res],[]⟩) R {s with heap:=h,toks:=tk}:=by
   intro h c₁ tk hk hS₁
   have hit:h.IsRevIter it l ((items.size:Int)-1-((0:Nat):Int)):=e0▸hr.at fun o q=>hk it o (anP hSi) q
   have hl':h.IsList l items:=hl.at fun o q=>hk l o (anP hSl) q
   refine codeAny_extend_loopS W hlen S hSf res items.size 0 _ #[] c₁ rfl (amR _) ⟨amR _,hit,hl'⟩ hS₁ (ItemsOf.nil _) fun s' lS c' hm U0 BJ=>?_
   rw[Moved.eq_with hm]
   refine hR s'.heap s'.toks lS c' (fun b o hb hbi e=>hm.heap b o (fun F2=>?_) (hk b o hb e)) U0 BJ
   rcases ami.mp F2 with e'|F2
   . exact hb e'
   . exact hbi (amM.mp F2)
 unfold Builtin.List.listExtendWith
 refine al6 (wpAny_typeOf (T:="list_reverseiterator") hr.typeIs ?_)
 have h1:Builtin.List.listSameRef (.ref S) (.ref it)=false:=by simp[Builtin.List.listSameRef,hSi]
 have h2:(Value.type "list_reverseiterator" == Value.type "list")=false:=by decide
 have h3:(Value.type "list_reverseiterator" == Value.type "tuple")=false:=by decide
 simp only[h1,h2,h3,Bool.or_false,anN,an1]
 refine al6 (wpAny_pyIter_revIter hr ?_)
 refine al6 (anz (OQ hr ?_))
 refine wpAny_ite_split (fun _=>?_) (fun _=>amd ⟨plainId_quiet F.plain_extend_loop _,key _ c₀ _ (fun b o _ e=>e) hS⟩)
 refine al6 (wpAny_rule ?_)
 refine al6 ?_
 show wpAny _ _ (updateSeq S (·.push .none) >>= fun _=>updateSeq S (·.pop)) _ _ _
 refine al6 (wpAny_updateSeq hS rfl ?_)
 have IY:=anA (Obj.mapSeq (·.push Value.none)) hS rfl
 refine wpAny_updateSeq (hz:=by seq_fits) IY rfl ?_
 have hS₃:=anA (Obj.mapSeq (·.pop)) IY rfl
 refine amd ⟨plainId_quiet F.plain_extend_loop _,key _ _ _ (fun b o hb e=>?_) hS₃⟩
 exact(anZ _ _ (anP hb)).trans ((anZ _ _ (anP hb)).trans e)
theorem zT{l:Addr}(hh:A.handled=none)(hr:s.heap.IsRevIter it l ((items.size:Int)-1))(hl:s.heap.IsList l items)(yr:l≠it)(hlen:items.size<=sizeLine)(S:Addr)
   (hS:s.heap.get? S=some {cls:=.type "list",data:=.seq #[]}) (hSi:S≠it) (hSl:S≠l)
   (hR:∀h' tk lS c',(∀b o,b≠S->b≠it->s.heap.get? b=some o->h'.get? b=some o)->h'.get? S=some {cls:=.type "list",dict:=none,data:=.seq lS c',slots:=#[]} →
     ItemsOf (fun i v=>items[items.size-1-i]? = some v) lS items.size->R (.ok (.ret .none)) {s with heap:=h',toks:=tk}) :
   wpAny (model prog w) A.in1 (Builtin.«list.__init__» ⟨[.ref S,.ref it],[]⟩)
     (fun fin s'=>match fin with | .done f=>R (.ok f) s' | .again c'=>c'.quiet=true/\codeAny (model prog w) A c' R s') (fun e s'=>R (.error e) s') s:=by
 show wpAny _ _ (do let old ← Builtin.List.listItems (.ref S);Builtin.List.listUpdate (.ref S) (fun _=>#[]);letGo old.toList.reverse;Builtin.List.listExtendWith (.ref S) (.ref it) .none) _ _ s
 refine al6 ?_
 unfold Builtin.List.listItems
 refine al6 (wpAny_seqItems hS rfl (amd ?_))
 show wpAny _ _ (updateSeq S (fun _=>#[]) >>= fun _=>letGo (#[]:Array Value).toList.reverse >>= fun _=>Builtin.List.listExtendWith (.ref S) (.ref it) .none) _ _ s
 refine al6 (wpAny_updateSeq hS rfl ?_)
 have IY:=anA (Obj.mapSeq (fun _=>(#[]:Array Value))) hS rfl
 have IZ:∀b o,b≠S->s.heap.get? b=some o->(s.heap.update S (Obj.mapSeq (fun _=>(#[]:Array Value)))).get? b=some o:=
   fun b o hb e=>(anZ _ _ (anP hb)).trans e
 refine al6 (wpAny_letGo ?_)
 refine F5 hh (hr.at fun o q=>IZ it o (anP hSi) q) (hl.at fun o q=>IZ l o (anP hSl) q) yr hlen S .none _ IY hSi hSl fun h' tk lS c' hk U0 BJ=>?_
 exact hR h' tk lS c' (fun b o hb hbi e=>hk b o hb hbi (IZ b o hb e)) U0 BJ
theorem zU{Q:Value->Shared->Prop}{l:Addr}(hh:A.handled=none)(hr:s.heap.IsRevIter it l ((items.size:Int)-1))(hl:s.heap.IsList l items)(yr:l≠it)(hlen:items.size<=sizeLine)
   (hQ:∀h' tk lS c',(∀b o,b≠it->s.heap.get? b=some o->h'.get? b=some o) →
     h'.get? s.heap.objs.size=some {cls:=.type "list",dict:=none,data:=.seq lS c',slots:=#[]}->ItemsOf (fun i v=>items[items.size-1-i]? = some v) lS items.size->Q (.ref s.heap.objs.size) {s with heap:=h',toks:=tk}) :
   wpAny (model prog w) A (call (.type "list") [.ref it]) Q E s:=by
 refine callType_codes (Q₁:=fun obj s₁=>obj=.ref s.heap.objs.size/\s₁={s with heap:=s.heap.push {cls:=.type "list",data:=.seq #[]}}) F.called_list (F.typeCall_list_1 _) F.entry_list_init
   (code_list_new _ ⟨rfl,rfl⟩) fun obj s₁ h₁=>?_
 obtain⟨rfl,rfl⟩:=h₁
 have hS:(s.heap.push {cls:=.type "list",data:=.seq #[]}).get? s.heap.objs.size=some {cls:=.type "list",data:=.seq #[]}:=amD _ rfl
 have hit:it<s.heap.objs.size:=by obtain⟨o,e,_⟩:=hr;exact amC e
 have iS:l<s.heap.objs.size:=by obtain⟨o,e,_⟩:=hl;exact amC e
 refine⟨⟨_,hS,rfl⟩,F.args_list_init_2 _ _,zT (A:=A.in1) hh (hr.at fun o q=>amo _ q) (hl.at fun o q=>amo _ q) yr hlen _ hS (aoR hit) (aoR iS) fun h' tk lS c' hk U0 BJ=>?_⟩
 exact⟨rfl,hQ h' tk lS c' (fun b o hb e=>hk b o (amV (amC e)) hb (amo _ e)) U0 BJ⟩
theorem Lb{acc:Array Value}(h:ItemsOf (fun i v=>items[items.size-1-i]? = some v) acc items.size):acc.toList=items.toList.reverse:=by
 obtain⟨h1,h2⟩:=h
 apply an8
 intro j
 by_cases hj:j<items.size
 . rw[List.getElem?_reverse (by simpa using hj)]
   have e1:acc[j]? = some acc[j]:=aoi (by omega)
   have:=h2 j _ e1
   rw[aog,e1,← this]
   simp
 . rw[am3 (by simp;omega),am3 (by simp;omega)]
theorem Vals.rev:∀{xs:List V} {us:List Value},Vals xs us->Vals xs.reverse us.reverse
 | [],_,.nil=>.nil
 | _::_,_,.cons r rr=>by
   rw[anl,anl]
   exact Vals.append (Vals.rev rr) (.cons r .nil)
def tLR(K:PySem.W.Frag)(ta:TA):TE:=fun σ H Q=>ta σ H fun vs H1=>∃a xs,vs=[.ref a]/\nV K H1 a xs/\∀l,H1 l=none->Q (.ref l) (upd H1 l (.lst xs.reverse))
theorem F6{x:Expr}{ta:TA}{p q:Pos}(hc:X.calm=true)(hgl:Gl X "list")(hml:X.mg "list" = none)(hgr:Gl X "reversed")(hmr:X.mg "reversed" = none)(ha:PA X [x] ta)(hs:starEach [x] X.env=(false,eval x X.env)::starEach [] X.env)
   (wQ:starEach [.Call (.Name "reversed" q) [x] [] pq] X.env=(false,eval (.Call (.Name "reversed" q) [x] [] pq) X.env)::starEach [] X.env):PE X (.Call (.Name "list" p) [.Call (.Name "reversed" q) [x] [] pq] [] pos) (tLR X.K ta):=by
 intro pins s σ H Q I h
 refine anK (qR I hgl hml dP ?_ (by decide) (by decide))
 refine anV ?_ wQ rfl
 rw[wQ]
 show wpAny _ _ (spliced ((false,eval (.Call (.Name "reversed" q) [x] [] pq) X.env)::backTo pos (starEach [] X.env))) _ _ s
 refine Calls.spliced_cons ?_
 refine Call_ (qR I hgr hmr boot_reversed (anV (dz (ha pq pins s σ H _ I h) fun us s1 zz=>?_) hs rfl))
 obtain⟨vs,H1,I1,r1,q1⟩:=zz
 obtain⟨l,xs,e,hq,q⟩:=q1
 subst e
 cases r1 with
 | cons r rr=>
   cases rr
   cases r
   obtain⟨its,rv,p,hz⟩:=I1.list hq
   have hll:=rv.length
   refine PySem.call_reversed_list p.isList ?_
   refine Calls.spliced_nil ?_
   have hL:l<s1.heap.objs.size:=by obtain⟨o,e,_⟩:=p.isList;exact amC e
   have st:PySem.Heap.IsRevIter (s1.heap.push (PySem.revObj l ((its.toArray.size:Int)-1))) s1.heap.objs.size l ((its.toArray.size:Int)-1):=⟨_,amD _ rfl,rfl,rfl⟩
   refine zU (s:={s1 with heap:=s1.heap.push (PySem.revObj l ((its.toArray.size:Int)-1))}) (I1.ok.hd hc) st (p.isList.at fun o q=>amo _ q) (amV hL) (by rw[amJ,← hll];exact hz) fun h' tk lS c' hk U0 BJ=>?_
   have hsz:(s1.heap.push (PySem.revObj l ((its.toArray.size:Int)-1))).objs.size=s1.heap.objs.size+1:=aoZ ..
   have hS2:h'.get? (s1.heap.objs.size+1)=some {cls:=.type "list",dict:=none,data:=.seq lS c',slots:=#[]}:=hsz▸U0
   have ea:lS.toList=its.reverse:=by simpa using Lb BJ
   show EP X pins σ Q (.ref (s1.heap.push (PySem.revObj l ((its.toArray.size:Int)-1))).objs.size) _
   rw[hsz]
   refine⟨.ref (s1.heap.objs.size+1),_,I1.laid (t':=tk) (fun b u e=>hk b u (amV (amC e)) (amo _ e)) (aoJ _) (show dw X.prog X.w _ _ _ (.lst xs.reverse) from⟨by rw[List.length_reverse];exact hz,its.reverse,c',Vals.rev rv,?_⟩),rfl,q _ (I1.cQ.fresh (aoJ _))⟩
   have e2:lS=its.reverse.toArray:=by rw[← ea]
   rw[← e2]
   exact hS2
variable{ds:List D}
theorem ay.rev{ds:List L3.D}(r:ay K CL Z ds us):ay K CL Z ds.reverse us.reverse:=by
 have go:∀{ds:List L3.D} {us:List V} {es:List L3.D} {ws:List V},ay K CL Z ds us->ay K CL Z es ws->ay K CL Z (ds.reverse++es) (us.reverse++ws):=by
   intro ds us es ws r
   induction ds generalizing us es ws with
   | nil=>cases r;exact fun q=>q
   | cons d ds ih=>
     cases r with
     | cons r1 r2=>
       intro q
       rw[anl,anl,amm,amm]
       exact ih r2 (.cons r1 q)
 simpa using go r .nil
theorem F8(g:Gx X)(hml:X.mg "list" = none)(hmr:X.mg "reversed" = none)(h:cZ X CL b e δ (.lst ds) δ1)(hi:D.aY ds=true)(hgl:Gl X "list")(hgr:Gl X "reversed")(hs:starEach [e] X.env=(false,eval e X.env)::starEach [] X.env:=by exact bA rfl)
   (wQ:starEach [.Call (.Name "reversed" pq) [e] [] pr] X.env=(false,eval (.Call (.Name "reversed" pq) [e] [] pr) X.env)::starEach [] X.env:=by exact bA rfl):bO X CL b (.Call (.Name "list" pp) [.Call (.Name "reversed" pq) [e] [] pr] [] pos) δ (.lst (ds.reverse.map T.sh)) δ1:=fun H Z σ ts vs Q S k=>
 bW (F6 g.calm hgl hml hgr hmr (b8 cN dY hs) hs wQ) (h H Z σ ts vs _ S fun v H1 Z1 z1 k1 S1 r=>by
   cases r with
   | lst hq rr=>
     refine⟨_,_,rfl,hq,fun l hl=>?_⟩
     obtain⟨c,S2⟩:=(bH.qI (ay.rev (ay.gA S1.tp hi rr)) S1).qX (g0:=[]) (by simp[rr.length]) hl
     exact k _ _ _ z1 (k1.trans c) S2)
def D.BK:L3.D->L3.D
 | .tup (a::_)=>a
 | d=>d
theorem Lc(f:α->L3.D)(z:α)(l:List α):yt (l.map f)=(List.range l.length).map fun(i:Nat)=>L3.D.tup [.int i,f (l.getD i z)]:=by
 unfold yt
 rw[al8]
 apply amL
 intro i hi
 have hi:i<l.length:=amH.mp hi
 have:(l.map f).getD i .non=f (l.getD i z):=by
   rw[amb,amb,amg,al9 hi]
   rfl
 rw[this]
theorem OS{f:α->L3.D}{l:List α}(z:α)(hm:X.mg "enumerate" = none)(h:bO X CL b e δ (.sh (.lst (l.map f))) δ1)(hg:Gl X "enumerate")(hs:starEach [e] X.env=(false,eval e X.env)::starEach [] X.env:=by exact bA rfl) :
   Yk X CL b (.Tuple elts kk pt) (.Call (.Name "enumerate" pr) [e] [] pc) δ ((List.range l.length).map fun(i:Nat)=>L3.D.tup [.int i,f (l.getD i z)]) δ1:=by
 have:=UZ (elts:=elts) (kk:=kk) (pt:=pt) (pr:=pr) (pc:=pc) hm h hg hs
 rwa [Lc f z l]at this
theorem vQ:∀(l r:List Int),PyData.eqvAll (D.cD (l.map L3.D.int)) (D.cD (r.map L3.D.int))=decide (l=r)
 | [],[]=>by rw[anL,D.cD,PyData.eqvAll];rfl
 | [],_::_=>by rw[anL,amB,D.cD,D.cD,PyData.eqvAll];rfl
 | _::_,[]=>by rw[anL,amB,D.cD,D.cD,PyData.eqvAll];rfl
 | x::l,y::r=>by
   rw[amB,amB,D.cD,D.cD,PyData.eqvAll,vQ l r,D.toPy,D.toPy,PyData.eqv]
   by_cases e:x=y
   . subst e
     simp
   . have:(x==y)=false:=by simpa using e
     rw[this,Bool.false_and,amN (by simp[e])]
theorem Ef(l r:List Int):rY (.lst (l.map .int)) (.lst (r.map .int))=decide (l=r):=by
 unfold rY
 rw[D.toPy,D.toPy,PyData.eqv,vQ]
variable{ds:List L3.D}
def aen(K:PySem.W.Frag):R2:=fun x y H Q=>∃l k xs,x=.ref l/\y=.int k/\nV K H l xs /\ -(2 ^ 63)<=k/\k<2 ^ 63/\xs.length*k.toNat<=sizeLine ∧
 ∀p,H p=none->Q (.ref p) (upd H p (.lst (List.replicate k.toNat xs).flatten))
theorem U1:oq X (binaryOp .Mult) (aen X.K):=by
 intro pins s σ H x y v u Q I rx ry h
 obtain⟨l,k,xs,rfl,rfl,hH,h1,h2,hz,q⟩:=h
 cases rx
 obtain⟨t,rfl⟩:=ry
 obtain⟨its,r,pl,_⟩:=I.list hH
 have hl:=r.length
 obtain⟨⟨c1,dd,da1,sl⟩,e,hc,n,hd⟩:=pl.isList
 cases hc;cases hd
 have hlen:its.toArray.size*k.toNat<=sizeLine:=by rw[amJ,← hl];exact hz
 have ahn:¬ its.toArray.size*k.toNat > (2 ^ 63-1) / 8:=by
   have:(sizeLine:Nat)<=(2 ^ 63-1) / 8:=by decide
   omega
 have aho:¬ (!Builtin.List.listFitsIndex k)=true:=by
   rw[fitsIndex_both h1 h2]
   exact amu
 have aeo:¬ Builtin.List.listTooLong (its.toArray.size*k.toNat)=true:=by
   rw[NP hlen]
   exact amu
 have yu:List.foldl (fun x1 x2=>x1++x2) #[] (List.replicate (if its.toArray.isEmpty=true then 0 else k.toNat) its.toArray)=(List.replicate k.toNat its).flatten.toArray:=by
   have f0:∀m:Nat,List.foldl (fun x1 x2=>x1++x2) #[] (List.replicate m its.toArray)=(List.replicate m its).flatten.toArray:=fun m=>by
     have:=foldl_rep its m []
     rw[anm]at this
     exact this
   rw[f0]
   cases its with
   | nil=>simp
   | cons a r'=>rw[amq (by simp)]
 refine wpAny_binaryOp_repeat_ref (T:="list") (U:="int") (by decide) ⟨_,e,rfl⟩ (fun s'=>typeIs_int s' k t) noFill_list_mul F.fills_int_mul F.slot_int_rmul repeat_list F.slot_int_index.lookup
   (call_meets F.slot_int_rmul (typeIs_int s k t) F.entry_int_rmul (F.args_int_rmul_2 _ _) (lm_int_rmul_list_any k t l its.toArray n dd sl)
     ⟨e,rfl,⟨_,e,rfl⟩,call_meets F.slot_list_mul ⟨_,e,rfl⟩ F.entry_list_mul (F.args_list_mul_2 _ _) (lm_list_mul_any l its.toArray n dd sl k t aho ahn aeo) ⟨e,?_⟩⟩)
 rw[yu]
 exact⟨.ref _,_,I.adU (t':=s.toks) (r.rep k.toNat) (by rw[len_rep,aoV];exact hz),rfl,q _ I.fresh⟩
theorem ay.rep{K:PySem.W.Frag}{Z:Hp}{ds:List L3.D}{vs:List V}(r:ay K CL Z ds vs):∀k:Nat,ay K CL Z (List.replicate k ds).flatten (List.replicate k vs).flatten
 | 0=>.nil
 | k+1=>by
   rw[anx,anx,an7,an7]
   exact ay.app r (ay.rep r k)
theorem U3{k:Int}(h1:cZ X CL b e1 δ (.lst ds) δ1)(h2:cZ X CL b e2 δ1 (.int k) δ2)(i1:D.aY ds=true)(k1:-(2 ^ 63)<=k)(k2:k<2 ^ 63)(hz:ds.length*k.toNat<=sizeLine) :
   bO X CL b (.BinOp e1 .Mult e2 pos) δ (.lst ((List.replicate k.toNat ds).flatten.map T.sh)) δ2:=fun H Z σ ts vs Q S kk=>
 bW (xY U1 cN cN) (h1 H Z σ ts vs _ S fun v1 H1 Z1 z1 q1 S1 r1=>h2 H1 Z1 σ ts vs _ S1 fun v2 H2 Z2 z2 q2 S2 r2=>by
   have KZ:=r1.mono q2
   cases KZ with
   | lst Ow Ea=>
     cases r2 with
     | int=>
       refine⟨_,_,_,rfl,rfl,Ow,k1,k2,by rw[← Ea.length];exact hz,fun p hp=>?_⟩
       have rc:=ay.rep (ay.gA S2.tp i1 Ea) k.toNat
       obtain⟨c,S4⟩:=(bH.qI rc S2).qX (g0:=[]) (by rw[al8,rc.length]) hp
       exact kk _ _ _ (z1.trans z2) (q1.trans (q2.trans c)) S4)
theorem ay.Yp{K:PySem.W.Frag}{Z:Hp}:∀l:List Str,ay K CL Z (l.map .str) (l.map V.str)
 | []=>.nil
 | x::l=>.cons (.str x) (ay.Yp l)
def GT(X:Cx)(x:Str)(l:List Str):Prop:=∃a,X.mg x=some (.ref a)/\∀H:Hp,om X.K H a (l.map V.str)
theorem OU(hm:GT X x l)(hg:Gl X x)(hd:(x==("__debug__":Str))=false:=by decide):bO X CL b (.Name x pos) δ (.sh (.tup (l.map .str))) δ:=fun H Z σ ts vs Q S kk=>by
 obtain⟨a,hm,hs⟩:=hm
 exact bW (Ua (v:=.ref a) hg hm rfl hd) (kk _ H Z (.refl _) (.refl _) (S.push (.tup (hs Z) (ay.Yp l))))
theorem aep{od:Option Addr}{its:Array Value}{sl:Array (Option Value)}(h1:X.mg x=some (.ref a))(h2:X.K.lookup a=some ⟨.type "tuple",od,.seq its n,sl⟩)(h3:its.size<=sizeLine)(h4:Vals (l.map V.str) its.toList):GT X x l:=
 ⟨a,h1,fun H=>.inr ⟨_,its,n,h2,rfl,rfl,h3,h4⟩⟩
def Yq(x y:Str):Bool:=!(Builtin.Str.occurrences y x 0 y.length 1).isEmpty
def ahp:V->Option Int->Option Int->Hp->VK->Prop:=fun x lo hi H Q=>∃z,x=.str z/\z.length<=sizeLine/\Q (.str (Txt.slice z lo hi)) H
theorem aaz:SlR X ahp:=by
 intro pins s σ H x v vl vu lo hi sl Q I rx hs pl pu h
 obtain⟨z,rfl,hz,q⟩:=h
 obtain⟨t,rfl⟩:=rx
 obtain⟨o,ho,hc,hd⟩:=hs
 have fin:∀t' k,EP X pins σ Q (.str (Txt.slice z lo hi) t') {s with toks:=k}:=fun t' k=>⟨.str _,H,I.tok k,⟨t',rfl⟩,q⟩
 refine⟨"str",_,F.slot_str_getitem.lookup,typeIs_str _ _ _,?_⟩
 cases pl with
 | none=>
   cases pu with
   | none=>exact aon (l:=none) (u:=none) (st:=none) ⟨o,ho,hc,hd⟩ rfl (post_val_or_str ⟨am9 (Txt.slice_le z _ _) hz,fin⟩)
   | int j uj=>exact aon (l:=none) (u:=some (j,uj)) (st:=none) ⟨o,ho,hc,hd⟩ rfl (post_val_or_str ⟨am9 (Txt.slice_le z _ _) hz,fin⟩)
 | int i ui=>
   cases pu with
   | none=>exact aon (l:=some (i,ui)) (u:=none) (st:=none) ⟨o,ho,hc,hd⟩ rfl (post_val_or_str ⟨am9 (Txt.slice_le z _ _) hz,fin⟩)
   | int j uj=>exact aon (l:=some (i,ui)) (u:=some (j,uj)) (st:=none) ⟨o,ho,hc,hd⟩ rfl (post_val_or_str ⟨am9 (Txt.slice_le z _ _) hz,fin⟩)
theorem Ld{lo hi:Option Expr}{l h:Option Int}{z:Str}(h1:cZ X CL b e δ (.str z) δ1)(hz:z.length<=sizeLine)(h2:Yj X CL b lo δ1 l δ2)(h3:Yj X CL b hi δ2 h δ3):bO X CL b (.Subscript e (.Slice lo hi none p2) pos) δ (.sh (.str (Txt.slice z l h))) δ3:=fun H Z σ ts vs Q S k=>by
 obtain⟨t2,po2,w2⟩:=h2
 obtain⟨t3,po3,w3⟩:=h3
 refine bW (x9 aaz cN po2 po3) (h1 H Z σ ts vs _ S fun v H1 Z1 z1 k1 S1 r=>w2 H1 Z1 σ ts vs _ S1 fun H2 Z2 z2 k2 S2=>w3 H2 Z2 σ ts vs _ S2 fun H3 Z3 z3 k3 S3=>?_)
 exact⟨z,r.sc rfl,hz,k _ H3 Z3 (z1.trans (z2.trans z3)) (k1.trans (k2.trans k3)) (S3.push (.str _))⟩
theorem c0{A:Type}{arg:A->List L3.D}{Pre:A->Prop}{res:A->T}(a:A)(F:Fc X CL x k n arg Pre res)(hg:Gl X x)(ha:arg a=[])(hp:Pre a)(hc:(res a).clean=true)(hn:(arg a).length=n:=by rfl)
   (wc:(x==("__debug__":Str))=false:=by decide):bO X CL b (.Call (.Name x pp) [] [] pos) δ (res a) δ:=by
 obtain⟨f,fd,ps,F1,m,kk,bb⟩:=F.ex
 intro H Z σ ts vs Q S k
 refine bW (NB F1 F.room hg m kk bb .nil DX wc) ?_
 refine⟨H,a,.refl _,fun _ _ q _=>q,by rw[ha];exact .nil,hn,hp,S.KY,fun v H' W' fp hh ww wh nw tp rt nd own=>?_⟩
 obtain⟨Z',z',S'⟩:=S.back hh S.zh ww wh nw tp rt nd own (.inr hc)
 exact k v H' Z' z' hh S'
def OV:Key->D
 | .inl i=>.int i
 | .inr x=>.str x
variable{gs:List (Key×V)}{kvs:List (Key×D)}
theorem cL.length{kvs:List (Key×D)}(h:cL K CL Z kvs gs):kvs.length=gs.length:=
 cL.ind (P:=fun kvs gs=>kvs.length=gs.length) rfl (fun _ _ i=>congrArg (· + 1) i) h
theorem bu.key{k:Key}(r:bu K CL Z (OV k) v):v=kV k:=by
 cases k with
 | inl i=>exact r.sc rfl
 | inr x=>exact r.sc rfl
theorem U4(k:Key):bu K CL Z (OV k) (kV k):=by
 cases k with
 | inl i=>exact .int i
 | inr x=>exact .str x
theorem yw{Z:Hp}:∀ks:List Key,ay K CL Z (ks.map OV) (ks.map kV)
 | []=>.nil
 | k::ks=>.cons (U4 k) (yw ks)
namespace Rv
theorem Le:Manifest.owners.lookup (String.ofList ['d','e','s','r','e','v','e','r'].reverse)=some Manifest.sig_reversed:=by kernel_rfl
theorem Lf:PySem.Slot "reversed" "__init__" "object.__init__":=
 .of (owner:="object") (n:="__init__") (by rw[typeLookup_type,aoA];kernel_rfl) (by decide +kernel) (by decide +kernel) (by decide +kernel)
   (by first|exact .inl (by decide +kernel)|exact .inr (by decide +kernel)) (by rw[isSubtype_type];kernel_rfl)
theorem called:TypeCalled "reversed" "reversed.__new__" "object.__init__":=
 ⟨by decide +kernel,by decide +kernel,⟨_,_,PySem.F.mro_reversed⟩,PySem.F.made_reversed,by decide +kernel,PySem.F.sub_reversed_self,Lf⟩
theorem slot_next:PySem.Slot "reversed" "__next__" "reversed.__next__":=
 .of (owner:="reversed") (n:="__next__") (by rw[typeLookup_type,aoA];kernel_rfl) (by decide +kernel) (by decide +kernel) (by decide +kernel)
   (by first|exact .inl (by decide +kernel)|exact .inr (by decide +kernel)) (by rw[isSubtype_type];kernel_rfl)
theorem entry_next:entryFor table "reversed.__next__" = some Builtin.«reversed.__next__»:=entryFor_of_tree (by kernel_rfl)
theorem args_next(a:Value):argsOk "reversed.__next__" ⟨[a],[]⟩:=by
 unfold argsOk;rw[signature?_of (id:="reversed.__next__") (n:=['_','_','t','x','e','n','_','_']) (o:=['d','e','s','r','e','v','e','r']) (by kernel_rfl) Le];kernel_rfl
def obj(t:Addr)(i:Int):Obj:={cls:=.type "reversed",data:=.fields #[.ref t,rawInt i]}
def Is(h:Heap)(a t:Addr)(i:Int):Prop:=∃o,h.get? a=some o/\o.cls=.type "reversed" /\ o.data=.fields #[.ref t,rawInt i]
theorem Is.typeIs{t:Addr}{i:Int}(x:Is s.heap a t i):s.TypeIs (.ref a) "reversed":=let ⟨o,ho,hc,_⟩:=x;⟨o,ho,hc⟩
end Rv
namespace Rv
theorem next_item{t:Addr}{x:Value}{Q:Option Value->Shared->Prop}(hit:Is s.heap it t (i:Int))(ht:IsTup s.heap t items)(yr:t≠it)(hx:items[i]? = some x)(hsz:(items.size:Int)<2 ^ 63)
   (hQ:∀h' tk,Is h' it t ((i:Int)-1)->Heap.SameBut it s.heap h'->Q (some x) {s with heap:=h',toks:=tk}):wpAny (model prog w) A (pyNext (.ref it)) Q E s:=by
 obtain⟨o,ho,hc,hd⟩:=id hit
 have hi:i<items.size:=(aoI.mp hx).1
 unfold pyNext
 refine al6 (aoo (ans (name:=Str.ofString "__next__") hit.typeIs slot_next
   (anf slot_next hit.typeIs entry_next ?_ (args_next _))))
 unfold Builtin.«reversed.__next__»
 refine al6 (wpAny_of_eq (a:=(Value.ref it,[])) rfl ?_)
 try dsimp only
 refine al6 (anY ho hd (x:=.ref t) rfl ?_)
 refine al6 (anY ho hd (x:=rawInt (i:Int)) rfl ?_)
 show wpAny _ _ (if (i:Int)<0 then _ else _) _ _ s
 rw[amq (by omega)]
 refine al6 (an4 ht.typeIs PySem.F.slot_tuple_getitem.lookup ?_)
 rw[amq (by decide)]
 refine al6 (wpAny_mkInt ?_)
 refine al6 (aoo (getItem_tuple (s:={s with toks:=s.toks+1}) ht (by omega) (by omega) (j:=i) (by simp[seqIndex?];omega) hx ?_))
 try dsimp only
 refine al6 (anY (s:={s with toks:=s.toks+1}) ho hd (x:=rawInt (i:Int)) rfl ?_)
 show wpAny _ _ (setField (.ref it) 1 (rawInt ((i:Int)-1)) >>= _) _ _ _
 refine al6 (aoB (s:={s with toks:=s.toks+1}) ho hd (by simp) ?_)
 refine amd ⟨x,rfl,amd (hQ _ _ ?_ (anG ..))⟩
 exact⟨_,anA _ ho (Obj.isFreed_of_fields (aoe hd _)),(Obj.cls_mapFields ..).trans hc,by
   rw[aoe hd];simp⟩
theorem next_end{t:Addr}{Q:Option Value->Shared->Prop}(hh:A.handled=none)(hit:Is s.heap it t (-1))
   (hQ:∀h',Heap.ExtBut it s.heap h'->Q none {s with heap:=h'}):wpAny (model prog w) A (pyNext (.ref it)) Q E s:=by
 obtain⟨o,ho,hc,hd⟩:=id hit
 unfold pyNext
 refine al6 (aoo (ans (name:=Str.ofString "__next__") hit.typeIs slot_next
   (anf slot_next hit.typeIs entry_next ?_ (args_next _))))
 unfold Builtin.«reversed.__next__»
 refine al6 (wpAny_of_eq (a:=(Value.ref it,[])) rfl ?_)
 try dsimp only
 refine al6 (anY ho hd (x:=.ref t) rfl ?_)
 refine al6 (anY ho hd (x:=rawInt (-1)) rfl ?_)
 show wpAny _ _ (if (-1:Int)<0 then _ else _) _ _ s
 rw[amx (by decide)]
 refine al6 (wpAny_rule ?_)
 refine al6 ?_
 refine al6 (aoB ho hd (by simp) ?_)
 have M0:=anA (Obj.mapFields fun x=>x.setIfInBounds 1 (rawInt (-1))) ho (Obj.isFreed_of_fields (aoe hd _))
 have e1:Heap.ExtBut it s.heap (s.heap.update it (Obj.mapFields fun x=>x.setIfInBounds 1 (rawInt (-1)))):=(anG ..).extBut
 refine aoB M0 (aoe hd _) (by simp) ?_
 refine al6 ?_
 show wpAny _ _ (newExc (.type "StopIteration") [] >>= _) _ _ _
 refine al6 ?_
 simp only[newExc,newTuple]
 refine al6 (ank ?_ (by size_fits))
 refine al6 (m:=firstArgMember _ _) (wpAny_of_eq (a:=Value.none) (by first|rfl|(simp only[firstArgMember];rfl)) ?_)
 refine ank ?_ (by size_fits)
 simp only[raiseNew]
 refine al6 (wpAny_handled ?_)
 first|rw[show A.in1.handled=none from hh]|rw[hh]
 refine al6 (amd (wpAny_throw ?_))
 refine al6 (aol (T:="StopIteration") (b:=true) ⟨_,amD _ rfl,rfl⟩ isSubtype_stop ?_)
 exact amd (hQ _ fun b o hb e=>amo _ (amo _ ((anZ _ _ (anP hb)).trans (e1 b o hb e))))
end Rv
def constInt:Expr->Option Int
 | .Constant (.int i) _ _=>some i
 | .UnaryOp .USub (.Constant (.int i) _ _) _=>some (-i)
 | _=>none
def uP:List Expr->Option (List Int)
 | []=>some []
 | e::es=>(constInt e).bind fun x=>(uP es).map (x::·)
theorem Lg{x:Int}(h:constInt e=some x):bO X CL b e δ (.sh (.int x)) δ:=by
 unfold constInt at h
 split at h
 . cases h;exact aj
 . cases h;exact lB (ah aj)
 . cases h
theorem Eg{x:Int}(h:constInt e=some x):notStar e=true:=by
 unfold constInt at h
 split at h
 . rfl
 . rfl
 . cases h
theorem BL:∀{es:List Expr} {l:List Int},uP es=some l->IC X CL b es δ ((l.map D.int).map T.sh) δ
 | [],l,h=>by
   have e:l=[]:=(amA h).symm
   subst e
   exact cS
 | e::es,l,h=>by
   rw[uP]at h
   obtain⟨x,hx,h⟩:=Option.bind_eq_some_iff.mp h
   obtain⟨l',hl,rfl⟩:=amG.mp h
   exact aU (Lg hx) (BL hl) (bA (Eg hx))
variable{q8:List L3.D}
theorem bH.oO(S:bH K CL b H Z δ σ (.sh d::ts) (v::vs)):bu K CL Z d v:=by
 obtain⟨fp,gp,e0,r0,nd,ow⟩:=S.rep
 cases r0 with
 | cons q1 q2=>
   cases q1 with
   | sh r=>exact r
theorem OW(h1:bO X CL b e1 δ (.sh (.tup ds)) δ1)(h2:bO X CL b e2 δ1 (.sh (.tup q8)) δ2)(n1:ds≠[])(n2:q8≠[])(hz:ds.length+q8.length<=sizeLine) :
   bO X CL b (.BinOp e1 .Add e2 pos) δ (.sh (.tup (ds++q8))) δ2:=fun H Z σ ts vs Q S k=>
 bW (xY Iu cN cN) (h1 H Z σ ts vs _ S fun v1 H1 Z1 z1 k1 S1=>h2 H1 Z1 σ _ _ _ S1 fun v2 H2 Z2 z2 k2 S2=>by
   have r2:=S2.oO
   have r1:=S2.pop.oO
   cases r1 with
   | tup Ow Ea=>
     cases r2 with
     | tup UO Fe=>
       have e1:=Ea.length
       have e2:=Fe.length
       refine⟨_,_,_,_,rfl,rfl,aA.wV S2.zh Ow,aA.wV S2.zh UO,fun z=>n1 (List.eq_nil_of_length_eq_zero (by rw[e1,z];rfl)),by omega,fun z=>absurd (List.eq_nil_of_length_eq_zero (by rw[e2,z];rfl)) n2,fun _ p hp=>?_⟩
       have rc:=ay.app Ea Fe
       obtain⟨a,c,S4⟩:=(bH.qI rc S2.pop.pop).BD (by simp[rc.length,e1,e2]) hp
       obtain⟨Z5,z5,S5⟩:=S4.Bw
       rw[T.bP,iY]at S5
       exact k _ _ Z5 (z1.trans (z2.trans (a.trans z5))) (k1.trans (k2.trans c)) S5)
variable{ι:Nat->Nat}
def turned(ι:Nat->Nat)(i j:Nat):Nat->Nat:=fun k=>if i<=k/\k<j then ι (i+j-1-k) else ι k
theorem mkL(hi:X.N[i]? = some x)(h:X.env.scope.names.lookup x=some .local)(hf:X.fn x=true)(hd:(x==("__debug__":Str))=false:=by decide)(hc:(x==("__classdict__":Str))=false:=by decide):Ln X i x:=⟨⟨hi,.inl h,hd,hc⟩,.inl h,.inl hf⟩
theorem mkC(hi:X.N[i]? = some x)(h:X.env.scope.names.lookup x=some .cell)(hf:X.fn x=true)(hd:(x==("__debug__":Str))=false:=by decide)(hc:(x==("__classdict__":Str))=false:=by decide):Ln X i x:=⟨⟨hi,.inr (.inl h),hd,hc⟩,.inr h,.inl hf⟩
theorem aeq{sp:Sp}(G:g9 P w K mg base ou k f fd ps sp)(m:mg x=some (.ref f))(q:PySem.W.keepIn K (.ref f)=true)(b:Binds K fd ps []) :
   ∃f fd ps,g9 P w K mg base ou k f fd ps sp/\mg x=some (.ref f)/\PySem.W.keepIn K (.ref f)=true/\Binds K fd ps []:=⟨_,_,_,G,m,q,b⟩
variable{px:Pos}{p:L3.D->Bool}{g:L3.D->T}
theorem aer(sc:fO X scope y Nc ix):oN X scope [y] Nc ix:=⟨sc.kind,sc.uH,sc.nd,sc.names,(fun x hx=>by rw[amM]at hx;subst hx;exact sc.own),sc.frees,sc.hd,sc.Yg⟩
theorem aes(sc:fO X scope y Nc ix)(h:Block X CL scope Nc ifs elt δc ds p g)(h1:(y==("__debug__":Str))=false)(h2:(y==("__classdict__":Str))=false):uM X CL scope Nc [y].length (.Name y px) part1 ifs elt δc ds p g:=fun C s0 H0 f0 b'=>
 ⟨Oz (i:=0) sc.nd (aav (by rw[sc.hd];rfl) sc.own h1 h2),fun d hd=>⟨[d],rfl,rfl,(h C s0 H0 f0 b' d hd).1,(h C s0 H0 f0 b' d hd).2⟩⟩
theorem i6(sc:fO X scope y Nc ix)(hc:X.calm=true)(h:Yh X CL b (.Name y px) iter δ ds δ1)(hb:(δc=wj δ1 ix/\∀d∈ds,(g d).clean=true)\/δc=D3 δ1 ix)(inner:Block X CL scope Nc ifs elt δc ds p g)(hlen:ds.length<=sizeLine)
   (hs:∀x,foldedSetIterable iter X.env x=pure x:=by intro _;rfl) (h1:(y==("__debug__":Str))=false:=by decide) (h2:(y==("__classdict__":Str))=false:=by decide):bO X CL b (.ListComp elt [⟨.Name y px,iter,ifs,0⟩] scope pos) δ (.lst ((ds.filter p).map g)) δ1:=
 Ed (xs:=[y]) (aer sc) hc (IX h) hb (aes sc inner h1 h2) hlen hs
theorem oQ{D:eL}{gg:L3.D->T}(g:Gx X)(n:Ln X i x)(sc:fO X scope y Nc ix)(h:Yh X CL b (.Name y px) iter δ ds δ1)(hb:(δc=wj δ1 ix/\∀d∈ds,(gg d).clean=true)\/δc=D3 δ1 ix)(inner:Block X CL scope Nc ifs elt δc ds p gg)
   (hlen:ds.length<=sizeLine) (k:dZ X CL b gf (δ1.set i (some (.lst ((ds.filter p).map gg)))) D) (hl:i<δ1.length)
   (K1:swapsWith (.ListComp elt [⟨.Name y px,iter,ifs,0⟩] scope pc) (some (.Name x pos')) pos.line X.env=pure true\/swapsWith (.ListComp elt [⟨.Name y px,iter,ifs,0⟩] scope pc) (some (.Name x pos')) pos.line X.env=pure false) (hs:∀x,foldedSetIterable iter X.env x=pure x:=by intro _;rfl)
   (h1:(y==("__debug__":Str))=false:=by decide) (h2:(y==("__classdict__":Str))=false:=by decide):dZ X CL b (.Assign [.Name x pos'] (.ListComp elt [⟨.Name y px,iter,ifs,0⟩] scope pc) pos::gf) δ D:=
 aau (xs:=[y]) g n (aer sc) (IX h) hb (aes sc inner h1 h2) hlen k hl K1 hs
theorem aK(n:Ln X i x)(h:δ[i]? = some (some (.sh d)):=by rfl):cZ X CL b (.Name x pos) δ d δ:=ah (v_ n.1 h)
structure cY(X:Cx):Prop where
 g:Gx X
 u:X.A.units+64<cLine
abbrev aE(X:Cx)(CL:Str->Addr)(b:Bx)(st:Stmt)(N:List Str)(l:List L3.D)(r:T):Prop:=dZ X CL b (ez st) (entry N l) {nx:=fun _=>r=.sh .non,rt:=fun zV _=>zV=r}
abbrev aB:NameKind:=.globalImplicit
abbrev av:NameKind:=.local
theorem bw{P:List Str}{sc:Scope}(h1:sc.kind=.function:=by rfl)(h2:sc.isCoroutine=false:=by rfl)(h3:sc.isGenerator=false:=by rfl)(h4:N.Nodup:=by decide +kernel)(h5:N.take P.length=P:=by rfl)(h6:∀x∈P,sc.names.lookup x=some .local\/sc.names.lookup x=some .cell:=by decide +kernel)(h7:∀y∈sc.names,y.2 ≠ .free:=by decide +kernel):aP N P sc:=⟨h1,h2,h3,h4,h5,h6,h7⟩
variable{tb:List (Str×NameKind)}
theorem bK(c:lQ X.env.scope tb=true)(j:Nat)(hj:tb[j]? = some (x,.local):=by rfl)(hi:X.N[i]? = some x:=by rfl)(hf:X.fn x=true:=by rfl)(hd:(x==("__debug__":Str))=false:=by decide)(hc:(x==("__classdict__":Str))=false:=by decide):Ln X i x:=mkL hi (cz c j hj) hf hd hc
theorem zL(c:lQ X.env.scope tb=true)(j:Nat)(hj:tb[j]? = some (x,.cell):=by rfl)(hi:X.N[i]? = some x:=by rfl)(hf:X.fn x=true:=by rfl)(hd:(x==("__debug__":Str))=false:=by decide)(hc:(x==("__classdict__":Str))=false:=by decide):Ln X i x:=mkC hi (cz c j hj) hf hd hc
theorem dQ(c:lQ X.env.scope tb=true)(j:Nat)(hj:tb[j]? = some (x,.globalImplicit):=by rfl):Gl X x:=cz c j hj
theorem di{m:Nat}{A:Type}{arg:A->List D}{Pre:A->Prop}{res:A->T}(F:∃f fd ps,g9 X.prog X.w X.K X.mg X.base ou k f fd ps (UG X.K CL n arg Pre res)/\X.mg x=some (.ref f)/\PySem.W.keepIn X.K (.ref f)=true/\Binds X.K fd ps [])(r:dW m X.A)(h:k<=m:=by decide):Fc X CL x k n arg Pre res:=⟨F,r.mono h⟩
section
variable{D:eL}
def TEm(X:Cx)(CL:Str->Addr)(b:Bx)(e:Expr)(δ:List (Option T))(t:T)(δ':List (Option T)):Prop:=
 ∀(H Z:Hp) (σ:L2.St) (ts:List T) (vs:List V) (Q:VK),bH X.K CL b H Z δ σ ts vs->(∀v H' Z',aA Z Z'->bH X.K CL b H' Z' δ' σ (t::ts) (v::vs)->Q v H')->DZ X e σ H Q
theorem OX(h:TEm X CL b e δ t δ1)(k:D.nx δ1)(hs:swapsWith e none pos.line X.env=pure false:=by rfl):Tw X CL b (.Expr e pos) δ D:=fun H Z σ ts vs E S M=>qz (Ii cN hs) (h H Z σ ts vs _ S fun v H1 Z1 z1 S1=>M.nx δ1 σ H1 Z1 z1 S1.pop k)
theorem U5(h:TEm X CL b e δ t δ1)(k:dZ X CL b gf δ1 D)(hs:swapsWith e none pos.line X.env=pure false:=by rfl):dZ X CL b (.Expr e pos::gf) δ D:=cX (OX h k hs)
end
theorem F9{c cv:Value}(l:List Value)(h:TriplesOk l)(e:codeAmong pos (l++[rawInt pos'.line,rawInt pos'.col,c])=some cv):codeAmong pos l=some cv\/cv=c:=by
 fun_induction TriplesOk l with
 | case1=>
   simp only[anm,codeAmong,rawInt]at e
   split at e
   . exact .inr (amA e).symm
   . cases e
 | case2 a t b u x rest ih=>
   simp only[am5,codeAmong]at e ⊢
   split at e
   . rename_i hc;rw[amx hc];exact .inl e
   . rename_i hc;rw[amq hc];exact ih h e
 | case3 l h1 h2=>exact h.elim
def Ga(f:Addr)(q:Str)(ps:Arguments)(body:Expr)(sc:Scope)(cl:List (Str×Addr))(c:Addr):Heap->Prop:=fun h=>
 ∃pm ctv,h.get? f=some (PySem.W.kla_obj "<lambda>" q ps body sc cl pm c ctv)
structure U6(X:Cx)(CL:Str->Addr)(x q:Str):Prop where
 code:∃c,X.env.code=.ref c/\PySem.W.CodeHd X.base c (CL x)
 blt:∃bm o,X.mg "__builtins__" = some (.ref bm)/\bm≠builtinsNs/\bm≠mainGlobals/\X.base.get? bm=some o/\o.cls=.type "module" /\ o.dict=some builtinsNs/\o.data=.plain
 qual:X.env.qual++"<lambda>" = q
 tab:D0 x=true/\CL x≠0/\KW x=q
variable{q:Str}{params:Arguments}{body:Expr}
theorem OY{Q:Value->Shared->Prop}(L:U6 X CL x q)(I:L2.Inv X pins σ H s)(ht:H (CL x)=some (.tabs q))(DN:∀y∈scope.names,y.2=.free->∃c,X.env.cells.lookup y.1=some c)
   (ahs:defaultsOf params X.env=([],[]))
   (k:∀f c H' s',L2.Inv X pins σ H' s'->aA H H'->H' f=some (.ext (Ga f q params body scope (cT X.env scope.names []) c))->H' c=some (.uA q)->(∀b o,H' b=some o->iL o=true->H b=some o)->Q (.ref f) s') :
   wpAny (model X.prog X.w) X.A (eval (.Lambda params body scope pos) X.env) Q X.xe s:=by
 obtain⟨c,hc,hd⟩:=L.code
 obtain⟨bm,ob,b1,b2,b3,b4,b5,b6,b7⟩:=L.blt
 obtain⟨ps,hP,tr,cs⟩:=I.cQ _ _ ht
 have yr:∀{b:Addr} {o:Obj},X.base.get? b=some o->b≠CL x:=fun {b o} e z=>by
   have:=(I.bs _ _ e).2
   rw[z,ht]at this;cases this
 have hg:s.heap.Ns mainGlobals X.mg:=by
   obtain⟨o,es,ep,e,r⟩:=I.mod.glob
   exact⟨o,es,ep,I.bk _ _ e,r⟩
 have hgP:mainGlobals≠CL x:=by
   obtain⟨o,_,_,e,_⟩:=I.mod.glob
   exact yr e
 have hb:s.heap.BuiltinsAt X.mg (CL x):=⟨bm,ob,b1,b2,b3,yr b4,I.bk _ _ b4,b5,b6,b7⟩
 refine PySem.W.kla_eval ahs ?_
 rw[L.qual]
 cases hf:codeAmong pos ps.toList with
 | none=>
   refine PySem.W.kla_makeFunction (lA DN) I.ok.glob hg hc (hd.keeps I.bk) hP tr hf hgP hb fun c' ctv h' tk hx hge iS aht htb=>?_
   obtain⟨c₂,oc,vs,t,e2,hoc,hdc,hv⟩:=aht
   cases e2
   have hn:H c'=none:=I.cQ.fresh hge
   have neP:∀{b:Addr},H b=none->b≠CL x:=fun {b} e z=>by rw[z,ht]at e;cases e
   have ne':∀{b:Addr} {o:Obj},s.heap.get? b=some o->b≠c':=fun {b o} e=>amV (amX (amC e) hge)
   have cP:CL x≠c':=ne' hP
   have un:Un X.fs [] H (upd H c' (.uA q)) s.heap h':=by
     refine⟨fun b o e n _ _=>hx b o (neP n) e,fun b o e n _ _=>⟨o.slots,hx b o (neP n) e⟩,fun b o e n _=>by rw[ao (ne' e)];exact n,fun b o e _=>?_,fun b xs e=>by rw[ao (aM e hn)];exact e,fun b o u e=>by rw[ao (aM e hn)];exact e,fun b ps e=>⟨#[],by rw[ao (aM e hn),e];simp⟩⟩
     by_cases z:b=CL x
     . exact⟨_,z▸htb⟩
     . exact⟨o,hx b o z e⟩
   have cQ:qF X.prog X.w (upd H c' (.uA q)) h':=fun b u e=>by
     by_cases z:b=c'
     . subst z
       rw[az]at e
       cases e
       exact⟨oc,vs,t,hoc,hdc,hv⟩
     . rw[ao z]at e
       by_cases z2:b=CL x
       . subst z2
         rw[ht]at e
         cases e
         refine⟨_,htb,?_,fun pos' cv ec=>?_⟩
         . rw[aoN]
           exact TriplesOk_snoc _ _ _ _ tr
         . rw[aoN]at ec
           rcases F9 _ tr ec with q1|q1
           . obtain⟨c3,e3,e4⟩:=cs pos' cv q1
             exact⟨c3,e3,by rw[ao (aM e4 hn)];exact e4⟩
           . exact⟨c',q1,az⟩
       . refine(I.cQ b u e).v7 (fun d v zQ r=>hx d v ?_ r) (fun d r=>by rw[ao (aM r hn)];exact r) (fun d xs r=>by rw[ao (aM r hn)];exact r) fun d z r=>by rw[ao (aM r hn)];exact r
         rintro rfl
         rcases zQ with w|w
         . exact z2 w.symm
         . rw[ht]at w;cases w
   have I1:=I.un (t':=tk) un cQ
   have f1:(upd H c' (.uA q)) h'.objs.size=none:=cQ.fresh (aml _)
   have I2:=I1.laid (t':=tk) (a:=h'.objs.size) (o:=.ext (Ga h'.objs.size q params body scope (cT X.env scope.names []) c')) (h':=h'.push (PySem.W.kla_obj "<lambda>" q params body scope (cT X.env scope.names []) ((X.mg "__name__").getD .none) c' ctv))
     (fun b u e=>amo _ e) (aml _) ⟨⟨_,_,amD _ rfl⟩,⟨_,amD _ rfl⟩,fun h1 h2 ⟨pm,ct,e⟩ kk=>⟨pm,ct,kk _ e⟩⟩
   refine k _ c' _ _ I2 (fun b o e=>?_) az ?_ fun b o e im=>?_
   . have z1:=aM e hn
     have z2:b≠h'.objs.size:=fun z=>by
       rw[← z,ao z1,e]at f1;cases f1
     rw[ao z2,ao z1];exact e
   . rw[ao (amV iS),az]
   . by_cases z2:b=h'.objs.size
     . subst z2;rw[az]at e;cases e;cases im
     . rw[ao z2]at e
       by_cases z1:b=c'
       . subst z1;rw[az]at e;cases e;cases im
       . rw[ao z1]at e;exact e
 | some cv=>
   obtain⟨c',rfl,Kp⟩:=cs pos cv hf
   refine PySem.W.kla_makeFunctionHit (lA DN) I.ok.glob hg hc (hd.keeps I.bk) hP tr hf hb fun ctv h' tk hk hsz=>?_
   have I2:=I.laid (t':=tk) (a:=h'.objs.size) (o:=.ext (Ga h'.objs.size q params body scope (cT X.env scope.names []) c')) (h':=h'.push (PySem.W.kla_obj "<lambda>" q params body scope (cT X.env scope.names []) ((X.mg "__name__").getD .none) c' ctv))
     (fun b u e=>amo _ (hk _ _ e)) hsz ⟨⟨_,_,amD _ rfl⟩,⟨_,amD _ rfl⟩,fun h1 h2 ⟨pm,ct,e⟩ kk=>⟨pm,ct,kk _ e⟩⟩
   have f1:H h'.objs.size=none:=I.cQ.fresh hsz
   refine k _ c' _ _ I2 (fun b o e=>by rw[ao (aM e f1)];exact e) az (by rw[ao (aM Kp f1)];exact Kp) fun b o e im=>?_
   by_cases z2:b=h'.objs.size
   . subst z2;rw[az]at e;cases e;cases im
   . rw[ao z2]at e;exact e
theorem U7{sp:Sp}(F:kh K x qual st f fd)(S:aP N ps (ak st))(len:∀vs H Q E,sp vs H Q E->vs.length=ps.length)
   (DV:∀(gB:Value) (A:Around) (outer:List Env) (s:Shared) (H:Hp) (vs:List V) (Q:VK) (E:XK),fd.code=gB->dW k (A.deeper (envOfC qual (ak st) s.heap.objs.size f gB))->sp vs H Q E →
     ∃t,E6 (n9 ou P w K mg base N qual (ak st) f gB A outer s H E).E7 (ez st) t/\t {nx:=fun _ H'=>Q .non H',rt:=Q} (L2.start N vs) H):g9 P w K mg base ou (k+1) f fd ps sp:=by
 obtain⟨oc,od,kV,doc,pm,an,gB,ct,KC,rfl,lk,iO⟩:=F.ex
 refine X4 lk iO S len fun A outer s H vs Q E hr E9=>?_
 obtain⟨t,h,q⟩:=DV gB A outer s H vs Q E rfl hr E9
 exact⟨t,h.E7,q⟩
theorem OZ{A:Type}{arg:A->List D}{Pre:A->Prop}{res:A->T}(F:kh K x qual st f fd)(S:aP N ps (ak st))
   (hb:∀(gB:Value) (Ar:Around) (outer:List Env) (s:Shared) (H:Hp) (E:XK) (b:Bx) (a:A),fd.code=gB->dW k (Ar.deeper (envOfC qual (ak st) s.heap.objs.size f gB))->Pre a →
     dZ (n9 ou P w K mg base N qual (ak st) f gB Ar outer s H E).E7 CL b (ez st) (entry N (arg a)) {nx:=fun _=>res a=.sh .non,rt:=fun t _=>t=res a}) :
   g9 P w K mg base ou (k+1) f fd ps (UG K CL ps.length arg Pre res):=by
 refine U7 F S (fun vs H Q E h=>?_) (fun gB Ar outer s H vs Q E iO hr h=>?_)
 . obtain⟨W,a,_,_,r,hl,_⟩:=h
   rw[← r.length];exact hl
 . obtain⟨W,a,wh,tp,r,hl,hp,tb,kk⟩:=h
   refine⟨_,M3,hb gB Ar outer s H E ⟨H,W⟩ a iO hr hp H W _ [] [] _ ⟨⟨[],[],?_,.nil,ang,fun a ha=>by cases ha⟩,.refl _,.refl _,wh,fun a o q z=>?_,tp,tb⟩ ⟨fun δ' σ' H' Z' s' S' e=>?_,fun t v H' Z' δ' σ' s' S' e=>?_,fun _ _ _ _ _ _ e=>e.elim,fun _ _ _ _ _ _ e=>e.elim⟩⟩
   . unfold entry L2.start
     rw[← r.length]
     exact iR _ r
   . have q':W a=some o:=q
     have z':W a=none:=z
     rw[q']at z';cases z'
   . exact kk .non H' Z' [] S'.bh S'.zz S'.zh S'.new S'.tp (by rw[show res a=.sh .non from e];exact .sh .non) ang fun a ha=>by cases ha
   . have e':t=res a:=e
     subst e'
     obtain⟨fp,gp,_,r',nd,own⟩:=S'.rep
     cases r' with
     | @cons _ _ _ _ f1 f2 r1 r2=>
       have h1:=(amK.mp nd).2.1
       exact kk v H' Z' f1 S'.bh S'.zz S'.zh S'.new S'.tp r1 (amK.mp h1).1 fun a ha=>own a (amc _ (amk _ ha))
def yx(mg:Str->Option Value)(base:Heap):Prop:=∃bm o,mg "__builtins__" = some (.ref bm)/\bm≠builtinsNs/\bm≠mainGlobals/\base.get? bm=some o/\o.cls=.type "module" /\ o.dict=some builtinsNs/\o.data=.plain
theorem ahu{CX:Tv}{c:Addr}{gB:Value}{outer:List Env}{E:XK}{tx:Str}
   (bl:yx mg base) (kb:K.In base) (hc:fd.code=gB) (hf:fd.code=.ref c) (hd:PySem.W.codeHdIn K c (CL tx)=true) (h0:CL tx≠0) (hq:KW tx=q:=by decide +kernel) (ht:D0 tx=true:=by decide +kernel) (hn:qual++".<locals>." ++ "<lambda>" = q:=by decide +kernel) :
   U6 (n9 CX P w K mg base N qual scope f gB A outer s H E).E7 CL tx q:=
 ⟨⟨c,hc.symm.trans hf,PySem.W.codeHd_of_K kb hd⟩,bl,hn,ht,h0,hq⟩
def spT(K:PySem.W.Frag)(ts:List (Addr×Str)){A:Type}(n:Nat)(arg:A->List D)(Pre:A->Prop)(res:A->T):Sp:=fun vs H Q _=>
 ∃(W:Hp) (a:A),aA W H/\(∀c o,H c=some o->iL o=true->W c=some o)/\ay K (fun _=>0) W (arg a) vs/\(arg a).length=n/\Pre a/\(∀p∈ts,W p.1=some (.tabs p.2)) ∧
   ∀v H' W' fp,aA H H'->aA W W'->aA W' H'->(∀c o,W' c=some o->W c=none->H c=none)->(∀c o,H' c=some o->iL o=true->W' c=some o) →
     bB K (fun _=>0) H' W' (res a) v fp->fp.Nodup->(∀c∈fp,W' c=none/\H c=none)->Q v H'
theorem U8{ts:List (Addr×Str)}{arg:List Int->List D}{pre:List Int->Prop}{res:List Int->T}(ha:∀a,arg a=[.lst (a.map .int)])(hr:∀a,res a=.sh (.bl true))(h0:∀x,D0 x=true->CL x≠0->(CL x,KW x)∈ts) :
   ∀(vs:List V) (H:Hp) (Q:VK) (E:XK),spT K ts 1 arg pre res vs H Q E->UG K CL 1 arg pre res vs H Q E:=by
 rintro vs H Q E ⟨W,a,h1,h2,h3,h4,h5,h6,k⟩
 have aaB:∀{l:List Int} {us:List V},ay K (fun _=>0) W (l.map .int) us->ay K CL W (l.map .int) us:=by
   intro l
   induction l with
   | nil=>intro us r;cases r;exact .nil
   | cons i l ih=>
     intro us r
     cases r with
     | cons r t=>cases r;exact .cons (.int i) (ih t)
 refine⟨W,a,h1,h2,?_,h4,h5,fun x hx e=>h6 _ (h0 x hx e),fun v H' W' fp a1 a2 a3 a4 a5 r nd own=>k v H' W' fp a1 a2 a3 a4 a5 ?_ nd own⟩
 . rw[ha]at h3 ⊢
   cases h3 with
   | cons r t=>
     cases t
     cases r with
     | lst q rr=>exact .cons (.lst q (aaB rr)) .nil
 . rw[hr]at r ⊢
   cases r with
   | sh r=>cases r;exact .sh (.bl _)
theorem U9{ts:List (Addr×Str)}{arg:List Int->List D}{pre:List Int->Prop}{res:List Int->T}{ns:List Int}(ha:arg ns=[.lst (ns.map D.int)])(hp:pre ns)(hr:res ns=.sh (.bl true))(hS:nV K H a (ns.map V.int))(ht:∀p∈ts,H p.1=some (.tabs p.2)) :
   spT K ts 1 arg pre res [.ref a] H (fun v H'=>v=.bl true/\∀p∈ts,H' p.1=some (.tabs p.2)) fun _ _ _=>False:=
 ⟨H,ns,.refl _,fun _ _ q _=>q,by rw[ha];exact .cons (.lst hS (D7 ns)) .nil,by rw[ha];rfl,hp,ht,fun v H' W' fp hh _ _ _ _ r _ _=>by
   refine⟨?_,fun p hp=>hh _ _ (ht p hp)⟩
   rw[hr]at r
   cases r with
   | sh r=>exact r.sc rfl⟩
theorem lT:∀{ts:List (Addr×Str)} {b:Addr} {q:Str},ts.lookup b=some q->(b,q)∈ts
 | [],_,_,e=>by cases e
 | (c,x)::r,b,q,e=>by
   rw[amP]at e
   cases hb:b==c with
   | true=>rw[hb]at e;cases e;rw[eq_of_beq hb];exact .head _
   | false=>rw[hb]at e;exact .tail _ (lT e)
theorem Lh{mb:Str->Option Value}{fa:Addr}{sp:Sp}{s₁:Shared}{vs:List Value}{ns:List Int}{ts:List (Addr×Str)}
   (KX:K.In s₁.heap) (hns:s₁.heap.Ns mainGlobals mg) (hb:s₁.heap.Ns builtinsNs mb) (hbb:∀x:Str,x≠"__name__"->mb x=bootBuiltins x) (ahv:s₁.heap.NoLimit) (hg:s₁.gens=#[]) (hbl:yx mg s₁.heap)
   (ha:s₁.heap.get? a=some {cls:=.type "list",data:=.seq vs.toArray}) (hi:IntsAre vs ns) (hl:ns.length<=sizeLine) (hr:dW k callerA)
   (hT:∀p∈ts,s₁.heap.get? p.1=some (PySem.W.tabObj #[])/\ts.lookup p.1=some p.2/\K.lookup p.1=none/\∃c,PySem.W.CodeHd s₁.heap c p.1)
   (F:∀base:Heap,K.In base->base.Ns mainGlobals mg->yx mg base->g9 P w K mg base ou k fa fd [x] sp) (Eh:∀(s:Shared) (u:Value),BindsTo s fd ⟨[u],[]⟩ [(x,u)])
   (E9:∀H:Hp,nV K H a (ns.map V.int)->(∀p∈ts,H p.1=some (.tabs p.2))->sp [.ref a] H (fun v H'=>v=.bl true/\∀p∈ts,H' p.1=some (.tabs p.2)) fun _ _ _=>False) :
   codeAny (model P w) callerA (.call (.ref fa) ⟨[.ref a],[]⟩) (fun r s'=>r=.ok (.ret (.bool true))/\OldK s₁.heap s'.heap/\s'.os=s₁.os/\AllBare s'.gens) s₁:=by
 have rv:=AA hi
 have ahw:=hi.length
 have aT:∀p∈ts,p.1≠a:=fun p hp z=>by
   have:=(hT p hp).1
   rw[z,ha]at this;cases this
 have core:∀H:Hp,(∀b,H b=none\/(∃o xs,b=a/\H b=some (.bP o (.lst xs)))\/∃p∈ts,b=p.1/\H b=some (.tabs p.2))->nV K H a (ns.map V.int)->(∀p∈ts,H p.1=some (.tabs p.2))->qF P w H s₁.heap->(H a≠none->K.lookup a=none) →
     codeAny (model P w) callerA (.call (.ref fa) ⟨[.ref a],[]⟩) (fun r s'=>r=.ok (.ret (.bool true))/\OldK s₁.heap s'.heap/\s'.os=s₁.os/\AllBare s'.gens) s₁:=by
   intro H hO hS hH cQ hK
   have noA:∀{b:Addr} {o:Obj},s₁.heap.get? b=some o->o≠{cls:=.type "list",data:=.seq vs.toArray}->o≠PySem.W.tabObj #[]->H b=none:=fun {b o} e d1 d2=>by
     rcases hO b with q|⟨_,_,z,_⟩|⟨p,hp,z,_⟩
     . exact q
     . rw[z,ha]at e;exact absurd (amA e).symm d1
     . rw[z,(hT p hp).1]at e;exact absurd (amA e).symm d2
   have BO:∀{b:Addr} {o:Obj},s₁.heap.get? b=some o->H b=none->(zP s₁.heap H).get? b=some o:=fun e n=>Nh e n
   have nsK:∀{b:Addr} {m:Str->Option Value},s₁.heap.Ns b m->(zP s₁.heap H).Ns b m:=fun {b m} ⟨o,es,ep,e,d,r⟩=>⟨o,es,ep,BO e (noA e (fun z=>by rw[z]at d;cases d) fun z=>by rw[z]at d;cases d),d,r⟩
   have hKb:K.In (zP s₁.heap H):=fun b o e=>BO (KX b o e) (by
     rcases hO b with q|⟨_,_,z,q⟩|⟨p,hp,z,_⟩
     . exact q
     . subst z
       rw[hK (by rw[q];simp)]at e;cases e
     . rw[z,(hT p hp).2.2.1]at e;cases e)
   have hM:Mod K mg (zP s₁.heap H):=⟨hKb,nsK hns,⟨mb,nsK hb,hbb⟩,let ⟨mc,h1,h2⟩:=ahv;⟨mc,nsK h1,h2⟩⟩
   have hBb:yx mg (zP s₁.heap H):=by
     obtain⟨bm,o,b1,b2,b3,b4,b5,b6,b7⟩:=hbl
     exact⟨bm,o,b1,b2,b3,BO b4 (noA b4 (fun z=>by rw[z]at b7;cases b7) fun z=>by rw[z]at b7;cases b7),b5,b6,b7⟩
   have e0:sq P w K mg (zP s₁.heap H) callerA [] s₁ H:=⟨rfl,hM,fun b o e=>T6 e,Nat.le_of_eq (Km _ _),trivial,fun b hb=>absurd (show b∈([]:List Addr) from hb) (by simp),cQ,.of_eq hg⟩
   refine aoS ((F _ hKb (nsK hns) hBb).run callerA [] s₁ H ⟨[.ref a],[]⟩ [.ref a] [.ref a] _ _ hr e0 (Eh s₁ (.ref a)) (.cons rfl .nil) (E9 H hS hH)) fun r s' h=>?_
   cases r with
   | error e=>exact h.elim
   | ok fl=>
     cases fl with
     | next=>exact False.elim h
     | brk=>exact False.elim h
     | cont=>exact False.elim h
     | ret u=>
       obtain⟨v,H',os,bare,un,aeu,r',q,qt⟩:=h
       subst q
       obtain rfl:u=Value.bool true:=r'
       have tabAt:∀p∈ts,∃ps:Array Value,s'.heap.get? p.1=some (PySem.W.tabObj ps):=fun p hp=>by
         obtain⟨ps,e,_⟩:=aeu _ _ (qt p hp)
         exact⟨ps,e⟩
       have keep:∀b o,s₁.heap.get? b=some o->(∀p∈ts,b≠p.1)->s'.heap.get? b=some o:=fun b o e nt=>by
         rcases hO b with q|⟨ob,xs,z,q⟩|⟨p,hp,z,_⟩
         . exact un.keep b o e q (by intro z;exact absurd (show b∈([]:List Addr) from z) (by simp)) (by simp)
         . have z2:=un.dM b ob _ q
           obtain⟨e1,_⟩:=cQ b _ q
           obtain⟨e2,_⟩:=aeu b _ z2
           rw[e]at e1;cases e1
           exact e2
         . exact absurd z (nt p hp)
       refine⟨rfl,⟨fun b o e=>?_,fun b o e=>?_⟩,os,bare⟩
       . by_cases nt:∀p∈ts,b≠p.1
         . exact .inl (keep b o e nt)
         . obtain⟨p,hp,rfl⟩:∃p∈ts,b=p.1:=Classical.byContradiction fun q=>nt fun p hp z=>q ⟨p,hp,z⟩
           obtain⟨h1,_,_,c,hc⟩:=hT p hp
           obtain⟨ps,e2⟩:=tabAt p hp
           rw[h1]at e;cases e
           exact .inr (.inl ⟨(hc.tab h1).isCodeTable,rfl,#[],ps,rfl,by rw[Array.empty_append];exact e2⟩)
       . by_cases nt:∀p∈ts,b≠p.1
         . exact⟨o,keep b o e nt⟩
         . obtain⟨p,hp,rfl⟩:∃p∈ts,b=p.1:=Classical.byContradiction fun q=>nt fun p hp z=>q ⟨p,hp,z⟩
           obtain⟨ps,e2⟩:=tabAt p hp
           exact⟨_,e2⟩
 have tok:∀{H:Hp} {b:Addr} {q:Str},ts.lookup b=some q->dw P w H s₁.heap b (.tabs q):=fun {H b q} e=>by
   obtain⟨h1,_⟩:=hT (b,q) (lT e)
   exact⟨#[],h1,trivial,fun pos cv z=>by simp[codeAmong]at z⟩
 cases hk:K.lookup a with
 | some o=>
   have e:=KX a o hk
   rw[ha]at e
   cases e
   refine core (fun b=>(ts.lookup b).map HO.tabs) (fun b=>?_) (.inr ⟨_,vs.toArray,_,hk,rfl,rfl,rfl,by rw[List.size_toArray,ahw];exact hl,by simpa using rv⟩) (fun p hp=>?_) (fun b u z=>?_) fun z=>?_
   . cases q:List.lookup b ts with
     | none=>left;rfl
     | some t=>right;right;exact⟨(b,t),lT q,rfl,rfl⟩
   . show(ts.lookup p.1).map HO.tabs=_
     rw[(hT p hp).2.1];rfl
   . have z':(ts.lookup b).map HO.tabs=some u:=z
     cases q:List.lookup b ts with
     | none=>rw[q]at z';cases z'
     | some t=>rw[q]at z';cases z';exact tok q
   . exfalso
     apply z
     show(ts.lookup a).map HO.tabs=none
     cases q:ts.lookup a with
     | none=>rfl
     | some t=>exact absurd rfl (aT (a,t) (lT q))
 | none=>
   refine core (fun b=>if b=a then some (.bP {cls:=.type "list",data:=.seq vs.toArray} (.lst (ns.map V.int))) else(ts.lookup b).map HO.tabs) (fun b=>?_) (.inl (.inr ⟨{cls:=.type "list",data:=.seq vs.toArray},amx rfl⟩)) (fun p hp=>?_) (fun b u z=>?_) fun _=>hk
   . by_cases hb:b=a
     . exact .inr (.inl ⟨_,_,hb,amx hb⟩)
     . cases q:List.lookup b ts with
       | none=>left;rw[amq hb];rfl
       | some t=>right;right;exact⟨(b,t),lT q,rfl,by rw[amq hb];rfl⟩
   . show(if p.1=a then _ else(ts.lookup p.1).map HO.tabs)=_
     rw[amq (aT p hp),(hT p hp).2.1];rfl
   . by_cases hb:b=a
     . have z':=(amx hb).symm.trans z
       cases z'
       subst hb
       exact⟨ha,by rw[al8];exact hl,vs,_,rv,ha⟩
     . have z':(ts.lookup b).map HO.tabs=some u:=(amq hb).symm.trans z
       cases q:List.lookup b ts with
       | none=>rw[q]at z';cases z'
       | some t=>rw[q]at z';cases z';exact tok q
theorem O1{l:PySem.W.OpenLaw}{q:Program}{loose:List Str}{XP:(Str->Option Value)->Heap->Prop}{YP:World->Heap->Prop}{d:DefRec}{K:Params->PySem.W.Frag}{sp:World->List (Addr×Str)->Sp}{T0:List Addr}
   (hn:l.most=some n) (XZ:n<=sizeLine) (hdf:d.params.defaults=[]) (hr:dW k callerA)
   (hY:∀(w:World) (h:Heap),YP w h->(K w.params).In h) (hT:∀(w:World) (h:Heap),YP w h->∀P∈T0,h.get? P=some (PySem.W.tabObj #[]))
   (F:∀(w:World) (mg:Str->Option Value) (fa:Addr) (h:Heap),(K w.params).In h->h.Ns mainGlobals mg->mg d.name=some (.ref fa) →
     ∃(fd:FuncData) (ts:List (Addr×Str)),(∀p∈ts,p.1∈T0/\ts.lookup p.1=some p.2/\(K w.params).lookup p.1=none/\∃c,PySem.W.CodeHd h c p.1)/\(∀(s:Shared) (u:Value),BindsTo s fd ⟨[u],[]⟩ [(x,u)]) ∧
       ∀base:Heap,(K w.params).In base->base.Ns mainGlobals mg->yx mg base->g9 l.prog w (K w.params) mg base ou k fa fd [x] (sp w ts))
   (E9:∀(w:World) (ts:List (Addr×Str)) (H:Hp) (a:Addr) (ns:List Int),ns.length<=n->nV (K w.params) H a (ns.map V.int)->(∀p∈ts,H p.1=some (.tabs p.2))->sp w ts [.ref a] H (fun v H'=>v=.bl true/\∀p∈ts,H' p.1=some (.tabs p.2)) fun _ _ _=>False) :
   PySem.W.WalkO q loose XP YP l.row.toRowW d [] (fun f vs=>PySem.call f vs):=by
 refine Att.DW hn hdf fun w s₀ s₁ mg mb fa o pm cd doc a vs ns G Y ho hd iO hmg ZQ hints hlen hg=>?_
 have KX:=hY w _ Y
 obtain⟨fd,ts,hts,hb,hF⟩:=F w mg fa _ KX G.T.g hmg
 obtain⟨bm,ob,b1,b2,b3,b4,b5,b6⟩:=G.T.bmain
 have hbG:bm≠mainGlobals:=fun q=>by
   obtain⟨o,es,ep,e,hd,_⟩:=G.T.g
   rw[q,e]at b3;cases b3;rw[hd]at b6;cases b6
 exact Lh KX G.T.g G.T.b G.T.builtins G.T.nolimit hg ⟨bm,ob,b1,b2,hbG,b3,b4,b5,b6⟩ ZQ hints (am9 hlen XZ) hr (fun p hp=>⟨hT w _ Y _ (hts p hp).1,(hts p hp).2⟩) hF hb fun H hS ht=>E9 w ts H a ns hlen hS ht
def ahx(y:Int):Value->Bool
 | .int i _=>i==y
 | _=>false
theorem O2:MtR X "list.index" (fun x xs H Q=>∃(p:Addr) (l:List Int) (y:Int) (j:Nat),x=.ref p/\xs=[.int y]/\nV X.K H p (l.map .int)/\l[j]? = some y/\(∀i,i<j->l[i]? ≠ some y)/\Q (.int (j:Int)) H):=by
 intro pins s σ H x xs v us Q I rx rs h
 obtain⟨p,l,y,j,rfl,rfl,hq,hj,sy,q⟩:=h
 cases rx
 obtain⟨u,rfl,ru⟩:=rs.one
 obtain⟨t,rfl⟩:=ru
 obtain⟨its,r,⟨⟨oc,od,oda,KC⟩,n,e,hc,hd,hs⟩,hz⟩:=I.list hq
 dsimp only at hc hd hs
 subst hc hd hs
 have hi:=intsAre_of r
 have at':∀{i:Nat} (hi:i<its.toArray.size),∃k t,its.toArray[i]=.int k t/\l[i]? = some k:=fun {i} iS=>by
   have ahy:i<its.length:=by simpa using iS
   have hl:i<l.length:=by have:=r.length;rw[al8]at this;omega
   obtain⟨u,e1,e2⟩:=r.get (i:=i) (x:=.int l[i]) (by rw[amg,al9 hl];rfl)
   obtain⟨t,rfl⟩:=e2
   refine⟨l[i],t,?_,al9 hl⟩
   rw[al9 ahy]at e1
   simpa using Option.some.inj e1
 have Fg:j<its.toArray.size:=by
   have h1:=(amf.mp hj).1
   have:=r.length
   rw[al8]at this
   simp;omega
 have hsz:its.toArray.size<=sizeLine:=by
   have:=r.length
   rw[amJ,← this];exact hz
 refine call_meets F.slot_list_index ⟨_,e,rfl⟩ F.entry_list_index (F.args_list_index_2 _ _) (SeqAt.list_indexAt p its.toArray n none KC (.int y t) (ahx y) j Fg (by rw[amE]at hsz;omega) ?hit fun m hm hmj=>?no) ⟨e,fun w hw=>?eqs,?_⟩
 case hit=>
   obtain⟨k,t',e1,e2⟩:=at' Fg
   rw[e1]
   rw[hj]at e2
   cases e2
   exact anM y
 case no=>
   obtain⟨k,t',e1,e2⟩:=at' hm
   rw[e1]
   exact anu.mpr fun z=>sy m hmj (by rw[e2,z])
 case eqs=>
   obtain⟨i,iS,rfl⟩:=Array.mem_iff_getElem.mp hw
   obtain⟨k,t',e1,e2⟩:=at' iS
   rw[e1]
   exact SeqAt.EqAt.int_int k t' y t
 exact⟨.int (j:Int),H,I.tok _,⟨_,rfl⟩,q⟩
variable{o:Expr}{apos:Pos}
theorem O4{l:List Int}{y:Int}(h1:cZ X CL b o δ (.lst (l.map .int)) δ1)(h2:cZ X CL b e δ1 (.int y) δ2)(hj:l[j]? = some y)(sy:∀i,i<j->l[i]? ≠ some y)
   (kg:attributeBase o "index" X.env (eval o X.env)=eval o X.env:=by rfl) (yc:((backTo pos (starEach [e] X.env)).all (fun x=>!x.1)&&(backToKw pos (keywordEach [] X.env)).all (fun x=>x.1.isSome)
     && decide (([e]:List Expr).length+([]:List Keyword).length+(if ([]:List Keyword).isEmpty then 0 else 1)<30))=true:=by rfl)
   (hline:(apos.endLine==pos.line)=true:=by rfl) (hs:starEach [e] X.env=(false,eval e X.env)::starEach [] X.env:=by exact bA rfl) (qS:(backTo pos (starEach [] X.env)).any (·.1)=false:=by rfl) :
   bO X CL b (.Call (.Attribute o "index" apos) [e] [] pos) δ (.sh (.int (j:Int))) δ2:=fun H Z σ ts vs Q S k=>
 bW (X6 (T:="list") (id:="list.index") F.plainAttrs_list F.slot_list_index F.type_list_index O2 cN (b8 cN dY hs) kg yc hline hs qS) (h1 H Z σ ts vs _ S fun v1 H1 Z1 z1 k1 S1 r1=>by
   cases r1 with
   | @lst a us _ hq rr=>
     have:=uO rr
     subst this
     refine⟨?_,h2 H1 Z1 σ ts vs _ S1 fun v2 H2 Z2 z2 k2 S2 r2=>?_⟩
     . exact .inl ⟨rfl,_,hq⟩
     . cases r2
       exact⟨a,l,y,j,rfl,rfl,k2.seq hq,hj,sy,k _ H2 Z2 (z1.trans z2) (k1.trans k2) (S2.push (.int _))⟩)
theorem Va(r:dW k A):A.depth<recursionLimit:=by
 have:=r.dp
 omega
theorem Ei:bootBuiltins "range" = some (.type "range"):=by decide +kernel
theorem Ej:j8 X (.type "range") (fun xs H Q=>∃n,xs=[.int n]/\∀r,H r=none->Q (.ref r) (upd H r (.Y3 0 n))):=by
 intro pins s σ H xs us Q I r h
 obtain⟨n,rfl,q⟩:=h
 obtain⟨u,rfl,ru⟩:=vals1 r
 obtain⟨t,rfl⟩:=ru
 exact call_range_1 ⟨.ref s.heap.objs.size,_,I.laid (t':=s.toks+1+1) (o:=.Y3 0 n) (fun b o e=>amo _ e) (aml _) ⟨_,_,_,amD _ rfl⟩,rfl,q _ (I.cQ.fresh (aml _))⟩
theorem AK:∀(l:List Value) (k:Nat),(∀j v,l[j]? = some v->∃t,v=Value.int ((k+j:Nat):Int) t)->Vals ((List.range' k l.length).map fun(i:Nat)=>V.int (i:Int)) l
 | [],_,_=>.nil
 | v::l,k,h=>by
   rw[am8,List.range'_succ,amB]
   refine .cons (h 0 v rfl) (AK l (k+1) fun j w e=>?_)
   obtain⟨t,ht⟩:=h (j+1) w (by simpa using e)
   exact⟨t,by rw[ht];congr 1;omega⟩
theorem Gb{acc:Array Value}(h:ItemsOf (fun i v=>∃t,v=Value.int (0+i*1) t) acc n):Vals ((List.range n).map fun(i:Nat)=>V.int (i:Int)) acc.toList:=by
 have:=AK acc.toList 0 fun j v e=>by
   rw[aog]at e
   obtain⟨t,ht⟩:=h.2 j v e
   exact⟨t,by rw[ht];congr 1;omega⟩
 rw[aoc,h.1]at this
 rw[List.range_eq_range']
 exact this
theorem BP(hc:X.calm=true):j8 X (.type "list") (fun xs H Q=>∃(p:Addr) (n:Nat),xs=[.ref p]/\H p=some (.Y3 0 (n:Int))/\n<=1000/\∀l,H l=none->Q (.ref l) (upd H l (.lst ((List.range n).map fun(i:Nat)=>V.int (i:Int))))):=by
 intro pins s σ H xs us Q I r h
 obtain⟨p,n,rfl,hp,hn,q⟩:=h
 obtain⟨u,rfl,ru⟩:=vals1 r
 cases ru
 obtain⟨t,u,v,e⟩:=I.cQ p _ hp
 refine call_list_range (n:=n) (I.ok.hd hc) e (small_one (by omega) (by omega) (by omega) (by omega)) (by rw[rangeSize_one];split<;>omega) (by omega) fun h' tk lS c' hk U0 items=>?_
 refine⟨.ref s.heap.objs.size,_,I.laid (t':=tk) (o:=.lst ((List.range n).map fun(i:Nat)=>V.int (i:Int))) hk (Nat.le_refl _) ⟨?_,lS.toList,c',Gb items,by simpa using U0⟩,rfl,q _ (I.cQ.fresh (Nat.le_refl _))⟩
 rw[al8,amv]
 exact anW (g7 hn)
theorem O5(g:Gx X)(hm:X.mg "list" = none)(hmr:X.mg "range" = none)(h:cZ X CL b e δ (.int (n:Int)) δ1)(hn:n<=1000)(hg:Gl X "list")(hgr:Gl X "range")(hs:starEach [e] X.env=(false,eval e X.env)::starEach [] X.env:=by exact bA rfl) :
   bO X CL b (.Call (.Name "list" pp) [.Call (.Name "range" pq) [e] [] pr] [] pos) δ (.lst ((((List.range n).map fun(i:Nat)=>(i:Int)).map D.int).map T.sh)) δ1:=fun H Z σ ts vs Q S k=>
 bW (iP (BP g.calm) hg hm dP (b8 (iP Ej hgr hmr Ei (b8 cN dY hs) (he:=hs)) dY (bA rfl)) (he:=bA rfl)) (h H Z σ ts vs _ S fun v H1 Z1 z1 k1 S1 r=>by
   cases r
   refine⟨_,rfl,fun r hr=>⟨r,n,rfl,az,hn,fun p hp=>?_⟩⟩
   have same:aA H1 (upd H1 r (.Y3 0 (n:Int))):=aA.upd hr
   obtain⟨Z',z',S2⟩:=S1.back (t:=.sh (.int 0)) (v:=.int 0) (fp:=[]) (W:=Z1) (W':=Z1) same (.refl _) (.refl _) (S1.zh.trans same) (fun a o q z=>by rw[q]at z;cases z) (fun a o q im=>by
     by_cases ha:a=r
     . subst ha;rw[az]at q;cases q;cases im
     . rw[ao ha]at q;exact S1.tp a o q im) (.sh (.int 0)) ang (fun a ha=>by cases ha) (.inl rfl)
   have ev:((List.range n).map fun(i:Nat)=>V.int (i:Int))=((List.range n).map fun(i:Nat)=>(i:Int)).map V.int:=by rw[amy];rfl
   rw[ev]
   obtain⟨c,S3⟩:=(bH.qI (ints_rep ((List.range n).map fun(i:Nat)=>(i:Int))) S2.pop).qX (g0:=[]) (by simp) hp
   exact k _ _ _ (z1.trans z') ((k1.trans same).trans c) S3)
def fu(ks:List Key):T:=.tup ((ks.map OV).map T.sh)
def iU(kvs:List (List Key×α))(k:List Key):Option α:=(kvs.find? fun kv=>decide (kv.1=k)).map (·.2)
theorem kr{p:List Key×α}{r:List (List Key×α)}{k:List Key}(e:p.1=k):iU (p::r) k=some p.2:=by simp[iU,an3,e]
theorem ku{p:List Key×α}{r:List (List Key×α)}{k:List Key}(e:¬ p.1=k):iU (p::r) k=iU r k:=by simp[iU,an3,e]
theorem FN.tr{b:Addr}{kvs:List (List Key×V)}{k:List Key}(e:Rd H a (.dT kvs))(eb:H b=some (.tup (k.map kV))):FN H a (.ref b) (ki kvs k):=.inr ⟨kvs,k,b,e,rfl,eb,rfl⟩
variable{d:D}
theorem Li{ks:List Key}(r:aO K CL H Z ((ks.map OV).map T.sh) us fp):us=ks.map kV:=by
 induction ks generalizing us fp with
 | nil=>cases r;rfl
 | cons k ks ih=>
   rw[amB,amB]at r
   cases r with
   | cons r rr=>
     cases r with
     | sh r=>rw[r.key,ih rr,amB]
theorem cj.length{kvs:List (List Key×D)}{gs:List (List Key×V)}(h:cj K CL Z kvs gs):kvs.length=gs.length:=
 cj.ind (P:=fun kvs gs=>kvs.length=gs.length) rfl (fun _ _ i=>congrArg (· + 1) i) h
theorem cj.keys{kvs:List (List Key×D)}{gs:List (List Key×V)}(h:cj K CL Z kvs gs):kvs.map (·.1)=gs.map (·.1):=
 cj.ind (P:=fun kvs gs=>kvs.map (·.1)=gs.map (·.1)) rfl (fun {x _ _ _ _} _ _ i=>congrArg (x::·) i) h
theorem cj.val{k:List Key}{kvs:List (List Key×D)}{gs:List (List Key×V)}(h:cj K CL Z kvs gs):(iU kvs k=none/\ki gs k=none)\/∃d v,iU kvs k=some d/\ki gs k=some v/\bu K CL Z d v:=
 cj.ind (P:=fun kvs gs=>(iU kvs k=none/\ki gs k=none)\/∃d v,iU kvs k=some d/\ki gs k=some v/\bu K CL Z d v) (.inl ⟨rfl,rfl⟩) (fun {x d v _ _} r _ i=>by
   by_cases e:x=k
   . exact .inr ⟨d,v,kr e,oF e,r⟩
   . rw[ku (p:=(x,d)) e,oG (p:=(x,v)) e]
     exact i) h
theorem cM.length{kvs:List (List Key×T)}{gs:List (List Key×V)}(h:cM K CL H Z kvs gs fp):kvs.length=gs.length:=
 cM.ind (P:=fun kvs gs _=>kvs.length=gs.length) rfl (fun _ _ i=>congrArg (· + 1) i) h
theorem cM.keys{kvs:List (List Key×T)}{gs:List (List Key×V)}(h:cM K CL H Z kvs gs fp):kvs.map (·.1)=gs.map (·.1):=
 cM.ind (P:=fun kvs gs _=>kvs.map (·.1)=gs.map (·.1)) rfl (fun {x _ _ _ _ _ _} _ _ i=>congrArg (x::·) i) h
theorem cM.snoc{k:List Key}{kvs:List (List Key×T)}{gs:List (List Key×V)}{ft:List Addr}(h:cM K CL H Z kvs gs fp)(q:bB K CL H Z t v ft):cM K CL H Z (kvs++[(k,t)]) (gs++[(k,v)]) (fp++(ft++[])):=
 cM.ind (P:=fun kvs gs fp=>cM K CL H Z (kvs++[(k,t)]) (gs++[(k,v)]) (fp++(ft++[]))) (by rw[anm,anm,anm];exact .cons q .nil) (fun r _ i=>by
   rw[amm]
   exact .cons r i) h
theorem bH.aaC{p:Addr}(S:bH K CL b H Z δ σ ts vs)(hp:H p=none):aA H (upd H p (.dT []))/\bH K CL b (upd H p (.dT [])) Z δ σ (.dct []::ts) (.ref p::vs):=by
 obtain⟨fp,gp,e,r,nd,k⟩:=S.rep
 have zp:Z p=none:=S.zh.free hp
 have sh:aA H (upd H p (.dT [])):=aA.upd hp
 have keep:∀a∈fp++gp,a≠p:=fun a ha=>by
   have:∃o,H a=some o:=by
     rcases amr.mp ha with h|h
     . exact e.there a h
     . exact r.there a h
   obtain⟨o,q⟩:=this
   exact aM q hp
 refine⟨sh,⟨⟨fp,[p]++gp,e.mono (.refl _) (fun a ha=>ao (keep a (amk _ ha))),.cons (.dct az .nil) (r.mono (.refl _) fun a ha=>ao (keep a (by simp[ha]))),?_,fun a ha=>?_⟩,S.bh.trans sh,S.zz,S.zh.trans sh,S.new,fun a o q i=>?_,S.tab⟩⟩
 . refine(ant (l₁:=fp) (l₂:=gp) (a:=p)).nodup_iff.mpr (ana.mpr ⟨fun h=>keep p h rfl,nd⟩)
 . rcases ami.mp ((ant (l₁:=fp) (l₂:=gp) (a:=p)).mem_iff.mp ha) with h|h
   . subst h;exact⟨zp,S.bh.free hp⟩
   . exact k a h
 . by_cases ha:a=p
   . subst ha;rw[az]at q;cases q;cases i
   . rw[ao ha]at q;exact S.tp a o q i
theorem bH.BQ{ks:List Key}(S:bH K CL b H Z δ σ (fu ks::ts) (v::vs)):∃a,v=.ref a/\H a=some (.tup (ks.map kV)):=by
 obtain⟨fp,gp,e,r,nd,k⟩:=S.rep
 cases r with
 | cons r _=>
   cases r with
   | tup hz rr=>exact⟨_,rfl,by rw[← Li rr];exact S.zh _ _ hz⟩
theorem bH.aaD{k:List Key}{kvs:List (List Key×T)}(S:bH K CL b H Z δ σ (t::ts) (v::vs))(hi:δ[i]? = some (some (.dct kvs)))(hk:k∉kvs.map (·.1)) :
   ∃a gs,σ[i]? = some (some (.ref a))/\H a=some (.dT gs)/\gs.length=kvs.length/\bH K CL b (upd H a (.dT (putK gs k v))) Z (δ.set i (some (.dct (kvs++[(k,t)])))) σ ts vs:=by
 obtain⟨fp,gp,e,r,nd,kk⟩:=S.rep
 obtain⟨v0,f1,f2,f3,hv,pN,rt,put,_⟩:=e.get hi
 subst pN
 cases rt with
 | @dct a gs _ g ha rs=>
   cases r with
   | @cons _ _ _ _ ft gr q1 q2=>
     have ne:∀c∈(f1++(g++f3))++(ft++gr),c≠a:=fun c hc e=>by
       subst e
       have hp:((f1++((c::g)++f3))++(ft++gr)).Perm (c::((f1++(g++f3))++(ft++gr))):=by
         rw[am5,← am5]
         exact(ant.append_right _)
       exact(ana.mp (hp.nodup_iff.mp nd)).1 hc
     have eg:putK gs k v=gs++[(k,v)]:=by
       unfold putK
       rw[sJ,amq]
       rcases hx:ki gs k with _|z
       . exact amu
       . exfalso
         refine hk ?_
         rw[rs.keys]
         unfold ki at hx
         cases hf:gs.find? fun kv=>decide (kv.1=k) with
         | none=>rw[hf]at hx;cases hx
         | some q=>
           have h1:=List.find?_some hf
           have h2:=an2 hf
           have:q.1=k:=amO h1
           rw[← this]
           exact List.mem_map_of_mem h2
     refine⟨a,gs,hv,ha,rs.length.symm,?_⟩
     rw[eg]
     have r1:bB K CL (upd H a (.dT (gs++[(k,v)]))) Z (.dct (kvs++[(k,t)])) (.ref a) (a::(g++(ft++[]))):=
       .dct az (cM.snoc (rs.mono (.refl _) fun c hc=>ao (ne c (by simp[hc]))) (q1.mono (.refl _) fun c hc=>ao (ne c (by simp[hc]))))
     have e2:=put (H':=upd H a (.dT (gs++[(k,v)]))) (.refl _) (fun c hc=>ao (ne c (by
       rcases amr.mp hc with h|h
       . simp[h]
       . simp[h]))) r1
     rw[gj hv]at e2
     have hp:((f1++((a::(g++(ft++[])))++f3))++gr).Perm ((f1++((a::g)++f3))++(ft++gr)):=by
       simp only[amQ,am5,amm]
       refine am1 f1 (List.Perm.cons a (am1 g ?_))
       rw[← amm,← amm]
       exact am2.append_right gr
     exact S.yk rfl kk (by simp) e2 (q2.mono (.refl _) fun c hc=>ao (ne c (by simp[hc]))) (hp.nodup_iff.mpr nd) fun c hc=>hp.mem_iff.mp hc
variable{d:L3.D}{ps:Pos}{kvs:List (List Key×L3.D)}{k:List Key}
theorem oR:bO X CL b (.Dict [] [] pos) δ (.dct []) δ:=fun H Z σ ts vs Q S kk=>bW NZ fun p hp=>by
 obtain⟨c,S1⟩:=S.aaC hp
 exact kk _ _ Z (.refl _) c S1
theorem wZ{kvs:List (List Key×T)}(k:List Key)(hu:X.A.units+64<cLine)(n:Vn X i x)(h:bO X CL b e δ t δ1)(h2:bO X CL b e2 δ1 (fu k) δ1)(h1:δ1[i]? = some (some (.dct kvs)))(hk:k∉kvs.map (·.1))(hl:kvs.length<=1000000)(kk:dZ X CL b gf (δ1.set i (some (.dct (kvs++[(k,t)])))) DD)
   (hs:swapsWith e (some (.Subscript (.Name x pp) e2 ps)) pos.line X.env=pure false:=by rfl) :
   dZ X CL b (.Assign [.Subscript (.Name x pp) e2 ps] e pos::gf) δ DD:=cX fun H Z σ ts vs E S M=>
 qz (IB (by omega) (g8 n.hi n.hv n.hd n.iO) cN cN hs) (h H Z σ ts vs _ S fun v H1 Z1 z1 k1 S1=>by
   obtain⟨v0,e0,_⟩:=S1.look h1
   refine⟨v0,e0,h2 H1 Z1 σ _ _ _ S1 fun v2 H2 Z2 z2 k2 S2=>?_⟩
   obtain⟨kb,rfl,hb⟩:=S2.BQ
   obtain⟨a,gs,ea,ha,hg,S3⟩:=S2.pop.aaD h1 hk
   rw[e0]at ea
   cases ea
   exact⟨a,_,rfl,KN.t ha hb (by rw[hg];exact aoU hl (by rw[amE];decide)),M.nx _ σ _ Z2 (z1.trans z2) S3 kk⟩)
theorem O6(k:List Key)(hu:X.A.units+64<cLine)(h1:cZ X CL b e1 δ (.dct kvs) δ1)(h2:bO X CL b e2 δ1 (fu k) δ2)(hk:iU kvs k=some d)(hs:KR e2:=by exact fun _ _=>rfl):cZ X CL b (.Subscript e1 e2 pos) δ d δ2:=fun H Z σ ts vs Q S kk=>
 bW (IA (by omega) cN cN hs) (h1 H Z σ ts vs _ S fun v H1 Z1 z1 k1 S1 r1=>h2 H1 Z1 σ ts vs _ S1 fun v2 H2 Z2 z2 k2 S2=>by
   obtain⟨kb,rfl,hb⟩:=S2.BQ
   cases r1 with
   | @dct a gs _ ha rr=>
     have rr':=rr.mono k2
     rcases rr'.val (k:=k) with⟨h0,_⟩|⟨d',v',h0,hv,rd⟩
     . rw[hk]at h0;cases h0
     . rw[hk]at h0;cases h0
       refine⟨a,v',rfl,?_,kk v' H2 Z2 (z1.trans z2) (k1.trans k2) S2.pop rd⟩
       rw[← hv]
       exact FN.tr (Rd.mono k2 ha) hb)
theorem gJ(k:List Key)(hu:X.A.units+64<cLine)(h1:bO X CL b e1 δ (.sh (.dct kvs)) δ1)(h2:bO X CL b e2 δ1 (fu k) δ2)(hk:iU kvs k=some d)(hs:KR e2:=by exact fun _ _=>rfl):bO X CL b (.Subscript e1 e2 pos) δ (.sh d) δ2:=fun H Z σ ts vs Q S kk=>
 bW (IA (by omega) cN cN hs) (h1 H Z σ ts vs _ S fun v H1 Z1 z1 k1 S1=>h2 H1 Z1 σ _ _ _ S1 fun v2 H2 Z2 z2 k2 S2=>by
   obtain⟨kb,rfl,hb⟩:=S2.BQ
   have r:=S2.pop.oO
   cases r with
   | @dct a gs _ ha rr=>
     rcases rr.val (k:=k) with⟨h0,_⟩|⟨d',v',h0,hv,rd⟩
     . rw[hk]at h0;cases h0
     . rw[hk]at h0;cases h0
       refine⟨a,v',rfl,?_,kk v' H2 Z2 (z1.trans z2) (k1.trans k2) (S2.pop.pop.push rd)⟩
       rw[← hv]
       exact FN.tr (Rd.mono S2.zh ha) hb)
theorem Lj:bootBuiltins "set" = some (.type "set"):=by decide +kernel
theorem Ek:∀{ns:List Int} {us:List Value},Vals (ns.map V.int) us->IntsAre us ns
 | [],_,.nil=>.nil
 | _::_,_,.cons ⟨t,e⟩ r=>by subst e;exact .cons _ t (Ek r)
def O7(prog:Program)(w:World)(a:Addr)(n:Nat)(h:Heap):Prop:=∃S,h.SetOf (intKind prog w) a S n
theorem El:j8 X (.builtin "len") (fun xs H Q=>∃(p:Addr) (n:Nat),xs=[.ref p]/\H p=some (.ext (O7 X.prog X.w p n))/\n<=1000/\Q (.int n) H):=by
 intro pins s σ H xs us Q I r h
 obtain⟨p,n,rfl,hp,hn,q⟩:=h
 obtain⟨u,rfl,ru⟩:=vals1 r
 cases ru
 obtain⟨⟨S,o,es,ep,t,e,ex,ed,_,_,_,hf,en⟩,_,_⟩:=I.cQ p _ hp
 exact call_len_set e ex ed hf (by rw[en];omega) ⟨.int n,H,I.tok _,⟨s.toks+1,by rw[en]⟩,q⟩
variable{e3:Expr}
theorem aev{op op':CmpOp}{f g:Int->Int->Bool}{i j k:Int}(ho:oq X (compareOp op) (Ug fun i j=>.bl (f i j)))(E5:oq X (compareOp op') (Ug fun i j=>.bl (g i j)))(h1:cZ X CL b e1 δ (.int i) δ1)(h2:cZ X CL b e2 δ1 (.int j) δ2)(h3:cZ X CL b e3 δ2 (.int k) δ2)(hm:lastMarks [op,op'] [e2,e3]=false) :
   qA X CL b (.Compare e1 [op,op'] [e2,e3] pos) δ (f i j&&g j k) δ2/\bO X CL b (.Compare e1 [op,op'] [e2,e3] pos) δ (.sh (.bl (f i j&&g j k))) δ2:=by
 constructor
 . intro H Z σ ts vs Q S q
   refine uE (Nx ho E5 cN cN cN hm) (h1 H Z σ ts vs _ S fun v1 H1 Z1 z1 k1 S1 r1=>h2 H1 Z1 σ ts vs _ S1 fun v2 H2 Z2 z2 k2 S2 r2=>?_)
   rw[r1.sc rfl,r2.sc rfl]
   refine⟨i,j,rfl,rfl,f i j,rfl,?_⟩
   cases hf:f i j with
   | false=>exact ite_ff ⟨false,rfl,by rw[hf]at q;exact q H2 Z2 (z1.trans z2) (k1.trans k2) S2⟩
   | true=>
     refine ite_tt (h3 H2 Z2 σ ts vs _ S2 fun v3 H3 Z3 z3 k3 S3 r3=>?_)
     rw[r3.sc rfl]
     exact⟨j,k,rfl,rfl,g j k,rfl,by rw[hf]at q;exact q H3 Z3 ((z1.trans z2).trans z3) ((k1.trans k2).trans k3) S3⟩
 . intro H Z σ ts vs Q S q
   refine bW (Nv ho E5 cN cN cN hm) (h1 H Z σ ts vs _ S fun v1 H1 Z1 z1 k1 S1 r1=>h2 H1 Z1 σ ts vs _ S1 fun v2 H2 Z2 z2 k2 S2 r2=>?_)
   rw[r1.sc rfl,r2.sc rfl]
   refine⟨i,j,rfl,rfl,f i j,rfl,?_⟩
   cases hf:f i j with
   | false=>exact ite_ff (by rw[hf]at q;exact q _ H2 Z2 (z1.trans z2) (k1.trans k2) (S2.push (.bl _)))
   | true=>
     refine ite_tt (h3 H2 Z2 σ ts vs _ S2 fun v3 H3 Z3 z3 k3 S3 r3=>?_)
     rw[r3.sc rfl]
     exact⟨j,k,rfl,rfl,by rw[hf]at q;exact q _ H3 Z3 ((z1.trans z2).trans z3) ((k1.trans k2).trans k3) (S3.push (.bl _))⟩
theorem aaE(h:cZ X CL b e1 δ .non δ1):qA X CL b (.Compare e1 [.Is] [.Constant .none kj p2] pos) δ true δ1/\bO X CL b (.Compare e1 [.Is] [.Constant .none kj p2] pos) δ (.sh (.bl true)) δ1:=by
 constructor
 . exact fun H Z σ ts vs Q S k=>uE (xW (Fp cN)) (h H Z σ ts vs _ S fun v H1 Z1 z1 k1 S1 r=>by
     cases r
     exact⟨_,rfl,by simpa using k H1 Z1 z1 k1 S1⟩)
 . exact fun H Z σ ts vs Q S k=>bW (Y9 (Fp cN)) (h H Z σ ts vs _ S fun v H1 Z1 z1 k1 S1 r=>by
     cases r
     exact by simpa using k _ H1 Z1 z1 k1 (S1.push (.bl true)))
theorem Em(h:cZ X CL b e1 δ .non δ1):qA X CL b (.Compare e1 [.IsNot] [.Constant .none kj p2] pos) δ false δ1:=
 fun H Z σ ts vs Q S k=>uE (xW (Ih cN)) (h H Z σ ts vs _ S fun v H1 Z1 z1 k1 S1 r=>by
     cases r
     exact⟨_,rfl,by simpa using k H1 Z1 z1 k1 S1⟩)
section
variable{D:eL}
theorem En:oq X (binaryOp .Add) (fun x y H Q=>∃a b ys,x=.ref a/\y=.ref b/\om X.K H a []/\om X.K H b ys/\Q (.ref b) H):=by
 intro pins s σ H x y v u Q I rx ry h
 obtain⟨a,b,ys,rfl,rfl,ha,hb,q⟩:=h
 cases rx
 cases ry
 obtain⟨its,r1,p1,_⟩:=I.tuple ha
 obtain⟨KD,r2,p2,_⟩:=I.tuple hb
 have e1:=r1.wR.mpr rfl
 subst e1
 obtain⟨⟨cls,dd,data,sl⟩,ho,hc,n,hd⟩:=id p1
 obtain⟨⟨agP,X5,data2,sl2⟩,M0,FE,n2,hd2⟩:=id p2
 simp only at hc hd FE hd2
 subst hc hd FE hd2
 exact concat_meets ⟨_,ho,rfl⟩ ⟨_,M0,rfl⟩ noFill_tuple_add seq_tuple_add PySem.F.slot_tuple_add ao1 (aoT _ _)
     (tuple_addW0 a b #[] KD.toArray n n2 dd X5 sl sl2 rfl) ⟨ho,M0,.ref b,H,I,rfl,q⟩
theorem O8(h1:bO X CL b e1 δ (.sh (.tup ds)) δ1)(h2:bO X CL b e2 δ1 (.sh (.tup q8)) δ2)(n2:q8≠[])(hz:ds.length+q8.length<=sizeLine) :
   bO X CL b (.BinOp e1 .Add e2 pos) δ (.sh (.tup (ds++q8))) δ2:=by
 cases ds with
 | cons d ds=>exact OW h1 h2 (List.cons_ne_nil _ _) n2 hz
 | nil=>
     intro H Z σ ts vs Q S k
     exact bW (xY En cN cN) (h1 H Z σ ts vs _ S fun v1 H1 Z1 z1 k1 S1=>h2 H1 Z1 σ _ _ _ S1 fun v2 H2 Z2 z2 k2 S2=>by
       have r2:=S2.oO
       have r1:=S2.pop.oO
       cases r1 with
       | tup Ow Ea=>
         cases Ea
         have r2':=r2
         cases r2 with
         | tup UO Fe=>exact⟨_,_,_,rfl,rfl,aA.wV S2.zh Ow,aA.wV S2.zh UO,k _ _ Z2 (z1.trans z2) (k1.trans k2) (S2.pop.pop.push r2')⟩)
theorem Vb(h:cZ X CL b e1 δ (.tup ds) δ1):qA X CL b (.Compare e1 [.Is] [.Constant .none kj p2] pos) δ false δ1:=fun H Z σ ts vs Q S k=>
 uE (xW (Fp cN)) (h H Z σ ts vs _ S fun v H1 Z1 z1 k1 S1 r=>by
     cases r with
     | tup hq rr=>exact⟨_,rfl,by simpa using k H1 Z1 z1 k1 S1⟩)
end
section
variable{D:eL}
theorem lU(h1:bO X CL b e1 δ (.sh (.tup ds)) δ1)(h2:bO X CL b e2 δ1 (.sh (.tup q8)) δ2)(hz:ds.length+q8.length<=sizeLine) :
   bO X CL b (.BinOp e1 .Add e2 pos) δ (.sh (.tup (ds++q8))) δ2:=by
 cases q8 with
 | cons d q8=>exact O8 h1 h2 (List.cons_ne_nil _ _) hz
 | nil=>
   rw[amQ]
   cases ds with
   | cons d ds=>
     intro H Z σ ts vs Q S k
     exact bW (xY Iu cN cN) (h1 H Z σ ts vs _ S fun v1 H1 Z1 z1 k1 S1=>h2 H1 Z1 σ _ _ _ S1 fun v2 H2 Z2 z2 k2 S2=>by
       have r2:=S2.oO
       have r1:=S2.pop.oO
       have KZ:=r1
       cases r2 with
       | tup UO Fe=>
         cases Fe
         cases r1 with
         | tup Ow Ea=>
           have e1:=Ea.length
           refine⟨_,_,_,_,rfl,rfl,aA.wV S2.zh Ow,aA.wV S2.zh UO,(fun z=>by rw[z]at e1;cases e1),by rw[← e1];exact hz,fun _=>k _ _ Z2 (z1.trans z2) (k1.trans k2) (S2.pop.pop.push KZ),fun z=>absurd rfl z⟩)
   | nil=>
     intro H Z σ ts vs Q S k
     exact bW (xY En cN cN) (h1 H Z σ ts vs _ S fun v1 H1 Z1 z1 k1 S1=>h2 H1 Z1 σ _ _ _ S1 fun v2 H2 Z2 z2 k2 S2=>by
       have r2:=S2.oO
       have r1:=S2.pop.oO
       cases r1 with
       | tup Ow Ea=>
         cases Ea
         have r2':=r2
         cases r2 with
         | tup UO Fe=>exact⟨_,_,_,rfl,rfl,aA.wV S2.zh Ow,aA.wV S2.zh UO,k _ _ Z2 (z1.trans z2) (k1.trans k2) (S2.pop.pop.push r2')⟩)
end
inductive AO where
 | ix (j:Nat)|fld (f:Str)|key (k:List Key)
def Lk{α:Type}(k:List Key)(t:α):List (List Key×α)->List (List Key×α)
 | []=>[]
 | (x,u)::r=>if x=k then(x,t)::r else(x,u)::Lk k t r
def T.core:T->T
 | .pin _ t=>t
 | t=>t
def T.Gd:T->T->T
 | .pin y _,u=>.pin y u
 | _,u=>u
def T.Vc:AO->T->Option T
 | .ix j,.lst ts=>ts[j]?
 | .ix j,.tup ts=>ts[j]?
 | .fld f,.ins _ fs=>fs.lookup f
 | .key k,.dct kvs=>iU kvs k
 | _,_=>none
def T.O9:AO->T->T->T
 | .ix j,.lst ts,u=>.lst (ts.set j u)
 | .ix j,.tup ts,u=>.tup (ts.set j u)
 | .fld f,.ins c fs,u=>.ins c (oi f u fs)
 | .key k,.dct kvs,u=>.dct (Lk k u kvs)
 | _,t,_=>t
def T.zW:List AO->T->Option T
 | [],t=>some t.core
 | s::p,t=>(t.core.Vc s).bind (T.zW p)
def T.yy:List AO->T->T->T
 | [],u,t=>t.Gd u
 | s::p,u,t=>match t.core.Vc s with
   | some k=>t.Gd (t.core.O9 s (T.yy p u k))
   | none=>t
def Vd(H:Hp)(v:V):AO->V->Prop
 | .ix j,w=>∃a us,v=.ref a/\(H a=some (.lst us)\/H a=some (.tup us))/\us[j]? = some w
 | .fld f,w=>∃a C dx gs,v=.ref a/\H a=some (.ins C dx gs)/\gs.lookup f=some w
 | .key k,w=>∃a gs,v=.ref a/\H a=some (.dT gs)/\ki gs k=some w
def DJ(H:Hp):V->List AO->V->Prop
 | v,[],w=>v=w
 | v,s::p,w=>∃u,Vd H v s u/\DJ H u p w
theorem Vd.mono(e:aA H H'){w:V}{s:AO}(h:Vd H v s w):Vd H' v s w:=by
 cases s with
 | ix j=>obtain⟨a,us,h1,h2,h3⟩:=h;exact⟨a,us,h1,h2.imp (e _ _) (e _ _),h3⟩
 | fld f=>obtain⟨a,C,dx,gs,h1,h2,h3⟩:=h;exact⟨a,C,dx,gs,h1,e _ _ h2,h3⟩
 | key k=>obtain⟨a,gs,h1,h2,h3⟩:=h;exact⟨a,gs,h1,e _ _ h2,h3⟩
theorem Vd.inj{w w':V}{s:AO}(h:Vd H v s w)(q:Vd H v s w'):w=w':=by
 cases s with
 | ix j=>
   obtain⟨a,us,h1,h2,h3⟩:=h
   obtain⟨a',Yr,q1,q2,q3⟩:=q
   subst h1
   cases q1
   have e:us=Yr:=by
     rcases h2 with h2|h2<;>rcases q2 with q2|q2<;>rw[h2]at q2<;>cases q2<;>rfl
   subst e
   rw[h3]at q3
   exact amA q3
 | fld f=>
   obtain⟨a,C,dx,gs,h1,h2,h3⟩:=h
   obtain⟨a',C',dx',gs',q1,q2,q3⟩:=q
   subst h1
   cases q1
   rw[h2]at q2
   cases q2
   rw[h3]at q3
   exact amA q3
 | key k=>
   obtain⟨a,gs,h1,h2,h3⟩:=h
   obtain⟨a',gs',q1,q2,q3⟩:=q
   subst h1
   cases q1
   rw[h2]at q2
   cases q2
   rw[h3]at q3
   exact amA q3
theorem DJ.mono{H H':Hp}(e:aA H H'):∀{p:List AO} {v w:V},DJ H v p w->DJ H' v p w
 | [],_,_,h=>h
 | _::_,_,_,⟨u,h,q⟩=>⟨u,h.mono e,DJ.mono e q⟩
theorem DJ.inj{H:Hp}:∀{p:List AO} {v w w':V},DJ H v p w->DJ H v p w'->w=w'
 | [],_,_,_,h,q=>h.symm.trans q
 | _::_,_,_,_,⟨_,h1,h2⟩,⟨_,q1,q2⟩=>by
   have:=h1.inj q1
   subst this
   exact DJ.inj h2 q2
theorem DJ.snoc{H:Hp}{s:AO}:∀{p:List AO} {v w z:V},DJ H v p w->Vd H w s z->DJ H v (p++[s]) z
 | [],_,_,z,h,q=>by
   have h':_=_:=h
   subst h'
   exact⟨z,q,rfl⟩
 | _::_,_,_,_,⟨u,h1,h2⟩,q=>⟨u,h1,DJ.snoc h2 q⟩
variable{t0:T}{v0 w:V}{p:List AO}
theorem bB.Pa(h:bB K CL H Z t v fp):bB K CL H Z t.core v fp/\∀{H' Z':Hp} {u:T} {g:List Addr},bB K CL H' Z' u v g->bB K CL H' Z' (t.Gd u) v g:=by
 cases h with
 | pin r=>exact⟨r,fun q=>.pin q⟩
 | sh r=>exact⟨.sh r,fun q=>q⟩
 | tup r q=>exact⟨.tup r q,fun q=>q⟩
 | lst r q=>exact⟨.lst r q,fun q=>q⟩
 | ins r q=>exact⟨.ins r q,fun q=>q⟩
 | rX r q=>exact⟨.rX r q,fun q=>q⟩
 | dct r q=>exact⟨.dct r q,fun q=>q⟩
 | gF r q p=>exact⟨.gF r q p,fun q=>q⟩
theorem c9.at{f:Str}:∀(fs:List (Str×T)) {gs:List (Str×V)} {fp:List Addr},c9 K CL H Z fs gs fp->fs.lookup f=some t->∃w f1 f2 f3,gs.lookup f=some w/\fp=f1++(f2++f3)/\bB K CL H Z t w f2 ∧
   ∀{H':Hp} {t':T} {g:List Addr},(∀a∈f1++f3,H' a=H a)->bB K CL H' Z t' w g->c9 K CL H' Z (oi f t' fs) gs (f1++(g++f3)):=by
 intro fs
 induction fs with
 | nil=>intro gs fp h e;cases e
 | cons p fs ih=>
   obtain⟨x,t0⟩:=p
   intro gs fp h e
   cases h with
   | @cons _ _ v _ vs f0 g0 r rs=>
     rw[amP]at e
     cases hx:f==x with
     | true=>
       rw[hx]at e
       cases e
       have hxe:x=f:=(aoY.mp hx).symm
       refine⟨v,[],f0,g0,by rw[amP,hx],rfl,r,fun {H' t' g} kk r'=>?_⟩
       rw[oi,amx hxe]
       exact c9.cons (fp:=g) (gp:=g0) r' (rs.mono (.refl _) fun a ha=>kk a (by simpa using ha))
     | false=>
       rw[hx]at e
       obtain⟨w,f1,f2,f3,h1,h2,h3,h4⟩:=ih rs e
       subst h2
       refine⟨w,f0++f1,f2,f3,by rw[amP,hx];exact h1,by rw[amm],h3,fun {H' t' g} kk r'=>?_⟩
       rw[oi,amq (fun z=>by rw[z,anM]at hx;cases hx),amm]
       exact .cons (r.mono (.refl _) fun a ha=>kk a (by simp[ha])) (h4 (fun a ha=>kk a (by rw[amm];exact amc _ ha)) r')
theorem cM.Vc{kvs:List (List Key×T)}{gs:List (List Key×V)}(h:cM K CL H Z kvs gs fp)(hk:iU kvs k=some t) :
   ∃v f1 f2 f3,ki gs k=some v/\fp=f1++(f2++f3)/\bB K CL H Z t v f2 ∧
     ∀{H':Hp} {t':T} {g:List Addr},(∀a∈f1++f3,H' a=H a)->bB K CL H' Z t' v g->cM K CL H' Z (Lk k t' kvs) gs (f1++(g++f3)):=by
 refine cM.ind (P:=fun kvs gs fp=>iU kvs k=some t->∃v f1 f2 f3,ki gs k=some v/\fp=f1++(f2++f3)/\bB K CL H Z t v f2 ∧
     ∀{H':Hp} {t':T} {g:List Addr},(∀a∈f1++f3,H' a=H a)->bB K CL H' Z t' v g->cM K CL H' Z (Lk k t' kvs) gs (f1++(g++f3))) (fun e=>by cases e) (fun {x t0 v0 ts vs fp gp} r rr i hk=>?_) h hk
 by_cases e:x=k
 . rw[kr (p:=(x,t0)) e]at hk
   cases hk
   refine⟨v0,[],fp,gp,oF e,rfl,r,fun {H' t' g} ka q=>?_⟩
   rw[Lk,amx e]
   exact(show cM K CL H' Z ((x,t')::ts) ((x,v0)::vs) (g++gp) from .cons q (rr.mono (.refl _) fun a ha=>ka a ha))
 . rw[ku (p:=(x,t0)) e]at hk
   obtain⟨v,f1,f2,f3,h1,h2,h3,h4⟩:=i hk
   refine⟨v,fp++f1,f2,f3,by rw[oG (p:=(x,v0)) e];exact h1,by rw[h2,amm],h3,fun {H' t' g} ka q=>?_⟩
   rw[Lk,amq e,amm]
   exact .cons (r.mono (.refl _) fun a ha=>ka a (by simp[ha])) (h4 (fun a ha=>ka a (by rw[amm];exact amc _ ha)) q)
theorem bB.Vc{s:AO}{k:T}(zh:aA Z H)(h:bB K CL H Z t v fp)(hk:t.Vc s=some k):∃w f1 f2 f3,Vd H v s w/\fp=f1++(f2++f3)/\bB K CL H Z k w f2 ∧
   ∀{H':Hp} {k':T} {g:List Addr},(∀c∈f1++f3,H' c=H c)->bB K CL H' Z k' w g->bB K CL H' Z (t.O9 s k') v (f1++(g++f3)):=by
 cases s with
 | ix j=>
   cases h with
   | @lst a us ts g ha rs=>
     obtain⟨w,f1,f2,f3,h1,h2,h3,h4⟩:=rs.at (j:=j) (t:=k) hk
     subst h2
     refine⟨w,a::f1,f2,f3,⟨a,us,rfl,.inl ha,h1⟩,rfl,h3,fun {H' k' g} kk r'=>?_⟩
     have q:=h4 (fun c hc=>kk c (ame _ hc)) r'
     rw[gj h1]at q
     exact .lst ((kk a ama).trans ha) q
   | @tup a us ts g ha rs=>
     obtain⟨w,f1,f2,f3,h1,h2,h3,h4⟩:=rs.at (j:=j) (t:=k) hk
     subst h2
     refine⟨w,f1,f2,f3,⟨a,us,rfl,.inr (zh _ _ ha),h1⟩,rfl,h3,fun {H' k' g} kk r'=>?_⟩
     have q:=h4 kk r'
     rw[gj h1]at q
     exact .tup ha q
   | _=>cases hk
 | fld f=>
   cases h with
   | @ins a dx c gs fs g ha rs=>
     obtain⟨w,f1,f2,f3,h1,h2,h3,h4⟩:=c9.at fs rs (f:=f) (t:=k) hk
     subst h2
     refine⟨w,a::f1,f2,f3,⟨a,_,dx,gs,rfl,ha,h1⟩,rfl,h3,fun {H' k' g} kk r'=>?_⟩
     exact .ins ((kk a ama).trans ha) (h4 (fun c hc=>kk c (ame _ hc)) r')
   | _=>cases hk
 | key x=>
   cases h with
   | @dct a gs kvs g ha rs=>
     obtain⟨w,f1,f2,f3,h1,h2,h3,h4⟩:=rs.Vc (k:=x) (t:=k) hk
     subst h2
     refine⟨w,a::f1,f2,f3,⟨a,gs,rfl,ha,h1⟩,rfl,h3,fun {H' k' g} kk r'=>?_⟩
     exact .dct ((kk a ama).trans ha) (h4 (fun c hc=>kk c (ame _ hc)) r')
   | _=>cases hk
theorem bB.focus(zh:aA Z H):∀(p:List AO) {t u:T} {v:V} {fp:List Addr},bB K CL H Z t v fp->T.zW p t=some u->∃w f1 f2 f3,DJ H v p w/\fp=f1++(f2++f3)/\bB K CL H Z u w f2 ∧
   ∀{H':Hp} {u':T} {g:List Addr},(∀c∈f1++f3,H' c=H c)->bB K CL H' Z u' w g->bB K CL H' Z (T.yy p u' t) v (f1++(g++f3))
 | [],t,u,v,fp,h,e=>by
   obtain⟨h1,h2⟩:=h.Pa
   cases e
   exact⟨v,[],fp,[],rfl,by simp,h1,fun {H' u' g} _ r=>by rw[anm,amQ];exact h2 r⟩
 | s::p,t,u,v,fp,h,e=>by
   obtain⟨h1,h2⟩:=h.Pa
   rw[T.zW]at e
   cases hk:t.core.Vc s with
   | none=>rw[hk]at e;cases e
   | some k=>
     rw[hk]at e
     obtain⟨w1,a1,a2,a3,q1,q2,q3,q4⟩:=h1.Vc zh hk
     obtain⟨w,f1,f2,f3,r1,r2,r3,r4⟩:=bB.focus zh p q3 e
     subst q2 r2
     refine⟨w,a1++f1,f2,f3++a3,⟨w1,q1,r1⟩,by simp only[amm],r3,fun {H' u' g} kk r'=>?_⟩
     rw[T.yy,hk]
     have q:=h2 (q4 (k':=T.yy p u' k) (fun c hc=>kk c (by
       rcases amr.mp hc with h|h
       . simp[h]
       . simp[h])) (r4 (fun c hc=>kk c (by
       rcases amr.mp hc with h|h
       . simp[h]
       . simp[h])) r'))
     simpa only [List.append_assoc] using q
theorem bH.aaF(S:bH K CL b H Z δ σ ts vs)(ev:σ[i]? = some (some v0))(hi:δ[i]? = some (some t0))(hp:T.zW p t0=some u)(M4:DJ H v0 p w):∃f2 gp,bB K CL H Z u w f2/\aO K CL H Z ts vs gp/\(f2++gp).Nodup ∧
   ∀{a:Addr} {o:HO} {u':T} {tl':List T} {Yr:List V} {g IL:List Addr},w=.ref a->a∈f2->iL o=false->bB K CL (upd H a o) Z u' w g->aO K CL (upd H a o) Z tl' Yr IL->(g++IL).Nodup->(∀c∈g++IL,c∈f2++gp) →
     bH K CL b (upd H a o) Z (δ.set i (some (T.yy p u' t0))) σ tl' Yr:=by
 obtain⟨fp,gp,e,r,nd,k⟩:=S.rep
 obtain⟨v1,e1,e2,e3,hv,pN,rt,put,_⟩:=e.get hi
 rw[ev]at hv
 cases hv
 obtain⟨w',f1,f2,f3,at',hf,ru,put2⟩:=rt.focus S.zh p hp
 have hw:=at'.inj M4
 subst hw
 subst hf
 subst pN
 have hpm:((e1++((f1++(f2++f3))++e3))++gp).Perm ((e1++(f1++(f3++e3)))++(f2++gp)):=List.perm_iff_count.mpr fun c=>by
   simp only[List.count_append];omega
 have nd0:=hpm.nodup_iff.mp nd
 have nd':=amK.mp nd0
 refine⟨f2,gp,ru,r,nd'.2.1,fun {a o u' tl' Yr g IL} hwa ha hm hu ht Yi N5=>?_⟩
 have hup:∀c∈e1++(f1++(f3++e3)),upd H a o c=H c:=fun c hc=>ao fun z=>nd'.2.2 c hc a (amk _ ha) z
 have q1:=put2 (H':=upd H a o) (fun c hc=>hup c (by
   rcases amr.mp hc with h|h
   . simp[h]
   . simp[h])) hu
 have q2:=put (H':=upd H a o) (.refl _) (fun c hc=>hup c (by
   rcases amr.mp hc with h|h
   . simp[h]
   . simp[h])) q1
 rw[gj ev]at q2
 have aex:((e1++((f1++(g++f3))++e3))++IL).Perm ((e1++(f1++(f3++e3)))++(g++IL)):=List.perm_iff_count.mpr fun c=>by
   simp only[List.count_append];omega
 refine S.yk hm k (by simp[ha]) q2 ht (aex.nodup_iff.mpr (amK.mpr ⟨nd'.1,Yi,fun c hc d hd=>nd'.2.2 c hc d (N5 d hd)⟩)) fun c hc=>?_
 refine hpm.mem_iff.mpr ?_
 rcases amr.mp (aex.mem_iff.mp hc) with h|h
 . exact amk _ h
 . exact amc _ (N5 c h)
theorem bH.aaG(S:bH K CL b H Z δ σ ts vs)(ev:σ[i]? = some (some v0))(hi:δ[i]? = some (some t0))(hp:T.zW p t0=some u):∃w f2,DJ H v0 p w/\bB K CL H Z u w f2:=by
 obtain⟨fp,gp,e,r,nd,k⟩:=S.rep
 obtain⟨v1,e1,e2,e3,hv,pN,rt,put,_⟩:=e.get hi
 rw[ev]at hv
 cases hv
 obtain⟨w',f1,f2,f3,at',hf,ru,put2⟩:=rt.focus S.zh p hp
 exact⟨w',f2,at',ru⟩
section
variable{D:eL}{f:Str}{fs:List (Str×T)}
def TPv(X:Cx)(CL:Str->Addr)(b:Bx)(e:Expr)(δ:List (Option T))(i:Nat)(p:List AO):Prop:=
 ∀(H Z:Hp) (σ:L2.St) (ts:List T) (vs:List V) (Q:VK),bH X.K CL b H Z δ σ ts vs->(∀v0 v H' Z',aA Z Z'->aA H H'->bH X.K CL b H' Z' δ σ ts vs->σ[i]? = some (some v0)->DJ H' v0 p v->Q v H')->DZ X e σ H Q
theorem Ja(n:Vn X i x)(h:δ[i]? = some (some t)):TPv X CL b (.Name x pos) δ i []:=fun H Z σ ts vs Q S k=>by
 obtain⟨v,hv,_⟩:=S.look h
 exact bW (g8 n.hi n.hv n.hd n.iO) ⟨v,hv,k v v H Z (.refl _) (.refl _) S hv rfl⟩
theorem aaI(hc:x6 X.K (CL c))(n:bz X.K (CL c) f)(h:TPv X CL b e δ i p)(hi:δ[i]? = some (some t))(hg:T.zW p t=some (.ins c fs))(hl:fs.lookup f=some u)(hb:attributeBase e f X.env (eval e X.env)=eval e X.env:=by rfl) :
   TPv X CL b (.Attribute e f pos) δ i (p++[.fld f]):=fun H Z σ ts vs Q S k=>
 bW (Fy cN hb) (h H Z σ ts vs _ S fun v0 v H' Z' z s S' ev M4=>by
   obtain⟨w,f2,at',r⟩:=S'.aaG ev hi hg
   have:=at'.inj M4
   subst this
   cases r with
   | @ins a dx _ gs _ g ha rs=>
     obtain⟨w,_,_,_,hw,_,_,_⟩:=c9.at fs rs hl
     exact⟨a,CL c,dx,gs,w,rfl,ha,hc,n,hw,k v0 w H' Z' z s S' ev (M4.snoc ⟨a,_,dx,gs,rfl,ha,hw⟩)⟩)
theorem aaJ{z:Int}(h:TPv X CL b e δ i p)(hi:δ[i]? = some (some t))(hg:T.zW p t=some (.tup tl))(h2:cZ X CL b e2 δ (.int z) δ)(hk:Iv tl.length z=some j)(hp:mJ e2:=by exact fun _ _=>rfl) :
   TPv X CL b (.Subscript e e2 pos) δ i (p++[.ix j]):=fun H Z σ ts vs Q S k=>
 bW (yb Bt cN cN hp) (h H Z σ ts vs _ S fun v0 v H' Z' z1 s1 S' ev M4=>h2 H' Z' σ ts vs _ S' fun v2 H2 Z2 z2 s2 S2 r2=>by
   have at2:=M4.mono s2
   obtain⟨w,f2,at',r⟩:=S2.aaG ev hi hg
   have:=at'.inj at2
   subst this
   cases r with
   | @tup a us _ g ha rs=>
     have hj:j<tl.length:=(wU hk).2.1
     obtain⟨w,_,_,_,hw,_,_,_⟩:=rs.at (al9 hj)
     refine⟨a,us,z,w,rfl,r2.sc rfl,om.of (S2.zh _ _ ha),?_,k v0 w H2 Z2 (z1.trans z2) (s1.trans s2) S2 ev (at2.snoc ⟨a,us,rfl,.inr (S2.zh _ _ ha),hw⟩)⟩
     unfold rW
     rw[← rs.length,hk]
     exact hw)
theorem Ve(h:TPv X CL b e δ i p)(hi:δ[i]? = some (some t))(hg:T.zW p t=some (.sh d)):bO X CL b e δ (.sh d) δ:=fun H Z σ ts vs Q S k=>
 h H Z σ ts vs _ S fun v0 v H' Z' z s S' ev M4=>by
   obtain⟨w,f2,at',r⟩:=S'.aaG ev hi hg
   have:=at'.inj M4
   subst this
   cases r with
   | sh r=>exact k _ H' Z' z s (S'.push r)
end
theorem c9.none{m:Str}:∀{fs:List (Str×T)} {gs:List (Str×V)} {fp:List Addr},c9 K CL H Z fs gs fp->fs.lookup m=none->gs.lookup m=none:=by
 intro fs
 induction fs with
 | nil=>intro gs fp r _;cases r;rfl
 | cons p fs ih=>
   intro gs fp r h
   cases r with
   | cons q r=>
     rw[amP]at h ⊢
     split at h
     . cases h
     . exact ih r h
theorem jj.none{m:Str}:∀{fs:List (Str×D)} {gs:List (Str×V)},jj K CL Z fs gs->fs.lookup m=none->gs.lookup m=none:=by
 intro fs
 induction fs with
 | nil=>intro gs r _;cases r;rfl
 | cons p fs ih=>
   intro gs r h
   cases r with
   | cons q r=>
     rw[amP]at h ⊢
     split at h
     . cases h
     . exact ih r h
section
variable{D:eL}{A:Type}{k:Nat}
theorem aaK{z w:Int}(g:Gx X)(nm:Ln X i x)(hx:δ[i]? = some (some (.sh (.int z))))(h:cZ X CL b e δ (.int w) δ)(k:dZ X CL b gf (δ.set i (some (.sh (.int (z+w))))) D) :
   dZ X CL b (.AugAssign (.Name x pos') .Add e pos::gf) δ D:=cX fun H Z σ ts vs E S M=>
 qz (Zr g.nd nm.hi nm.loc cN Zt nm.hf) (by
   obtain⟨v,hv,r⟩:=S.N4 hx
   cases r
   refine⟨_,hv,h H Z σ ts vs _ S fun v2 H1 Z1 z1 k1 S1 r2=>?_⟩
   cases r2
   have hl:i<δ.length:=by
     rcases aoW i δ.length with h|h
     . exact h
     . rw[am3 h]at hx;cases hx
   exact⟨z,w,rfl,rfl,M.nx _ _ H1 Z1 z1 ((S1.push (.int (z+w))).set hl) k⟩)
end
def aaL{α:Type}:Nat->(List α->Prop)->Prop
 | 0,P=>P []
 | n+1,P=>∀a,aaL n fun r=>P (a::r)
theorem yz{P:List α->Prop}(h:aaL n P):∀us:List α,us.length=n->P us:=by
 intro us hl
 induction us generalizing n P with
 | nil=>subst hl;exact h
 | cons a r ih=>subst hl;exact ih (P:=fun r=>P (a::r)) (h a) rfl
abbrev mG(K:PySem.W.Frag)(x:Str)(f:Addr):Prop:=PySem.W.nsIn K mainGlobals x=some (some (.ref f))
theorem aaM(P:Program)(w:World)(mg:Str->Option Value)(base:Heap){K:PySem.W.Frag}{h:Heap}(CL:Str->Addr)(XX:K.In h)(G:h.Ns mainGlobals mg){x qual:Str}{st:Stmt}{f:Addr}{fd:FuncData}{N ps:List Str}(k:Nat){A:Type}(arg:A->List D)(Pre:A->Prop)(res:A->T)(F:kh K x qual st f fd)(S:aP N ps (ak st))(m:mG K x f)
   (hb:∀(gB:Value) (Ar:Around) (outer:List Env) (s:Shared) (H:Hp) (E:XK) (b:Bx) (a:A),dW k (Ar.deeper (envOfC qual (ak st) s.heap.objs.size f gB))->cY (n9 ou P w K mg base N qual (ak st) f gB Ar outer s H E).E7->Pre a →
     dZ (n9 ou P w K mg base N qual (ak st) f gB Ar outer s H E).E7 CL b (ez st) (entry N (arg a)) {nx:=fun _=>res a=.sh .non,rt:=fun t _=>t=res a})
   (q:∀(kV doc pm:Value) (an:Option Addr) (gB ct:Value),aaL ps.length fun us=>bindArgs (W.fnOf x qual (sI st) (ez st) (ak st) Value.none kV doc pm an gB ct) {pos:=us}=pure (ps.zip us):=by(repeat intro _);rfl) :
   ∃f fd ps',g9 P w K mg base ou (k+1) f fd ps' (UG K CL ps.length arg Pre res)/\mg x=some (.ref f)/\PySem.W.keepIn K (.ref f)=true/\Binds K fd ps' []:=⟨f,fd,ps,IK F S fun a b c d e f g h r p=>hb a b c d e f g h r ⟨⟨S.nd,rfl,.never⟩,r.units⟩ p,aop XX G m,F.kp,F.binds fun a b c d e f=>yz (q a b c d e f)⟩
namespace Dk
variable{w:World}{d:Addr}{ep:Nat}{es:Array DictEntry}{od:Obj}
theorem Pb{Q:Value->Shared->Prop}(hd:(d==sysModules)=false)(ho:s.heap.get? d=some od)(hT:s.TypeIs (.ref d) "dict")(oS:od.data=.dict es ep)
   (hQ:Q (.ref s.heap.objs.size) {s with heap:=s.heap.push {cls:=.type "dict_keyiterator",data:=.fields #[.ref d,.int 0 0,.int es.size 0,.int ep 0]}}):wpAny (model prog w) A (pyIter (.ref d)) Q E s:=by
 refine wpAny_pyIter_slot hT PySem.F.slot_dict_iter (anf PySem.F.slot_dict_iter hT PySem.F.entry_dict_iter ?_ (PySem.F.args_dict_iter_1 _))
 unfold Builtin.«dict.__iter__» Builtin.Dict.dictSlotNone
 refine al6 (al6 (aoC hT (show wpAny _ _ (pure (Value.ref d)) _ _ s from amd ?_)))
 show wpAny _ _ (Builtin.Dict.showsAll d >>= _) _ _ s
 unfold Builtin.Dict.showsAll
 rw[amq (by rw[hd];exact amu)]
 exact wpAny_bind (wpAny_pure (wpAny_bind (wpAny_dictEntries ho oS (wpAny_bind (wpAny_dictEpoch ho oS (wpAny_bind (wpAny_newObj_type (wpAny_pure ⟨_,rfl,"dict_keyiterator",_,⟨_,Heap.get?_push_size _ rfl,rfl⟩,PySem.F.slot_dict_keyiterator_next.lookup,by simpa [rawInt] using hQ⟩))))))))
theorem next_item{Q:Option Value->Shared->Prop}(hit:s.heap.IsKeyIter it d i es.size ep)(Pg:s.heap.get? d=some od)(Ph:od.data=.dict es ep){e:DictEntry}(hx:es[i]? = some e)
   (hQ:∀h',h'.IsKeyIter it d (i+1) es.size ep->Heap.SameBut it s.heap h'->Q (some e.key) {s with heap:=h'}):wpAny (model prog w) A (pyNext (.ref it)) Q E s:=by
 obtain⟨o,ho,hc,hd⟩:=id hit
 have Ge:Builtin.Dict_items.ownsTuple "dict_keyiterator" = false:=by decide
 unfold pyNext
 refine al6 (aoo (ans (name:=Str.ofString "__next__") hit.typeIs anS (anf anS hit.typeIs PySem.F.entry_dict_keyiterator_next (al6 (amd ?_)) (PySem.F.args_dict_keyiterator_next_1 _))))
 refine al6 (al6 (al6 (aoa hit.typeIs (amd (al6 (wpAny_fieldsOf ho hd ?_))))))
 simp only[Ge,anN,an1]
 show wpAny _ _ (if (Value.ref d==Value.none)=true then _ else _) _ _ s
 rw[amq (show ¬ ((Value.ref d==Value.none)=true) from amu)]
 refine al6 (amd (al6 (anq Pg Ph ?_)))
 rw[amq (by simp)]
 refine al6 (amd (al6 (aoh Pg Ph ?_)))
 rw[amq (by simp)]
 refine amd ?_
 obtain⟨iS,he⟩:=aoI.mp hx
 simp only[show ¬ ((i:Int)<0) from by omega,an1,amS,aoi iS]
 refine al6 (al6 (aoa hit.typeIs (amd (al6 (wpAny_isOneOf_keyiter hit.typeIs ?_)))))
 show wpAny _ _ (setField (.ref it) 1 (rawInt ((i:Int)+1)) >>= _) _ _ s
 have UX:(s.heap.update it (Obj.mapFields (·.setIfInBounds 1 (rawInt ((i:Int)+1))))).IsKeyIter it d (i+1) es.size ep:=
   ⟨_,anA _ ho (Obj.isFreed_of_fields (aoe hd _)),(Obj.cls_mapFields ..).trans hc,by rw[aoe hd];simp[rawInt]⟩
 refine al6 (aoB ho hd (by simp) (al6 (anz (al6 (wpAny_isOneOf_keyiter (s:={s with heap:=s.heap.update it (Obj.mapFields (·.setIfInBounds 1 (rawInt ((i:Int)+1))))}) UX.typeIs ?_)))))
 show wpAny _ _ (pure es[i].key) _ _ _
 rw[he]
 exact amd (amd ⟨_,rfl,amd (hQ _ UX (anG ..))⟩)
theorem next_end{Q:Option Value->Shared->Prop}(hh:A.handled=none)(hit:s.heap.IsKeyIter it d i es.size ep)(Pg:s.heap.get? d=some od)(Ph:od.data=.dict es ep)(hx:es.size<=i)
   (hQ:∀h',Heap.ExtBut it s.heap h'->Q none {s with heap:=h'}):wpAny (model prog w) A (pyNext (.ref it)) Q E s:=by
 obtain⟨o,ho,hc,hd⟩:=id hit
 have Ge:Builtin.Dict_items.ownsTuple "dict_keyiterator" = false:=by decide
 unfold pyNext
 refine al6 (aoo (ans (name:=Str.ofString "__next__") hit.typeIs anS (anf anS hit.typeIs PySem.F.entry_dict_keyiterator_next (al6 (amd ?_)) (PySem.F.args_dict_keyiterator_next_1 _))))
 refine al6 (al6 (al6 (aoa hit.typeIs (amd (al6 (wpAny_fieldsOf ho hd ?_))))))
 simp only[Ge,anN,an1]
 show wpAny _ _ (if (Value.ref d==Value.none)=true then _ else _) _ _ s
 rw[amq (show ¬ ((Value.ref d==Value.none)=true) from amu)]
 refine al6 (amd (al6 (anq Pg Ph ?_)))
 rw[amq (by simp)]
 refine al6 (amd (al6 (aoh Pg Ph ?_)))
 rw[amq (by simp)]
 refine amd ?_
 simp only[show ¬ ((i:Int)<0) from by omega,an1,amS,Array.getElem?_eq_none hx]
 refine al6 (al6 (aoa hit.typeIs (amd ?_)))
 show wpAny _ _ (setField (.ref it) 0 .none >>= _) _ _ s
 refine al6 (aoB ho hd (by simp) ?_)
 show wpAny _ _ (newExc (.type "StopIteration") [] >>= _) _ _ _
 refine al6 ?_
 simp only[newExc,newTuple]
 refine al6 (ank (al6 (m:=firstArgMember _ _) (wpAny_of_eq (a:=Value.none) (by first|rfl|(simp only[firstArgMember];rfl)) (ank ?_ (by size_fits)))) (by size_fits))
 simp only[raiseNew]
 refine al6 (wpAny_handled ?_)
 rw[show A.in1.handled=none from hh]
 refine al6 (amd (wpAny_throw ?_))
 exact al6 (aol (T:="StopIteration") (b:=true) ⟨_,amD _ rfl,rfl⟩ isSubtype_stop (amd (hQ _ (((anG ..).extBut.push _).push _))))
end Dk
end L3
namespace L2
open PySem PySem.Spec PyProof.Rows
variable{X:Cx}{pins:List (Addr×Obj)}{σ:St}{H:Hp}{s:Shared}{a:Addr}{gs:List (List Key×V)}{o:Obj}
theorem Inv.told{u u0:HO}(I:Inv X pins σ H s)(ha:H a=some u0)(hu:dw X.prog X.w (upd H a u) s.heap a u)(ht:∀xs,u0 ≠ .tup xs)(hz:∀ob q,X.H₀ a≠some (.bP ob q))(hb:∀ps,u0 ≠ .XR ps)(hw:∀y,u0 ≠ .own y)(hc:∀q,u0 ≠ .uA q):Inv X pins σ (upd H a u) s:=by
 have ne:∀b,H b=none->b≠a:=fun b e z=>by rw[z,ha]at e;cases e
 have n1:∀b xs,H b=some (.tup xs)->upd H a u b=some (.tup xs):=fun b xs e=>by
   rw[ao fun z=>by rw[z,ha]at e;cases e;exact ht _ rfl];exact e
 refine⟨I.ok,I.os,I.bare,⟨I.base.keep,I.base.slot,fun b ob e n hx=>?_,I.base.there,fun b xs e=>n1 b xs (I.base.zN b xs e),fun b ob q e=>?_,fun b ps e=>?_⟩,I.loc,I.cell,?_,fun x c e=>?_,fun p hp=>?_,fun b v q=>?_,I.len⟩
 . have:=I.base.free b ob e n hx
   rw[ao (ne b this)];exact this
 . rw[ao fun z=>by rw[z]at e;exact hz _ _ e]
   exact I.base.dM b ob q e
 . obtain⟨more,q⟩:=I.base.zO b ps e
   exact⟨more,by rw[ao fun z=>by rw[z,ha]at q;cases q;exact hb _ rfl];exact q⟩
 . rw[ao (ne _ I.free)];exact I.free
 . rw[ao (ne _ (I.kQ x c e))];exact I.kQ x c e
 . obtain⟨p1,p2,p3⟩:=I.pin p hp
   exact⟨p1,by rw[ao (ne _ p2)];exact p2,p3⟩
 . by_cases e:b=a
   . subst e
     rw[az]at q
     cases q
     exact hu
   . rw[ao e]at q
     exact(I.cQ b v q).v7 (fun _ _ _ e=>e) (fun c z=>by rw[ao fun z2=>by rw[z2,ha]at z;cases z;exact hw _ rfl];exact z) n1 fun c k z=>by rw[ao fun z2=>by rw[z2,ha]at z;cases z;exact hc _ rfl];exact z
theorem Inv.aey(I:Inv X pins σ H s)(ha:H a=some (.dT gs)):∃o,s.heap.get? a=some o/\(∀ob q,X.H₀ a≠some (.bP ob q))/\Inv X pins σ (upd H a (.bP o (.dT gs))) s:=by
 have hz:∀ob q,X.H₀ a≠some (.bP ob q):=fun ob q e=>by
   have:=I.base.dM a ob q e
   rw[ha]at this;cases this
 have k:=(show dw X.prog X.w H s.heap a (.dT gs) from I.cQ a _ ha)
 obtain⟨_,_,_,_,o,es,ep,e,_⟩:=id k
 refine⟨o,e,hz,I.told ha ⟨e,?_⟩ (fun _ z=>nomatch z) hz (fun _ z=>nomatch z) (fun _ z=>nomatch z) fun _ z=>nomatch z⟩
 exact k.v7 (fun _ _ _ e=>e) (fun c z=>by rw[ao fun z2=>by rw[z2,ha]at z;cases z];exact z) (fun c xs z=>by rw[ao fun z2=>by rw[z2,ha]at z;cases z];exact z) fun c k z=>by rw[ao fun z2=>by rw[z2,ha]at z;cases z];exact z
theorem Inv.BR(I:Inv X pins σ H s)(ha:H a=some (.bP o (.dT gs)))(hz:∀ob q,X.H₀ a≠some (.bP ob q)):Inv X pins σ (upd H a (.dT gs)) s:=by
 obtain⟨_,k⟩:=(show dw X.prog X.w H s.heap a (.bP o (.dT gs)) from I.cQ a _ ha)
 refine I.told ha ?_ (fun _ z=>nomatch z) hz (fun _ z=>nomatch z) (fun _ z=>nomatch z) fun _ z=>nomatch z
 exact k.v7 (fun _ _ _ e=>e) (fun c z=>by rw[ao fun z2=>by rw[z2,ha]at z;cases z];exact z) (fun c xs z=>by rw[ao fun z2=>by rw[z2,ha]at z;cases z];exact z) fun c k z=>by rw[ao fun z2=>by rw[z2,ha]at z;cases z];exact z
def Itd(a:Addr)(o:Obj)(gs:List (List Key×V)):It:=
 ⟨fun i H=>i<gs.length/\H a=some (.bP o (.dT gs)),fun i H x H'=>H'=H/\∃b k v,x=.ref b/\gs[i]? = some (k,v)/\H b=some (.tup (k.map kV)),fun i H=>gs.length<=i/\H a=some (.bP o (.dT gs))⟩
theorem Paired.Vf{α β:Type}{F:α->β->Prop}{l:List α}{m:List β}(r:Paired F l m):∀{i:Nat} {x:α},l[i]? = some x->∃y,m[i]? = some y/\F x y:=by
 induction r with
 | nil=>intro i x e;simp at e
 | cons h _ ih=>
   intro i x e
   cases i with
   | zero=>cases e;exact⟨_,rfl,h⟩
   | succ j=>exact ih e
theorem Pj{P:Program}{w:World}{K:PySem.W.Frag}{tg:Expr}{it:Addr}{es:Array DictEntry}{ep:Nat}(oS:o.data=.dict es ep):Turn P w K tg (Itd a o gs) [it] it (fun i h=>h.IsKeyIter it a i es.size ep) where
 mem:=by simp
 obj:=fun i h st b hb=>by
   have e:b=it:=by simpa using hb
   subst e
   obtain⟨ob,e,c,d⟩:=st
   exact⟨ob,e,fun v z=>by rw[d]at z;cases z⟩
 keep:=fun i h h' st k=>st.at fun ob e=>k it (by simp) ob e
 item:=by
   intro X hP hw hK hc i pins s σ H E I hf st hg
   subst hP hw hK
   obtain⟨iS,ha⟩:=hg
   obtain⟨e,z,y,xs,r,o',MZ,XT,e',c,d,Vg,nd⟩:=(show dw X.prog X.w H s.heap a (.bP o (.dT gs)) from I.cQ a _ ha)
   rw[e]at e'
   cases e'
   rw[oS]at d
   cases d
   obtain⟨f0,f1,f2,f3,f4,f5⟩:=hf it (by simp)
   obtain⟨q,hq,q1,q2,q3⟩:=Paired.Vf r (i:=i) (x:=gs[i]) (al9 iS)
   have hx:es[i]? = some (entryOfKey (tupleKind (fD X.prog X.w)) q):=by
     rw[← aog,Vg,amg,hq]
     rfl
   refine L3.Dk.next_item st e oS hx fun h' Nq sb=>?_
   have I1:Inv X pins σ H {s with heap:=h'}:=I.turned (t':=s.toks) (fun b ob hb e=>(sb.2 b hb).trans e) f0 f1 f3 f4 f5
   obtain⟨ob,e2,c2,d2⟩:=id Nq
   exact⟨_,rfl,Ik (s:={s with heap:=h'}) e2 c2 d2 (by decide) ⟨.ref q.2.1,H,I1,rfl,⟨rfl,q.2.1,gs[i].1,gs[i].2,rfl,al9 iS,q2⟩,Nq,fun b hb=>(hf b hb).1⟩⟩
 done:=by
   intro X hP hw hK hc i pins s σ H E I hf st hg
   subst hP hw hK
   obtain⟨hge,ha⟩:=hg
   obtain⟨e,z,y,xs,r,o',MZ,XT,e',c,d,Vg,nd⟩:=(show dw X.prog X.w H s.heap a (.bP o (.dT gs)) from I.cQ a _ ha)
   rw[e]at e'
   cases e'
   rw[oS]at d
   cases d
   obtain⟨f0,f1,f2,f3,f4,f5⟩:=hf it (by simp)
   have hl:=an9 r
   have hsz:es.size=xs.length:=by rw[← aoc,Vg,al8]
   exact L3.Dk.next_end (I.ok.hd hc) st e oS (by omega) fun h' eb=>⟨rfl,I.turned (t':=s.toks) (fun b ob hb e=>eb b ob hb e) f0 f1 f3 f4 f5⟩
 self:=fun _ _ _ _ _ st h=>wpAny_pyIter_keyiter st h
end L2
namespace L3
open PySem PySem.Spec PyProof.Rows L2
def Conv(Z Z':Hp):Prop:=∀c o,Z c=some o->Z' c=some o\/(∃gs ob,o=.dT gs/\Z' c=some (.bP ob (.dT gs)))\/∃gs ob,o=.bP ob (.dT gs)/\Z' c=some (.dT gs)
variable{K:PySem.W.Frag}{CL:Str->Addr}{Z Z':Hp}{a:Addr}
theorem Conv.keep{o:HO}(e:Conv Z Z')(h:Z a=some o)(h1:∀gs,o ≠ .dT gs)(h2:∀gs ob,o ≠ .bP ob (.dT gs)):Z' a=some o:=by
 rcases e a o h with q|⟨gs,ob,q,_⟩|⟨gs,ob,q,_⟩
 . exact q
 . exact absurd q (h1 gs)
 . exact absurd q (h2 gs ob)
theorem Conv.wV{xs:List V}(e:Conv Z Z')(h:om K Z a xs):om K Z' a xs:=by
 rcases h with(h|⟨o,h⟩)|h
 . exact .inl (.inl (e.keep h (fun _ z=>nomatch z) fun _ _ z=>nomatch z))
 . exact .inl (.inr ⟨o,e.keep h (fun _ z=>nomatch z) fun _ _ z=>nomatch z⟩)
 . exact .inr h
theorem Conv.sqL{xs:List V}(e:Conv Z Z')(h:nV K Z a xs):nV K Z' a xs:=by
 rcases h with(h|⟨o,h⟩)|h
 . exact .inl (.inl (e.keep h (fun _ z=>nomatch z) fun _ _ z=>nomatch z))
 . exact .inl (.inr ⟨o,e.keep h (fun _ z=>nomatch z) fun _ _ z=>nomatch z⟩)
 . exact .inr h
theorem Conv.rd{gs:List (List Key×V)}(e:Conv Z Z')(h:Rd Z a (.dT gs)):Rd Z' a (.dT gs):=by
 rcases h with h|⟨o,h⟩
 . rcases e a _ h with q|⟨g,ob,q,z⟩|⟨g,ob,q,z⟩
   . exact .inl q
   . cases q;exact .inr ⟨ob,z⟩
   . cases q
 . rcases e a _ h with q|⟨g,ob,q,z⟩|⟨g,ob,q,z⟩
   . exact .inr ⟨o,q⟩
   . cases q
   . cases q;exact .inl z
variable{v:V}
theorem bu.conv(e:Conv Z Z'){d:D}(h:bu K CL Z d v):bu K CL Z' d v:=
 bu.rec (motive_1:=fun d v _=>bu K CL Z' d v) (motive_2:=fun d v _=>ay K CL Z' d v) (motive_3:=fun d v _=>jj K CL Z' d v) (motive_4:=fun d v _=>cL K CL Z' d v) (motive_5:=fun d v _=>cj K CL Z' d v)
   .non .bl .int .str .any .val (fun h _ r=>.tup (e.wV h) r) (fun h _ r=>.lst (e.sqL h) r) (fun h _ r=>.ins (e.keep h (fun _ z=>nomatch z) fun _ _ z=>nomatch z) r) (fun h _ r=>.rX (e.keep h (fun _ z=>nomatch z) fun _ _ z=>nomatch z) r) (fun h _ r=>.dct (e.rd h) r) (fun h _ _ r q=>.gF (e.keep h (fun _ z=>nomatch z) fun _ _ z=>nomatch z) r q) .nil (fun _ _ h r=>.cons h r) .nil (fun _ _ h r=>.cons h r) .nil (fun _ _ h r=>.cons h r) .nil (fun _ _ h r=>.cons h r) h
theorem cL.conv(e:Conv Z Z'){d:List (Key×D)}{v:List (Key×V)}(h:cL K CL Z d v):cL K CL Z' d v:=
 cL.rec (motive_1:=fun d v _=>bu K CL Z' d v) (motive_2:=fun d v _=>ay K CL Z' d v) (motive_3:=fun d v _=>jj K CL Z' d v) (motive_4:=fun d v _=>cL K CL Z' d v) (motive_5:=fun d v _=>cj K CL Z' d v)
   .non .bl .int .str .any .val (fun h _ r=>.tup (e.wV h) r) (fun h _ r=>.lst (e.sqL h) r) (fun h _ r=>.ins (e.keep h (fun _ z=>nomatch z) fun _ _ z=>nomatch z) r) (fun h _ r=>.rX (e.keep h (fun _ z=>nomatch z) fun _ _ z=>nomatch z) r) (fun h _ r=>.dct (e.rd h) r) (fun h _ _ r q=>.gF (e.keep h (fun _ z=>nomatch z) fun _ _ z=>nomatch z) r q) .nil (fun _ _ h r=>.cons h r) .nil (fun _ _ h r=>.cons h r) .nil (fun _ _ h r=>.cons h r) .nil (fun _ _ h r=>.cons h r) h
theorem ay.conv(e:Conv Z Z'){d:List D}{v:List V}(h:ay K CL Z d v):ay K CL Z' d v:=
 ay.rec (motive_1:=fun d v _=>bu K CL Z' d v) (motive_2:=fun d v _=>ay K CL Z' d v) (motive_3:=fun d v _=>jj K CL Z' d v) (motive_4:=fun d v _=>cL K CL Z' d v) (motive_5:=fun d v _=>cj K CL Z' d v)
   .non .bl .int .str .any .val (fun h _ r=>.tup (e.wV h) r) (fun h _ r=>.lst (e.sqL h) r) (fun h _ r=>.ins (e.keep h (fun _ z=>nomatch z) fun _ _ z=>nomatch z) r) (fun h _ r=>.rX (e.keep h (fun _ z=>nomatch z) fun _ _ z=>nomatch z) r) (fun h _ r=>.dct (e.rd h) r) (fun h _ _ r q=>.gF (e.keep h (fun _ z=>nomatch z) fun _ _ z=>nomatch z) r q) .nil (fun _ _ h r=>.cons h r) .nil (fun _ _ h r=>.cons h r) .nil (fun _ _ h r=>.cons h r) .nil (fun _ _ h r=>.cons h r) h
variable{H:Hp}{t:T}{fp:List Addr}
theorem bB.conv{H':Hp}(e:Conv Z Z')(k:∀a∈fp,H' a=H a)(h:bB K CL H Z t v fp):bB K CL H' Z' t v fp:=
 bB.rec (motive_1:=fun t v fp _=>(∀a∈fp,H' a=H a)->bB K CL H' Z' t v fp) (motive_2:=fun t v fp _=>(∀a∈fp,H' a=H a)->aO K CL H' Z' t v fp) (motive_3:=fun t v fp _=>(∀a∈fp,H' a=H a)->c9 K CL H' Z' t v fp) (motive_4:=fun t v fp _=>(∀a∈fp,H' a=H a)->cM K CL H' Z' t v fp)
   (fun h _=>.sh (h.conv e)) (fun h _ r k=>.tup (e.keep h (fun _ z=>nomatch z) fun _ _ z=>nomatch z) (r k)) (fun h _ r k=>.lst ((k _ ama).trans h) (r fun a ha=>k a (ame _ ha))) (fun h _ r k=>.ins ((k _ ama).trans h) (r fun a ha=>k a (ame _ ha))) (fun h f k=>.rX ((k _ ama).trans h) (cL.conv e f)) (fun h _ r k=>.dct ((k _ ama).trans h) (r fun a ha=>k a (ame _ ha))) (fun _ r k=>.pin (r k)) (fun h f g k=>.gF ((k _ ama).trans h) (ay.conv e f) (ay.conv e g)) (fun _=>.nil) (fun _ _ h r k=>.cons (h fun a ha=>k a (amk _ ha)) (r fun a ha=>k a (amc _ ha))) (fun _=>.nil) (fun _ _ h r k=>.cons (h fun a ha=>k a (amk _ ha)) (r fun a ha=>k a (amc _ ha))) (fun _=>.nil) (fun _ _ h r k=>.cons (h fun a ha=>k a (amk _ ha)) (r fun a ha=>k a (amc _ ha))) h k
theorem aO.conv{H':Hp}(e:Conv Z Z'){t:List T}{v:List V}(k:∀a∈fp,H' a=H a)(h:aO K CL H Z t v fp):aO K CL H' Z' t v fp:=
 aO.rec (motive_1:=fun t v fp _=>(∀a∈fp,H' a=H a)->bB K CL H' Z' t v fp) (motive_2:=fun t v fp _=>(∀a∈fp,H' a=H a)->aO K CL H' Z' t v fp) (motive_3:=fun t v fp _=>(∀a∈fp,H' a=H a)->c9 K CL H' Z' t v fp) (motive_4:=fun t v fp _=>(∀a∈fp,H' a=H a)->cM K CL H' Z' t v fp)
   (fun h _=>.sh (h.conv e)) (fun h _ r k=>.tup (e.keep h (fun _ z=>nomatch z) fun _ _ z=>nomatch z) (r k)) (fun h _ r k=>.lst ((k _ ama).trans h) (r fun a ha=>k a (ame _ ha))) (fun h _ r k=>.ins ((k _ ama).trans h) (r fun a ha=>k a (ame _ ha))) (fun h f k=>.rX ((k _ ama).trans h) (cL.conv e f)) (fun h _ r k=>.dct ((k _ ama).trans h) (r fun a ha=>k a (ame _ ha))) (fun _ r k=>.pin (r k)) (fun h f g k=>.gF ((k _ ama).trans h) (ay.conv e f) (ay.conv e g)) (fun _=>.nil) (fun _ _ h r k=>.cons (h fun a ha=>k a (amk _ ha)) (r fun a ha=>k a (amc _ ha))) (fun _=>.nil) (fun _ _ h r k=>.cons (h fun a ha=>k a (amk _ ha)) (r fun a ha=>k a (amc _ ha))) (fun _=>.nil) (fun _ _ h r k=>.cons (h fun a ha=>k a (amk _ ha)) (r fun a ha=>k a (amc _ ha))) h k
variable{δ:List (Option T)}{σ:L2.St}
theorem fE.conv{H':Hp}(e:Conv Z Z')(k:∀a∈fp,H' a=H a)(r:fE K CL H Z δ σ fp):fE K CL H' Z' δ σ fp:=by
 induction r with
 | nil=>exact .nil
 | skip _ ih=>exact .skip (ih k)
 | cons r _ ih=>exact .cons (r.conv e fun a ha=>k a (amk _ ha)) (ih fun a ha=>k a (amc _ ha))
def ahB(X:Cx)(te:TE):TI:=fun σ H R=>te σ H fun x H1=>∃a gs,x=.ref a/\((H1 a=some (.dT gs)/\∀o,(∀ob q,X.H₀ a≠some (.bP ob q))->R (Itd a o gs) (upd H1 a (.bP o (.dT gs))))\/∃o,H1 a=some (.bP o (.dT gs))/\R (Itd a o gs) H1)
variable{X:Cx}{e:Expr}
theorem aaN{tg:Expr}{te:TE}(he:PE X e te):PI X tg e (ahB X te):=by
 intro pins s σ H R I h
 refine dz (he pins s σ H _ I h) fun v s1 zz=>?_
 obtain⟨x,H1,I1,r1,a,gs,ex,q⟩:=zz
 subst ex
 cases r1
 have main:∀(H2:Hp) (o:Obj),L2.Inv X pins σ H2 s1->H2 a=some (.bP o (.dT gs))->R (Itd a o gs) H2->wpAny (model X.prog X.w) X.A (pyIter (.ref a)) (PIE X pins σ tg R) X.xe s1:=fun H2 o I2 ha hR=>by
   obtain⟨e,z,y,xs,r,o',es,ep,e',c,d,Vg,nd⟩:=(show dw X.prog X.w H2 s1.heap a (.bP o (.dT gs)) from I2.cQ a _ ha)
   rw[e]at e'
   cases e'
   obtain⟨_,_,_,_,dd⟩:=vK I2.cQ (.inr ⟨o,ha⟩)
   refine Dk.Pb y e dd.typeIs d ?_
   refine⟨s1.heap.objs.size,[s1.heap.objs.size],_,_,H2,rfl,I2.kept (t':=s1.toks) fun b ob e=>amo _ e,Pj d,⟨_,amD _ rfl,rfl,rfl⟩,fun b hb=>?_,hR⟩
   have e:b=s1.heap.objs.size:=by simpa using hb
   subst e
   exact I2.zR (aml _) (I2.cQ.fresh (aml _))
 rcases q with⟨ha,q⟩|⟨o,ha,q⟩
 . obtain⟨o,e,hz,I2⟩:=I1.aey ha
   exact main _ o I2 az (q o hz)
 . exact main _ o I1 ha q
def aaO(X:Cx)(E:Ends):Ends:=
 { nx:=fun σ H=>E.nx σ H\/∃a o gs,H a=some (.bP o (.dT gs))/\(∀ob q,X.H₀ a≠some (.bP ob q))/\E.nx σ (upd H a (.dT gs))
   rt:=fun v H=>E.rt v H\/∃a o gs,H a=some (.bP o (.dT gs))/\(∀ob q,X.H₀ a≠some (.bP ob q))/\E.rt v (upd H a (.dT gs))
   bk:=E.bk
   ct:=E.ct}
theorem AQ{st:Stmt}{E:Ends}(h:N1 X st (aaO X E) σ H):N1 X st E σ H:=fun pins s I=>by
 refine anC (h pins s I) (fun f s' z=>?_) fun _ _ z=>z
 cases f with
 | next=>
   obtain⟨σ',H',I',q⟩:=z
   rcases q with q|⟨a,o,gs,ha,hz,q⟩
   . exact⟨σ',H',I',q⟩
   . exact⟨σ',_,I'.BR ha hz,q⟩
 | ret u=>
   obtain⟨v,σ',H',I',r,q⟩:=z
   rcases q with q|⟨a,o,gs,ha,hz,q⟩
   . exact⟨v,σ',H',I',r,q⟩
   . exact⟨v,σ',_,I'.BR ha hz,r,q⟩
 | brk=>exact z
 | cont=>exact z
def oU(b:Bx)(a:Addr)(F:HO):Bx:=⟨fun c=>if c=a/\(b.B a).isSome=true then some F else b.B c,fun c=>if c=a/\(b.Z a).isSome=true then some F else b.Z c⟩
variable{b:Bx}{ts:List T}{vs:List V}{gs:List (List Key×V)}{o:Obj}
theorem d9{F:HO}{c:Addr}(h:c≠a):(oU b a F).B c=b.B c/\(oU b a F).Z c=b.Z c:=⟨amq fun z=>h z.1,amq fun z=>h z.1⟩
theorem bH.still(S:bH K CL b H Z δ σ ts vs)(ha:Z a=some (.dT gs))(o:Obj):bH K CL (oU b a (.bP o (.dT gs))) (upd H a (.bP o (.dT gs))) (upd Z a (.bP o (.dT gs))) δ σ ts vs:=by
 have cv:Conv Z (upd Z a (.bP o (.dT gs))):=fun c u q=>by
   by_cases e:c=a
   . subst e
     rw[ha]at q
     cases q
     exact .inr (.inl ⟨gs,o,rfl,az⟩)
   . exact .inl (by rw[ao e];exact q)
 obtain⟨fp,gp,e,r,nd,k⟩:=S.rep
 have ne:∀c∈fp++gp,c≠a:=fun c hc z=>by
   have:=(k c hc).1
   rw[z,ha]at this;cases this
 have hH:=S.zh a _ ha
 refine⟨⟨fp,gp,e.conv cv fun c hc=>ao (ne c (amk _ hc)),r.conv cv fun c hc=>ao (ne c (amc _ hc)),nd,fun c hc=>⟨by rw[ao (ne c hc)];exact(k c hc).1,by rw[(d9 (ne c hc)).1];exact(k c hc).2⟩⟩,fun c u q=>?_,fun c u q=>?_,fun c u q=>?_,fun c u q z=>?_,fun c u q im=>?_,fun x hx h0=>?_⟩
 . by_cases e:c=a
   . subst e
     rw[az]
     have q:(if c=c/\(b.B c).isSome=true then some _ else b.B c)=some u:=q
     by_cases hs:(b.B c).isSome=true
     . rw[amx ⟨rfl,hs⟩]at q;exact q
     . rw[amq fun z=>hs z.2]at q
       rw[q]at hs;exact absurd rfl hs
   . rw[(d9 e).1]at q
     rw[ao e];exact S.bh c u q
 . by_cases e:c=a
   . subst e
     rw[az]
     have q:(if c=c/\(b.Z c).isSome=true then some _ else b.Z c)=some u:=q
     by_cases hs:(b.Z c).isSome=true
     . rw[amx ⟨rfl,hs⟩]at q;exact q
     . rw[amq fun z=>hs z.2]at q
       rw[q]at hs;exact absurd rfl hs
   . rw[(d9 e).2]at q
     rw[ao e];exact S.zz c u q
 . by_cases e:c=a
   . subst e
     rw[az]at q ⊢;exact q
   . rw[ao e]at q ⊢;exact S.zh c u q
 . by_cases e:c=a
   . subst e
     have z:(if c=c/\(b.Z c).isSome=true then some _ else b.Z c)=none:=z
     have hz:b.Z c=none:=by
       by_cases hs:(b.Z c).isSome=true
       . rw[amx ⟨rfl,hs⟩]at z;cases z
       . rw[amq fun z=>hs z.2]at z;exact z
     have hB:=S.new c _ ha hz
     show(if c=c/\(b.B c).isSome=true then some _ else b.B c)=none
     rw[amq fun z=>by rw[hB]at z;exact absurd z.2 (by decide)]
     exact hB
   . rw[ao e]at q
     rw[(d9 e).2]at z
     rw[(d9 e).1];exact S.new c u q z
 . by_cases e:c=a
   . subst e
     rw[az]at q ⊢;exact q
   . rw[ao e]at q ⊢;exact S.tp c u q im
 . have q:=S.tab x hx h0
   have e:CL x≠a:=fun z=>by
     have:=S.zz _ _ q
     rw[z,ha]at this;cases this
   rw[(d9 e).2];exact q
theorem bH.BR(S:bH K CL (oU b a (.bP o (.dT gs))) H Z δ σ ts vs)(ha:Z a=some (.bP o (.dT gs)))(h1:∀u,b.B a=some u->u=.dT gs)(h2:∀u,b.Z a=some u->u=.dT gs)(h3:b.Z a=none->b.B a=none):bH K CL b (upd H a (.dT gs)) (upd Z a (.dT gs)) δ σ ts vs:=by
 have cv:Conv Z (upd Z a (.dT gs)):=fun c u q=>by
   by_cases e:c=a
   . subst e
     rw[ha]at q
     cases q
     exact .inr (.inr ⟨gs,o,rfl,az⟩)
   . exact .inl (by rw[ao e];exact q)
 obtain⟨fp,gp,e,r,nd,k⟩:=S.rep
 have ne:∀c∈fp++gp,c≠a:=fun c hc z=>by
   have:=(k c hc).1
   rw[z,ha]at this;cases this
 refine⟨⟨fp,gp,e.conv cv fun c hc=>ao (ne c (amk _ hc)),r.conv cv fun c hc=>ao (ne c (amc _ hc)),nd,fun c hc=>⟨by rw[ao (ne c hc)];exact(k c hc).1,by rw[← (d9 (F:=.bP o (.dT gs)) (ne c hc)).1];exact(k c hc).2⟩⟩,fun c u q=>?_,fun c u q=>?_,fun c u q=>?_,fun c u q z=>?_,fun c u q im=>?_,fun x hx h0=>?_⟩
 . by_cases e:c=a
   . subst e
     rw[az,h1 u q]
   . rw[ao e]
     exact S.bh c u (by rw[(d9 e).1];exact q)
 . by_cases e:c=a
   . subst e
     rw[az,h2 u q]
   . rw[ao e]
     exact S.zz c u (by rw[(d9 e).2];exact q)
 . by_cases e:c=a
   . subst e
     rw[az]at q ⊢;exact q
   . rw[ao e]at q ⊢;exact S.zh c u q
 . by_cases e:c=a
   . subst e
     exact h3 z
   . rw[ao e]at q
     have:=S.new c u q (by rw[(d9 e).2];exact z)
     rwa [(d9 e).1]at this
 . by_cases e:c=a
   . subst e
     rw[az]at q
     cases q
     cases im
   . rw[ao e]at q ⊢;exact S.tp c u q im
 . have q:=S.tab x hx h0
   have e:CL x≠a:=fun z=>by
     have:=S.zz _ _ q
     rw[z,ha]at this;cases this
   rwa [(d9 e).2]at q
theorem bH.Jb(S:bH K CL b H Z δ σ ts vs)(r:bB K CL H Z t v []):bH K CL b H Z δ σ (t::ts) (v::vs):=by
 obtain⟨fp,gp,e,q,nd,k⟩:=S.rep
 exact⟨⟨fp,[]++gp,e,.cons r q,nd,k⟩,S.bh,S.zz,S.zh,S.new,S.tp,S.tab⟩
section
variable{δ1:List (Option T)}{D:eL}{pos pos':Pos}{x:Str}{i:Nat}{gf body:List Stmt}{kvs:List (List Key×L3.D)}
theorem Vh(g:Gx X)(nm:Ln X i x)(P:Nat->List (Option T)->Prop)(h:bO X CL b e δ (.sh (.dct kvs)) δ1)(h0:P 0 δ1)(hl:∀j δ,P j δ->i<δ.length)
   (hs:∀(b':Bx) (j:Nat) (k:List Key) (d:L3.D) δ,kvs[j]? = some (k,d)->P j δ->dZ X CL b' body (δ.set i (some (fu k))) {nx:=P (j+1),rt:=D.rt,bk:=fun δ2=>dZ X CL b gf δ2 D,ct:=P (j+1)}) (hd:∀δ,P kvs.length δ->dZ X CL b gf δ D)
   (hq:∀x,foldedSetIterable e X.env x=pure x:=by intro _;rfl):dZ X CL b (.For (.Name x pos') e body [] pos::gf) δ D:=cX fun H Z σ ts vs E S M=>
 AQ (qz (Bp g.xe g.calm (aaN cN) (kR g.nd nm.hi nm.loc nm.hf) M3 hq) (h H Z σ ts vs _ S fun v H1 Z1 z1 k1 S1=>by
   have r:=S1.oO
   cases r with
   | @dct a gs _ ha rr=>
     have AU:kvs.length=gs.length:=rr.length
     have v9:∀(j:Nat) (k:List Key) (v:V),gs[j]? = some (k,v)->∃d,kvs[j]? = some (k,d):=fun j k v hj=>by
       have e1:=congrArg (·[j]?) rr.keys
       simp only[amg,hj]at e1
       obtain⟨p,hp,e2⟩:=amG.mp e1
       have e2:p.1=k:=e2
       exact⟨p.2,by rw[hp,← e2]⟩
     have Vi:∀{Z2 H2:Hp} {kb:Addr} {k:List Key},(∀a o,H2 a=some o->iL o=true->Z2 a=some o)->H2 kb=some (.tup (k.map kV))->bB X.K CL H2 Z2 (fu k) (.ref kb) []:=fun tp hk=>.tup (tp _ _ hk rfl) (aO.ofF (yw _))
     rcases ha with ha|⟨o,ha⟩
     . have hH:=S1.zh a _ ha
       refine⟨a,gs,rfl,.inl ⟨hH,fun o hz=>?_⟩⟩
       have S2:=S1.pop.still ha o
       have t1:∀u,b.B a=some u->u=.dT gs:=fun u q=>by
         have:=S1.bh a u q
         rw[hH]at this;exact(amA this).symm
       have t2:∀u,b.Z a=some u->u=.dT gs:=fun u q=>by
         have:=S1.zz a u q
         rw[ha]at this;exact(amA this).symm
       have t3:b.Z a=none->b.B a=none:=S1.new a _ ha
       have back:∀{Z2:Hp},aA (upd Z1 a (.bP o (.dT gs))) Z2->aA Z (upd Z2 a (.dT gs)):=fun {Z2} s c u q=>by
         have q1:=z1 c u q
         by_cases e:c=a
         . subst e
           rw[ha]at q1
           cases q1
           exact az
         . rw[ao e]
           exact s c u (by rw[ao e];exact q1)
       refine⟨fun j m σ H2=>m=gs.length-j/\j<=gs.length/\∃Z2 δ2,aA (upd Z1 a (.bP o (.dT gs))) Z2/\bH X.K CL (oU b a (.bP o (.dT gs))) H2 Z2 δ2 σ ts vs/\P j δ2,⟨_,rfl,amR _,_,δ1,.refl _,S2,h0⟩,?_⟩
       rintro j m σ2 H2 ⟨rfl,hj,Z2,δ2,s,S3,p2⟩
       have za:Z2 a=some (.bP o (.dT gs)):=s a _ az
       by_cases iS:j<gs.length
       . refine .inr ⟨⟨iS,S3.zh a _ za⟩,fun σ' H'=>∃Z2 δ2,aA (upd Z1 a (.bP o (.dT gs))) Z2/\bH X.K CL (oU b a (.bP o (.dT gs))) H' Z2 δ2 σ' ts vs/\P (j+1) δ2,fun σ' H' h=>⟨gs.length-(j+1),by omega,rfl,iS,h⟩,fun y H' hy=>?_⟩
         obtain⟨rfl,kb,k,v,rfl,hg,hk⟩:=hy
         obtain⟨d,zQ⟩:=v9 j k v hg
         have S4:=(S3.Jb (Vi S3.tp hk)).set (hl j δ2 p2)
         exact hs _ j k d δ2 zQ p2 _ Z2 _ ts vs _ S4 ⟨fun δ' σ' H' Z' s' S' k=>⟨Z',δ',s.trans s',S',k⟩,fun t v H' Z' δ' σ' s' S' k=>.inr ⟨a,o,gs,S'.zh a _ (s' a _ za),hz,M.rt t v _ _ δ' σ' (back (s.trans s')) (S'.BR (s' a _ za) t1 t2 t3) k⟩,fun δ' σ' H' Z' s' S' k=>.inr ⟨a,o,gs,S'.zh a _ (s' a _ za),hz,M.nx δ' σ' _ _ (back (s.trans s')) (S'.BR (s' a _ za) t1 t2 t3) k⟩,fun δ' σ' H' Z' s' S' k=>⟨Z',δ',s.trans s',S',k⟩⟩
       . have ej:j=gs.length:=by omega
         subst ej
         exact .inl ⟨⟨aml _,S3.zh a _ za⟩,.inr ⟨a,o,gs,S3.zh a _ za,hz,M.nx δ2 σ2 _ _ (back s) (S3.BR za t1 t2 t3) (hd δ2 (AU▸p2))⟩⟩
     . refine⟨a,gs,rfl,.inr ⟨o,S1.zh a _ ha,?_⟩⟩
       refine⟨fun j m σ H2=>m=gs.length-j/\j<=gs.length/\∃Z2 δ2,aA Z1 Z2/\bH X.K CL b H2 Z2 δ2 σ ts vs/\P j δ2,⟨_,rfl,amR _,_,δ1,.refl _,S1.pop,h0⟩,?_⟩
       rintro j m σ2 H2 ⟨rfl,hj,Z2,δ2,s,S3,p2⟩
       have za:Z2 a=some (.bP o (.dT gs)):=s a _ ha
       by_cases iS:j<gs.length
       . refine .inr ⟨⟨iS,S3.zh a _ za⟩,fun σ' H'=>∃Z2 δ2,aA Z1 Z2/\bH X.K CL b H' Z2 δ2 σ' ts vs/\P (j+1) δ2,fun σ' H' h=>⟨gs.length-(j+1),by omega,rfl,iS,h⟩,fun y H' hy=>?_⟩
         obtain⟨rfl,kb,k,v,rfl,hg,hk⟩:=hy
         obtain⟨d,zQ⟩:=v9 j k v hg
         have S4:=(S3.Jb (Vi S3.tp hk)).set (hl j δ2 p2)
         exact hs _ j k d δ2 zQ p2 _ Z2 _ ts vs _ S4 ⟨fun δ' σ' H' Z' s' S' k=>⟨Z',δ',s.trans s',S',k⟩,fun t v H' Z' δ' σ' s' S' k=>.inl (M.rt t v _ _ δ' σ' (z1.trans (s.trans s')) S' k),fun δ' σ' H' Z' s' S' k=>.inl (M.nx δ' σ' _ _ (z1.trans (s.trans s')) S' k),fun δ' σ' H' Z' s' S' k=>⟨Z',δ',s.trans s',S',k⟩⟩
       . have ej:j=gs.length:=by omega
         subst ej
         exact .inl ⟨⟨aml _,S3.zh a _ za⟩,.inl (M.nx δ2 σ2 _ _ (z1.trans s) S3 (hd δ2 (AU▸p2)))⟩))
theorem BU{ks:List Key}(n:Vn X i x)(h:δ[i]? = some (some (fu ks))):bO X CL b (.Name x pos) δ (fu ks) δ:=fun H Z σ ts vs Q S k=>by
 obtain⟨fp,gp,e,q,nd,kk⟩:=S.rep
 obtain⟨v,f1,f2,f3,hv,pN,rt,_,_⟩:=e.get h
 have h2:f2=[]:=by
   cases rt with
   | tup hz rr=>exact(aO.toF rr).2
 subst h2
 exact bW (g8 n.hi n.hv n.hd n.iO) ⟨v,hv,k v H Z (.refl _) (.refl _) (S.Jb rt)⟩
end
variable{t0:T}{v0 w:V}{i:Nat}{p:List AO}{kvs:List (List Key×T)}{k:List Key}
theorem cM.fresh(rs:cM K CL H Z kvs gs fp)(hk:k∉kvs.map (·.1))(v:V):putK gs k v=gs++[(k,v)]:=by
 refine NS v ?_
 cases hx:ki gs k with
 | none=>rfl
 | some z=>
   exfalso
   refine hk ?_
   rw[rs.keys]
   unfold ki at hx
   obtain⟨q,hf,_⟩:=amG.mp hx
   have h0:=List.find?_some hf
   have h1:q.1=k:=amO h0
   rw[← h1]
   exact List.mem_map_of_mem (an2 hf)
theorem bH.Vj(S:bH K CL b H Z δ σ (t::ts) (v::vs))(ev:σ[i]? = some (some v0))(hi:δ[i]? = some (some t0))(hp:T.zW p t0=some (.dct kvs))(M4:DJ H v0 p w)(hk:k∉kvs.map (·.1)) :
   ∃a gs,w=.ref a/\H a=some (.dT gs)/\gs.length=kvs.length/\bH K CL b (upd H a (.dT (putK gs k v))) Z (δ.set i (some (T.yy p (.dct (kvs++[(k,t)])) t0))) σ ts vs:=by
 obtain⟨f2,gp,ru,rr,nd,go⟩:=S.aaF ev hi hp M4
 cases ru with
 | @dct a gs _ g ha rs=>
   cases rr with
   | @cons _ _ _ _ ft gr q1 q2=>
     have ne:∀c∈g++(ft++gr),c≠a:=fun c hc z=>by subst z;exact(ana.mp nd).1 hc
     have pm:((a::(g++(ft++[])))++gr).Perm ((a::g)++(ft++gr)):=List.perm_iff_count.mpr fun c=>by simp only[List.count_append,List.count_cons,List.count_nil];omega
     refine⟨a,gs,rfl,ha,rs.length.symm,?_⟩
     rw[rs.fresh hk]
     exact go rfl ama rfl (.dct az (cM.snoc (rs.mono (.refl _) fun c hc=>ao (ne c (by simp[hc]))) (q1.mono (.refl _) fun c hc=>ao (ne c (by simp[hc])))))
       (q2.mono (.refl _) fun c hc=>ao (ne c (by simp[hc]))) (pm.nodup_iff.mpr nd) fun c hc=>pm.mem_iff.mp hc
section
variable{δ1:List (Option T)}{e0 e2:Expr}{t1:T}{D:eL}{pos ps:Pos}{gf:List Stmt}
theorem Vk(k:List Key)(hu:X.A.units+64<cLine)(h:bO X CL b e δ t δ1)(hE:TPv X CL b e0 δ1 i p)(h2:bO X CL b e2 δ1 (fu k) δ1)(h1:δ1[i]? = some (some t1))(hp1:T.zW p t1=some (.dct kvs))(hk:k∉kvs.map (·.1))(hl:kvs.length<=1000000)(kk:dZ X CL b gf (δ1.set i (some (T.yy p (.dct (kvs++[(k,t)])) t1))) D)
   (hs:swapsWith e (some (.Subscript e0 e2 ps)) pos.line X.env=pure false:=by rfl):dZ X CL b (.Assign [.Subscript e0 e2 ps] e pos::gf) δ D:=cX fun H Z σ ts vs E S M=>
 qz (IB (by omega) cN cN cN hs) (h H Z σ ts vs _ S fun v H1 Z1 z1 k1 S1=>hE H1 Z1 σ _ _ _ S1 fun v0 w H2 Z2 z2 k2 S2 ev M4=>h2 H2 Z2 σ _ _ _ S2 fun v2 H3 Z3 z3 k3 S3=>by
   obtain⟨kb,rfl,hb⟩:=S3.BQ
   obtain⟨a,gs,ea,ha,hg,S4⟩:=S3.pop.Vj ev h1 hp1 (M4.mono k3) hk
   exact⟨a,_,ea,KN.t ha hb (by rw[hg];exact aoU hl (by rw[amE];decide)),M.nx _ σ _ Z3 (z1.trans (z2.trans z3)) S4 kk⟩)
end
section
variable{δ1:List (Option T)}{D:eL}{pos pp:Pos}
theorem uQ{ds:List L3.D}(hm:X.mg "tuple" = none)(h:bO X CL b e δ (.sh (.tup ds)) δ1)(hg:Gl X "tuple")(hs:starEach [e] X.env=(false,eval e X.env)::starEach [] X.env:=by exact bA rfl):bO X CL b (.Call (.Name "tuple" pp) [e] [] pos) δ (.sh (.tup ds)) δ1:=fun H Z σ ts vs Q S k=>
 bW (iP qH hg hm oJ (b8 cN dY hs) (he:=hs)) (h H Z σ ts vs _ S fun v H1 Z1 z1 k1 S1=>by
   have r:=S1.oO
   cases r with
   | tup hq rr=>exact⟨_,_,rfl,.inr ⟨aA.wV S1.zh hq,k _ H1 Z1 z1 k1 S1⟩⟩)
end
end L3
namespace L2
open PySem PySem.Spec PyProof.Rows
section
variable{prog:Program}{w:World}{K:Type}{A:Around}{E:Value->Shared->Prop}{s:Shared}[DecidableEq K]{knd:HeapKind prog w K}
theorem aaP{nm:String}{a b:Addr}{xa xb:List (K×Addr×Value)}{Q:Bool->Shared->Prop}(ha:(a==sysModules)=false)(hb:(b==sysModules)=false)(da:s.heap.DictOfH knd a xa)(db:s.heap.DictOfH knd b xb)(hu:knd.room A)(hlen:xa.length=xb.length)
   (hits:∀x∈xa,∃(j:Nat) (q:Addr×Value),xb[j]? = some (x.1,q)/\SeqAt.EqAt A s x.2.2 q.2 true) (h:Q true s):wpAny (model prog w) A (Builtin.Dict.samePairs nm a b) Q E s:=by
 obtain⟨oa,es,ep,hoa,_,hda,hea,ahC,_⟩:=da
 obtain⟨ob,MZ,XT,hob,_,wc,heb,ahF,TF⟩:=db
 have hsa:es.size=xa.length:=size_of_entries hea
 have hsb:MZ.size=xb.length:=size_of_entries heb
 unfold Builtin.Dict.samePairs Builtin.Dict.showsAll
 rw[amq (show ¬ (a==sysModules)=true by rw[ha];exact amu),amq (show ¬ (b==sysModules)=true by rw[hb];exact amu)]
 refine al6 (amd (al6 (amd ?_)))
 refine al6 (anq hoa hda ?_)
 dsimp only
 refine al6 (anq hob wc ?_)
 rw[amq (by rw[hsa,hsb,hlen];simp)]
 refine al6 (aoh hoa hda ?_)
 refine al6 ?_
 rw[Std.Legacy.Range.forIn_eq_forIn_range']
 simp only[Std.Legacy.Range.size,Nat.sub_zero,Nat.add_sub_cancel,Nat.div_one]
 refine wpAny_forIn_list _ (fun rest q s'=>s'=s/\q=(none,())/\∃i,rest=List.range' i (es.size-i)/\i<=es.size) _ ?_ ?_ _ _ ⟨rfl,rfl,0,by simp,amR _⟩
 . rintro x rest q s' ⟨rfl,rfl,i,hr,hi⟩
   have iS:i<es.size:=by
     rcases aoW i es.size with h|h
     . exact h
     . rw[Nat.sub_eq_zero_of_le h]at hr;simp at hr
   obtain⟨rfl,aez⟩:x=i/\rest=List.range' (i+1) (es.size-(i+1)):=by
     have e:es.size-i=(es.size-(i+1))+1:=by omega
     rw[e,List.range'_succ]at hr
     injection hr with h1 h2
     exact⟨h1,h2⟩
   refine al6 (anq hoa hda ?_)
   obtain⟨⟨k,c,v⟩,hkv⟩:∃y,xa[x]? = some y:=⟨_,al9 (by omega)⟩
   have hex:es[x]? = some ⟨knd.hash k,.ref c,v⟩:=by rw[entry_at hea x,hkv];rfl
   rw[hex]
   obtain⟨j,⟨c',v'⟩,hj,he⟩:=hits _ (amt hkv)
   have hey:MZ[j]? = some ⟨knd.hash k,.ref c',v'⟩:=by rw[entry_at heb j,hj];rfl
   show wpAny _ _ (holding [Value.ref c,v] _ >>= _) _ _ _
   refine al6 (anz (al6 (wpAny_dictFind_heap hu (ahC _ (amt hkv)) hob wc heb ahF TF (fun sy=>absurd hj (sy j _)) (fun j' p' hj'=>?_))))
   have ej:=idxH_unique TF hj' hj
   subst ej
   refine al6 (anq hob wc ?_)
   rw[hey]
   refine anz (he prog w _ _ ?_)
   show wpAny _ _ (if (!true)=true then _ else _) _ _ _
   rw[amq (by decide)]
   refine al6 (aoh hoa hda ?_)
   rw[amq (by simp)]
   exact amd ⟨rfl,rfl,x+1,aez,iS⟩
 . rintro q s' ⟨rfl,rfl,i,hr,hi⟩
   exact amd h
theorem eqH{a b:Addr}{xa xb:List (K×Addr×Value)}{Q:Value->Shared->Prop}(ha:(a==sysModules)=false)(hb:(b==sysModules)=false)(da:s.heap.DictOfH knd a xa)(db:s.heap.DictOfH knd b xb)(hr:knd.room A.in1)(hu:A.units<cLine)(hlen:xa.length=xb.length)
   (hits:∀x∈xa,∃(j:Nat) (q:Addr×Value),xb[j]? = some (x.1,q)/\SeqAt.EqAt A.in1 s x.2.2 q.2 true) (h:Q (.bool true) s):wpAny (model prog w) A (compareOp .Eq (.ref a) (.ref b)) Q E s:=by
 refine wpAny_richCompare_same_room (op:=.Eq) da.typeIs db.typeIs PySem.F.slot_dict_eq (anf PySem.F.slot_dict_eq da.typeIs PySem.F.entry_dict_eq ?_ (PySem.F.args_dict_eq_2 _ _)) hu
 show wpAny _ _ (Builtin.Dict.dictSlotArgs "__eq__" ⟨[.ref a,.ref b],[]⟩ >>= _) _ _ s
 refine al6 ?_
 unfold Builtin.Dict.dictSlotArgs
 refine al6 (aoC da.typeIs ?_)
 show wpAny _ _ (pure (Value.ref a,Value.ref b)) _ _ s
 refine amd ?_
 refine al6 (aol (T:="dict") db.typeIs PySem.F.sub_dict_dict ?_)
 simp only[Bool.not_true,anN,an1]
 refine al6 (amd (al6 (amd ?_)))
 refine al6 (aaP ha hb da db hr hlen hits ?_)
 refine amd ⟨_,rfl,?_,?_⟩
 . exact fun x=>nomatch x
 . simpa using h
end
end L2
namespace L3
open PySem PySem.Spec PyProof.Rows L2
variable{X:Cx}{CL:Str->Addr}{H:Hp}{gs:List (List Key×V)}
theorem Gf{xs:List (List Key×Addr×Value)}(rel:Paired (fun p q=>p.1=q.1/\H q.2.1=some (.tup (p.1.map kV))/\RelV p.2 q.2.2) gs xs){j:Nat}{y:List Key×Addr×Value}(h:xs[j]? = some y):∃p,gs[j]? = some p/\p.1=y.1/\RelV p.2 y.2.2:=by
 have hl:=an9 rel
 have hj:j<gs.length:=by rw[hl];exact(amf.mp h).1
 obtain⟨y',h1,h2,_,h3⟩:=Paired.Vf rel (al9 hj)
 rw[h]at h1
 cases h1
 exact⟨_,al9 hj,h2,h3⟩
theorem Jc(hu:X.A.units+64<cLine):oq X (compareOp .Eq) (fun x y H Q=>∃a c ga gc,x=.ref a/\y=.ref c/\Rd H a (.dT ga)/\Rd H c (.dT gc)/\ga.length=gc.length/\(∀(j:Nat) (p:List Key×V),ga[j]? = some p->∃(v':V) (d:D),gc[j]? = some (p.1,v')/\jH 60 d/\bu X.K CL H d p.2/\bu X.K CL H d v')/\Q (.bl true) H):=by
 intro pins s σ H x y v u Q I rx ry h
 obtain⟨a,c,ga,gc,rfl,rfl,ra,rc,hl,hits,q⟩:=h
 cases rx
 cases ry
 obtain⟨_,hd,xs,rel,dd⟩:=vK I.cQ ra
 obtain⟨_,hd2,ys,aeA,X5⟩:=vK I.cQ rc
 refine eqH hd hd2 dd X5 (tupleKind_room_in1 (by omega)) (by omega) (by rw[← an9 rel,← an9 aeA,hl]) (fun x hx=>?_) ⟨.bl true,H,I,rfl,q⟩
 obtain⟨j,hj,e⟩:=List.getElem_of_mem hx
 obtain⟨p,hp,p1,p2⟩:=Gf rel (j:=j) (y:=x) (by rw[al9 hj,e])
 obtain⟨v',d,hv,hdp,r1,r2⟩:=hits j p hp
 obtain⟨y,hy,q1,_,q2⟩:=Paired.Vf aeA hv
 obtain⟨as,s1⟩:=uK I hdp r1 p2
 obtain⟨bs,s2⟩:=uK I hdp r2 q2
 refine⟨j,y.2,by rw[hy,← p1];exact congrArg some (Prod.ext q1.symm rfl),?_⟩
 have:=SeqAt.eqAt_reads d.toPy d.toPy X.A.in1 s _ _ as bs s1 s2 hdp.lay.1 hdp.lay.1 (by have:=hdp.lay.2;have e:X.A.in1.units=X.A.units+1:=rfl;omega)
 rwa [show PyData.eqv d.toPy d.toPy=true from lR hdp]at this
variable{b:Bx}{δ δ1 δ2:List (Option T)}{e e1 e2:Expr}{p:List AO}{pos:Pos}{i:Nat}{q:Bool}{kvs:List (List Key×L3.D)}{K:PySem.W.Frag}
theorem cj.Vf{Z:Hp}:∀{kvs:List (List Key×D)} {gs:List (List Key×V)},cj K CL Z kvs gs->∀{j:Nat} {x:List Key×V},gs[j]? = some x->∃d,kvs[j]? = some (x.1,d)/\bu K CL Z d x.2:=fun {kvs gs} h=>cj.ind (P:=fun kvs gs=>∀{j:Nat} {x:List Key×V},gs[j]? = some x->∃d,kvs[j]? = some (x.1,d)/\bu K CL Z d x.2) (fun {j x} e=>by simp at e) (fun {k d v _ _} r _ i {j x} e=>by
   cases j with
   | zero=>
     simp at e
     subst e
     exact⟨d,rfl,r⟩
   | succ j=>
     rw[ao4]at e ⊢
     exact i e) h
theorem cj.pair{Z:Hp}{TH:List (List Key×V)}(r:cj K CL Z kvs gs)(r2:cj K CL Z kvs TH)(hd:∀q∈kvs,jH 60 q.2):gs.length=TH.length/\∀(j:Nat) (p:List Key×V),gs[j]? = some p->∃(v':V) (d:D),TH[j]? = some (p.1,v')/\jH 60 d/\bu K CL Z d p.2/\bu K CL Z d v':=by
 have hl:gs.length=TH.length:=by rw[← r.length,← r2.length]
 refine⟨hl,fun j p hp=>?_⟩
 obtain⟨d,h1,h2⟩:=r.Vf hp
 have hj:j<TH.length:=by rw[← hl];exact(amf.mp hp).1
 obtain⟨d',h3,h4⟩:=r2.Vf (al9 hj)
 rw[h1]at h3
 injection h3 with h3
 injection h3 with h5 h6
 subst h6
 exact⟨TH[j].2,d,by rw[al9 hj,h5],hd _ (amt h1),h2,h4⟩
theorem Vl(hu:X.A.units+64<cLine)(h1:cZ X CL b e1 δ (.dct kvs) δ1)(h2:cZ X CL b e2 δ1 (.dct kvs) δ2)(hd:∀q∈kvs,jH 60 q.2):qA X CL b (.Compare e1 [.Eq] [e2] pos) δ true δ2/\bO X CL b (.Compare e1 [.Eq] [e2] pos) δ (.sh (.bl true)) δ2:=by
 constructor
 . intro H Z σ ts vs Q S k
   refine uE (sf (Jc (CL:=CL) hu) cN cN (oB _)) (h1 H Z σ ts vs _ S fun v1 H1 Z1 z1 k1' S1 r1=>h2 H1 Z1 σ ts vs _ S1 fun v2 H2 Z2 z2 Om S2 r2=>?_)
   have r1:=r1.mono Om
   cases r1 with
   | @dct a gs _ ha rr=>
     cases r2 with
     | @dct c TH _ hc Fe=>
       obtain⟨q1,q2⟩:=rr.pair Fe hd
       exact⟨a,c,gs,TH,rfl,rfl,ha,hc,q1,q2,_,rfl,k H2 Z2 (z1.trans z2) (k1'.trans Om) S2⟩
 . intro H Z σ ts vs Q S k
   refine bW (se (Jc (CL:=CL) hu) cN cN (oB _)) (h1 H Z σ ts vs _ S fun v1 H1 Z1 z1 k1' S1 r1=>h2 H1 Z1 σ ts vs _ S1 fun v2 H2 Z2 z2 Om S2 r2=>?_)
   have r1:=r1.mono Om
   cases r1 with
   | @dct a gs _ ha rr=>
     cases r2 with
     | @dct c TH _ hc Fe=>
       obtain⟨q1,q2⟩:=rr.pair Fe hd
       exact⟨a,c,gs,TH,rfl,rfl,ha,hc,q1,q2,k _ H2 Z2 (z1.trans z2) (k1'.trans Om) (S2.push (.bl _))⟩
namespace Dk
variable{prog:Program}{w:World}{A:Around}{E:Value->Shared->Prop}{s:Shared}{it d:Addr}{ep:Nat}{es:Array DictEntry}{od:Obj}{ok ov:Value}
theorem Lp{Q:Value->Shared->Prop}(hd:(d==sysModules)=false)(hT:s.TypeIs (.ref d) "dict")(hQ:Q (.ref s.heap.objs.size) {s with heap:=s.heap.push {cls:=.type "dict_items",data:=.fields #[.ref d]}}):wpAny (model prog w) A (call (.builtin "dict.items") [.ref d]) Q E s:=by
 refine anf PySem.F.slot_dict_items hT PySem.F.entry_dict_items ?_ (PySem.F.args_dict_items_1 _)
 unfold Builtin.«dict.items» Builtin.Dict.noArgs
 refine al6 (al6 (aoC hT (show wpAny _ _ (pure d) _ _ s from amd ?_)))
 show wpAny _ _ (Builtin.Dict.showsAll d >>= _) _ _ s
 unfold Builtin.Dict.showsAll
 rw[amq (by rw[hd];exact amu)]
 exact al6 (amd (al6 (ank (amd ⟨_,rfl,hQ⟩))))
theorem Gg{v:Addr}{Q:Value->Shared->Prop}(hv:s.heap.IsItemsView v d)(ho:s.heap.get? d=some od)(oS:od.data=.dict es ep)
   (hQ:Q (.ref s.heap.objs.size) {s with heap:=s.heap.push {cls:=.type "dict_itemiterator",data:=.fields #[.none,.bool false,.ref d,.int 0 0,.int es.size 0,.int ep 0,.none,.none]}}):wpAny (model prog w) A (pyIter (.ref v)) Q E s:=by
 obtain⟨ow,hov,hcv,hdv⟩:=id hv
 refine wpAny_pyIter_slot hv.typeIs PySem.F.slot_dict_items_iter (anf PySem.F.slot_dict_items_iter hv.typeIs PySem.F.entry_dict_items_iter (al6 (amd (al6 ?_))) (PySem.F.args_dict_items_iter_1 _))
 unfold Builtin.Dict_items.dictOf
 refine al6 (anY hov hdv (x:=.ref d) rfl (amd (al6 ?_)))
 unfold Builtin.Dict_items.newIterator
 refine al6 (anq ho oS (al6 (aoh ho oS ?_)))
 simp only[show Builtin.Dict_items.ownsTuple "dict_itemiterator" = true by decide,aoy]
 exact wpAny_newObj_type (wpAny_pure ⟨_,rfl,"dict_itemiterator",_,⟨_,Heap.get?_push_size _ rfl,rfl⟩,PySem.F.slot_dict_itemiterator_next.lookup,by simpa [rawInt,Builtin.Dict_items.ownedTupleFields] using hQ⟩) (by simp only[sizeOk,Builtin.Dict_items.ownedTupleFields,List.size_toArray,List.length_append,List.length_cons,List.length_nil,sizeLine_eq];omega)
theorem Gh{Q:Option Value->Shared->Prop}(hit:IsItemIter s.heap it d i es.size ep ok ov)(Pg:s.heap.get? d=some od)(Ph:od.data=.dict es ep){e:DictEntry}(hx:es[i]? = some e)
   (hQ:∀h',IsItemIterOut h' it d (i+1) es.size ep e.key e.val s.heap.objs.size->h'.get? s.heap.objs.size=some {cls:=.type "tuple",data:=.seq #[e.key,e.val]}->(∀b o,b≠it->s.heap.get? b=some o->h'.get? b=some o)->Q (some (.ref s.heap.objs.size)) {s with heap:=h'}) :
   wpAny (model prog w) A (pyNext (.ref it)) Q E s:=by
 obtain⟨hp,g,dr,tk,os⟩:=s
 have hT:Shared.TypeIs ⟨hp,g,dr,tk,os⟩ (.ref it) "dict_itemiterator":=⟨_,hit,rfl⟩
 have Ge:Builtin.Dict_items.ownsTuple "dict_itemiterator" = true:=by decide
 unfold pyNext
 refine al6 (aoo (ans (name:=Str.ofString "__next__") hT anQ (anf anQ hT PySem.F.entry_dict_itemiterator_next (al6 (amd ?_)) (PySem.F.args_dict_itemiterator_next_1 _))))
 refine al6 (al6 (al6 (an5 hT (amd (al6 (wpAny_fieldsOf hit rfl ?_))))))
 simp only[Ge,aoy]
 show wpAny _ _ (if (Value.ref d==Value.none)=true then _ else _) _ _ (⟨hp,g,dr,tk,os⟩:Shared)
 rw[amq (show ¬ ((Value.ref d==Value.none)=true) from amu)]
 refine al6 (amd (al6 (anq Pg Ph ?_)))
 rw[amq (by simp)]
 refine al6 (amd (al6 (aoh Pg Ph ?_)))
 rw[amq (by simp)]
 refine amd ?_
 obtain⟨iS,he⟩:=aoI.mp hx
 simp only[show ¬ ((i:Int)<0) from by omega,an1,amS,aoi iS]
 refine al6 (al6 (an5 hT (amd (al6 (wpAny_isOneOf_itemiter hT ?_)))))
 show wpAny _ _ (setField (.ref it) 3 (rawInt ((i:Int)+1)) >>= _) _ _ (⟨hp,g,dr,tk,os⟩:Shared)
 refine al6 (aos hit (by simp) fun h₁ Jd Je=>?_)
 have Je:Heap.SameBut it hp h₁:=Je
 have Jd:IsItemIter h₁ it d (i+1) es.size ep ok ov:=by
   have e:((i+1:Nat):Int)=(i:Int)+1:=by omega
   unfold IsItemIter
   rw[e]
   simpa [rawInt] using Jd
 have Ys:Shared.TypeIs ⟨h₁,g,dr,tk,os⟩ (.ref it) "dict_itemiterator":=⟨_,Jd,rfl⟩
 refine al6 (anz (al6 (wpAny_isOneOf_itemiter Ys (al6 (wpAny_isOneOf_itemiter Ys ?_)))))
 rw[he]
 show wpAny _ _ (Builtin.Dict_items.pairFromOwner (.ref it) 6 e.key e.val) _ _ (⟨h₁,g,dr,tk,os⟩:Shared)
 unfold Builtin.Dict_items.pairFromOwner
 refine al6 (wpAny_newTuple ?_)
 have Eo:IsItemIter (h₁.push {cls:=.type "tuple",data:=.seq #[e.key,e.val]}) it d (i+1) es.size ep ok ov:=amo _ Jd
 have Yt:h₁.objs.size=hp.objs.size:=Je.1
 have hil:it<hp.objs.size:=amC hit
 have Yu:(h₁.push {cls:=.type "tuple",data:=.seq #[e.key,e.val]}).get? hp.objs.size=some {cls:=.type "tuple",data:=.seq #[e.key,e.val]}:=by rw[← Yt];exact amD _ rfl
 have Yv:∀b o,b≠it->hp.get? b=some o->(h₁.push {cls:=.type "tuple",data:=.seq #[e.key,e.val]}).get? b=some o:=fun b o hb q=>amo _ (Je.extBut b o hb q)
 generalize h₁.push {cls:=.type "tuple",data:=.seq #[e.key,e.val]}=h₂ at Eo Yu Yv ⊢
 show wpAny _ _ (Builtin.Dict_items.ownedTupleIsFree (.ref it) >>= _) _ _ (⟨h₂,g,dr,tk,os⟩:Shared)
 rw[Yt]
 refine al6 ?_
 unfold Builtin.Dict_items.ownedTupleIsFree
 refine al6 (anY Eo rfl (x:=.none) rfl (amd ?_))
 simp only[aoy]
 refine al6 (anY Eo rfl (x:=ok) rfl (al6 (anY Eo rfl (x:=ov) rfl ?_)))
 refine al6 (aos Eo (by simp) fun h₃ Pk Pn=>?_)
 have Pn:Heap.SameBut it h₂ h₃:=Pn
 have Pk:IsItemIter h₃ it d (i+1) es.size ep e.key ov:=Pk
 refine al6 (aos Pk (by simp) fun h₄ Pp Pq=>?_)
 have Pq:Heap.SameBut it h₃ h₄:=Pq
 have Pp:IsItemIter h₄ it d (i+1) es.size ep e.key e.val:=Pp
 refine al6 (aos Pp (by simp) fun h₅ Pr Pu=>?_)
 have Pu:Heap.SameBut it h₄ h₅:=Pu
 have Pr:IsItemIterOut h₅ it d (i+1) es.size ep e.key e.val hp.objs.size:=Pr
 refine al6 (aos Pr (by simp) fun h₆ Pw Px=>?_)
 have Px:Heap.SameBut it h₅ h₆:=Px
 have Pw:IsItemIterOut h₆ it d (i+1) es.size ep e.key e.val hp.objs.size:=Pw
 have fin:∀b o,b≠it->h₂.get? b=some o->h₆.get? b=some o:=fun b o hb q=>Px.extBut b o hb (Pu.extBut b o hb (Pq.extBut b o hb (Pn.extBut b o hb q)))
 exact al6 (wpAny_letGo (amd (amd ⟨_,rfl,amd (hQ h₆ Pw (fin _ _ (aoR hil) Yu) fun b o hb q=>fin b o hb (Yv b o hb q))⟩)))
theorem Lq{Q:Option Value->Shared->Prop}(hh:A.handled=none)(hit:IsItemIter s.heap it d i es.size ep ok ov)(Pg:s.heap.get? d=some od)(Ph:od.data=.dict es ep)(hx:es.size<=i)
   (hQ:∀h',Heap.ExtBut it s.heap h'->Q none {s with heap:=h'}):wpAny (model prog w) A (pyNext (.ref it)) Q E s:=by
 have hT:s.TypeIs (.ref it) "dict_itemiterator":=⟨_,hit,rfl⟩
 have Ge:Builtin.Dict_items.ownsTuple "dict_itemiterator" = true:=by decide
 unfold pyNext
 refine al6 (aoo (ans (name:=Str.ofString "__next__") hT anQ (anf anQ hT PySem.F.entry_dict_itemiterator_next (al6 (amd ?_)) (PySem.F.args_dict_itemiterator_next_1 _))))
 refine al6 (al6 (al6 (an5 hT (amd (al6 (wpAny_fieldsOf hit rfl ?_))))))
 simp only[Ge,aoy]
 show wpAny _ _ (if (Value.ref d==Value.none)=true then _ else _) _ _ s
 rw[amq (show ¬ ((Value.ref d==Value.none)=true) from amu)]
 refine al6 (amd (al6 (anq Pg Ph ?_)))
 rw[amq (by simp)]
 refine al6 (amd (al6 (aoh Pg Ph ?_)))
 rw[amq (by simp)]
 refine amd ?_
 simp only[show ¬ ((i:Int)<0) from by omega,an1,amS,Array.getElem?_eq_none hx]
 refine al6 (al6 (an5 hT (amd ?_)))
 show wpAny _ _ (setField (.ref it) 2 .none >>= _) _ _ s
 refine al6 (aoB hit rfl (by simp) ?_)
 show wpAny _ _ (newExc (.type "StopIteration") [] >>= _) _ _ _
 refine al6 ?_
 simp only[newExc,newTuple]
 refine al6 (ank (al6 (m:=firstArgMember _ _) (wpAny_of_eq (a:=Value.none) (by first|rfl|(simp only[firstArgMember];rfl)) (ank ?_ (by size_fits)))) (by size_fits))
 simp only[raiseNew]
 refine al6 (wpAny_handled ?_)
 rw[show A.in1.handled=none from hh]
 refine al6 (amd (wpAny_throw ?_))
 exact al6 (aol (T:="StopIteration") (b:=true) ⟨_,amD _ rfl,rfl⟩ isSubtype_stop (amd (hQ _ (((anG ..).extBut.push _).push _))))
end Dk
def Iti(a:Addr)(o:Obj)(gs:List (List Key×V)):It:=
 ⟨fun i H=>i<gs.length/\H a=some (.bP o (.dT gs)),fun i H x H'=>∃T b k v,H T=none/\x=.ref T/\gs[i]? = some (k,v)/\H b=some (.tup (k.map kV))/\H'=upd H T (.tup [.ref b,v]),fun i H=>gs.length<=i/\H a=some (.bP o (.dT gs))⟩
theorem Gi{P:Program}{w:World}{elts:List Expr}{kk:Nat}{pt:Pos}{a it:Addr}{o:Obj}{es:Array DictEntry}{ep:Nat}(oS:o.data=.dict es ep):Turn P w K (.Tuple elts kk pt) (Iti a o gs) [it] it (fun i h=>∃ok ov,IsItemIter h it a i es.size ep ok ov) where
 mem:=by simp
 obj:=fun i h st b hb=>by
   obtain⟨ok,ov,he⟩:=st
   have e:b=it:=by simpa using hb
   subst e
   exact⟨_,he,fun v z=>by
     have z':Data.fields _=Data.cell v:=z
     cases z'⟩
 keep:=fun i h h' st k=>by
   obtain⟨ok,ov,he⟩:=st
   exact⟨ok,ov,k it (by simp) _ he⟩
 item:=by
   intro X hP hw hK hc i pins s σ H E I hf st hg
   subst hP hw hK
   obtain⟨iS,ha⟩:=hg
   obtain⟨e,z,y,xs,r,o',MZ,XT,e',c,d,Vg,nd⟩:=(show dw X.prog X.w H s.heap a (.bP o (.dT gs)) from I.cQ a _ ha)
   rw[e]at e'
   cases e'
   rw[oS]at d
   cases d
   obtain⟨ok,ov,he⟩:=st
   have fi:=hf it (by simp)
   have hT0:H s.heap.objs.size=none:=I.cQ.fresh (aml _)
   have fT:=I.zR (aml s.heap.objs.size) hT0
   obtain⟨q,hq,q1,q2,q3⟩:=Paired.Vf r (i:=i) (x:=gs[i]) (al9 iS)
   have hx:es[i]? = some (entryOfKey (tupleKind (fD X.prog X.w)) q):=by
     rw[← aog,Vg,amg,hq]
     rfl
   refine Dk.Gh he e oS hx fun h' ho hT hk=>⟨_,rfl,?_⟩
   refine PySem.wpAny_letOwnedTupleGo_items ho fun h2 he2 wQ=>?_
   have wQ:Heap.SameBut it h' h2:=wQ
   have eT:it<s.heap.objs.size:=amC he
   have keep:∀b ob,b≠it->s.heap.get? b=some ob->h2.get? b=some ob:=fun b ob h1 q=>(wQ.2 b h1).trans (hk b ob h1 q)
   have hT2:h2.get? s.heap.objs.size=some {cls:=.type "tuple",data:=.seq #[.ref q.2.1,q.2.2]}:=(wQ.2 _ (aoR eT)).trans hT
   have nH:∀b ob,H b=some ob->b≠it/\b≠s.heap.objs.size:=fun b ob q=>⟨fun z=>(by rw[z,fi.1]at q;cases q),fun z=>(by rw[z,hT0]at q;cases q)⟩
   have I':L2.Inv X pins σ (upd H s.heap.objs.size (.tup [.ref q.2.1,gs[i].2])) {s with heap:=h2}:=by
     refine I.step (g':=s.gens) (d':=s.drawn) (ch:=[it,s.heap.objs.size]) (fun b hb=>?_) (fun b ob _ _ hc q _=>?_) (fun b ob _ _ hc q _=>⟨ob.slots,?_⟩) (fun b ob hc q n=>?_) (fun b ob hc q=>⟨ob,?_⟩) (fun b ys q=>?_) (fun b ob u q=>?_) (fun b ps q=>⟨#[],?_⟩) (fun m hm=>?_) (fun b ob q=>?_) I.bare
     . rcases ami.mp hb with z|hb
       . subst z;exact⟨fi.2.2.2.1,fi.2.1,fi.2.2.2.2.1,fi.2.2.2.2.2⟩
       . have z:b=s.heap.objs.size:=by simpa using hb
         subst z;exact⟨fT.2.2.2.1,fT.2.1,fT.2.2.2.2.1,fT.2.2.2.2.2⟩
     . exact keep b ob (fun z=>hc (by simp[z])) q
     . exact keep b ob (fun z=>hc (by simp[z])) q
     . rw[ao (fun z=>hc (by simp[z]))];exact n
     . exact keep b ob (fun z=>hc (by simp[z])) q
     . rw[ao (nH b _ q).2];exact q
     . rw[ao (nH b _ q).2];exact q
     . rw[ao (nH b _ q).2,q];simp
     . obtain⟨ob,es,ep,ho,r⟩:=hm
       exact⟨ob,es,ep,keep _ ob (anP fi.2.1) ho,r⟩
     . by_cases hb:b=s.heap.objs.size
       . subst hb
         rw[az]at q
         cases q
         exact⟨anW (g7 (amh rfl)),[.ref _,_],.cons rfl (.cons q3 .nil),⟨_,hT2,rfl,_,rfl⟩⟩
       . rw[ao hb]at q
         refine(I.cQ b ob q).v7 (fun c v hc z=>keep c v ?_ z) (fun c z=>by rw[ao (nH c _ z).2];exact z) (fun c ys z=>by rw[ao (nH c _ z).2];exact z) fun c ys z=>by rw[ao (nH c _ z).2];exact z
         rcases hc with z|z
         . rw[z];exact(nH b _ q).1
         . exact(nH c _ z).1
   refine⟨.ref s.heap.objs.size,_,I',rfl,⟨_,q.2.1,gs[i].1,gs[i].2,hT0,rfl,al9 iS,q2,rfl⟩,⟨_,_,he2⟩,fun b hb=>?_⟩
   have z:b=it:=by simpa using hb
   subst z
   rw[ao (amV eT)]
   exact fi.1
 done:=by
   intro X hP hw hK hc i pins s σ H E I hf st hg
   subst hP hw hK
   obtain⟨hge,ha⟩:=hg
   obtain⟨e,z,y,xs,r,o',MZ,XT,e',c,d,Vg,nd⟩:=(show dw X.prog X.w H s.heap a (.bP o (.dT gs)) from I.cQ a _ ha)
   rw[e]at e'
   cases e'
   rw[oS]at d
   cases d
   obtain⟨ok,ov,he⟩:=st
   obtain⟨f0,f1,f2,f3,f4,f5⟩:=hf it (by simp)
   have hl:=an9 r
   have hsz:es.size=xs.length:=by rw[← aoc,Vg,al8]
   exact Dk.Lq (I.ok.hd hc) he e oS (by omega) fun h' eb=>⟨rfl,I.turned (t':=s.toks) (fun b ob hb e=>eb b ob hb e) f0 f1 f3 f4 f5⟩
 self:=fun _ _ _ _ _ st h=>by
   obtain⟨ok,ov,he⟩:=st
   exact PySem.W.kcp_self he h
def ahI(X:Cx)(te:TE):TI:=fun σ H R=>te σ H fun x H1=>∃a gs,x=.ref a/\((H1 a=some (.dT gs)/\∀o,(∀ob q,X.H₀ a≠some (.bP ob q))->R (Iti a o gs) (upd H1 a (.bP o (.dT gs))))\/∃o,H1 a=some (.bP o (.dT gs))/\R (Iti a o gs) H1)
theorem Py{te:TE}{elts:List Expr}{kk:Nat}{pt apos oh:Pos}(he:PE X e te)(kg:attributeBase e "items" X.env (eval e X.env)=eval e X.env:=by rfl)(hline:(apos.endLine==oh.line)=true:=by rfl):PI X (.Tuple elts kk pt) (.Call (.Attribute e "items" apos) [] [] oh) (ahI X te):=by
 intro pins s σ H R I h
 refine wpAny_Call_method0_late kg hline (dz (he pins s σ H _ I h) fun v s1 zz=>?_)
 obtain⟨x,H1,I1,r1,a,gs,ex,q⟩:=zz
 subst ex
 cases r1
 have main:∀(H2:Hp) (o:Obj),L2.Inv X pins σ H2 s1->H2 a=some (.bP o (.dT gs))->R (Iti a o gs) H2->wpAny (model X.prog X.w) X.A (call (.builtin "dict.items") [.ref a]) (fun v s1=>wpAny (model X.prog X.w) X.A (pyIter v) (PIE X pins σ (.Tuple elts kk pt) R) X.xe s1) X.xe s1:=fun H2 o I2 ha hR=>by
   obtain⟨e,z,y,xs,r,o',es,ep,e',c,d,Vg,nd⟩:=(show dw X.prog X.w H2 s1.heap a (.bP o (.dT gs)) from I2.cQ a _ ha)
   rw[e]at e'
   cases e'
   obtain⟨_,_,_,_,dd⟩:=vK I2.cQ (.inr ⟨o,ha⟩)
   refine Dk.Lp y dd.typeIs (Dk.Gg (s:={s1 with heap:=s1.heap.push _}) ⟨_,amD _ rfl,rfl,rfl⟩ (amo _ e) d ?_)
   have hz:(s1.heap.push {cls:=.type "dict_items",data:=.fields #[.ref a]}).objs.size=s1.heap.objs.size+1:=aoZ ..
   refine⟨s1.heap.objs.size+1,[s1.heap.objs.size+1],_,_,H2,by rw[← hz],I2.kept (t':=s1.toks) fun b ob e=>amo _ (amo _ e),Gi d,⟨.none,.none,by rw[← hz];exact amD _ rfl⟩,fun b hb=>?_,hR⟩
   have e:b=s1.heap.objs.size+1:=by simpa using hb
   subst e
   exact I2.zR (aoJ _) (I2.cQ.fresh (aoJ _))
 have go:wpAny (model X.prog X.w) X.A (call (.builtin "dict.items") [.ref a]) (fun v s1=>wpAny (model X.prog X.w) X.A (pyIter v) (PIE X pins σ (.Tuple elts kk pt) R) X.xe s1) X.xe s1:=by
   rcases q with⟨ha,q⟩|⟨o,ha,q⟩
   . obtain⟨o,e,hz,I2⟩:=I1.aey ha
     exact main _ o I2 az (q o hz)
   . exact main _ o I1 ha q
 have hr:Rd H1 a (.dT gs):=by
   rcases q with⟨ha,_⟩|⟨o,ha,_⟩
   . exact .inl ha
   . exact .inr ⟨o,ha⟩
 obtain⟨_,_,_,_,dd⟩:=vK I1.cQ hr
 have Fd:=dd
 obtain⟨ob,MZ,ep,h1,h2,h3,h4,h5⟩:=Fd
 exact⟨"dict","dict.items",PySem.F.plainAttrs_dict,PySem.F.slot_dict_items,PySem.F.type_dict_items,dd.typeIs,fun a' e'=>⟨ob,by cases e';exact h1,h2.2.1⟩,Calls.callWith_builtin rfl (PySem.evalArgs_none go)⟩
theorem cj.conv{Z Z':Hp}(e:Conv Z Z')(h:cj X.K CL Z kvs gs):cj X.K CL Z' kvs gs:=cj.ind (P:=fun kvs gs=>cj X.K CL Z' kvs gs) .nil (fun r _ i=>.cons (r.conv e) i) h
def vR(X:Cx)(A:Around)(outer:List Env)(q:Str)(scope:Scope)(Nc:List Str)(f c:Addr)(s:Shared)(H:Hp):Cx where
 prog:=X.prog
 w:=X.w
 K:=X.K
 mg:=X.mg
 base:=X.base
 A:=A.deeper (PySem.W.envX q scope s.heap.objs.size f (.ref c) (cT X.env scope.names []))
 N:=Nc
 s₀:=s
 H₀:=H
 env:=PySem.W.envX q scope s.heap.objs.size f (.ref c) (cT X.env scope.names [])
 outer:=outer
 stack:=PySem.W.envX q scope s.heap.objs.size f (.ref c) (cT X.env scope.names [])::outer
 ex:=[]
 fn:=fun _=>false
 calm:=true
 pn:=[]
 xe:=fun _ _=>False
variable{scope:Scope}{x q:Str}{Nc:List Str}{ix:List Nat}{pins:List (Addr×Obj)}{σ:L2.St}{H2:Hp}{s s2:Shared}{A:Around}{outer:List Env}{f c:Addr}{fs:List Addr}
theorem rg(I:L2.Inv X pins σ H s)(un:Un fs [] H H2 s.heap s2.heap)(Pz:∀y c,X.env.cells.lookup y=some c->c∉fs){y:Str}(e:X.env.cells.lookup y=some c){o:Obj}(ho:s.heap.get? c=some o):s2.heap.get? c=some o/\H2 c=none:=
 ⟨un.keep c o ho (I.kQ y c e) (Pz y c e) (by simp),un.free c o ho (I.kQ y c e) (by simp)⟩
theorem Gj(sc:fO X scope x Nc ix)(I:L2.Inv X pins σ H s)(e0:sq X.prog X.w X.K X.mg X.base A outer s2 H2)(hh:A.handled=none)(un:Un fs [] H H2 s.heap s2.heap)(Pz:∀y c,X.env.cells.lookup y=some c->c∉fs){h':Heap}{tk:Nat}{u:Value}{v:V}(r:RelV v u)
   (hn:h'.Ns s2.heap.objs.size (fun y=>([(x,u)]:List (Str×Value)).reverse.lookup y)) (hk:∀b o,s2.heap.get? b=some o->h'.get? b=some o) :
   L2.Inv (vR X A outer q scope Nc f c s2 H2) [] (uI σ ix (some v)) H2 {s2 with heap:=h',toks:=tk}:=by
 have frees:∀y∈scope.names,y.2=.free->∃c,X.env.cells.lookup y.1=some c:=fun y hy e=>I.ok.has y.1 (sc.frees y hy e).2
 have sub:∀{y:Str} {c:Addr},(cT X.env scope.names []).lookup y=some c->X.env.cells.lookup y=some c:=fun {y c} e=>mK frees (fun _ _ z=>by cases z) e
 have hlen:(uI σ ix (some v)).length=Nc.length:=by
   have all:∀l:List Nat,(∀i∈l,∃y,X.N[i]? = some y/\scope.names.lookup y=some .free)->(l.filterMap (X.N[·]?)).length=l.length:=by
     intro l
     induction l with
     | nil=>intro _;rfl
     | cons i r ih=>
       intro h
       obtain⟨y,e,_⟩:=h i ama
       rw[anv,e]
       show _+1=_+1
       rw[ih fun j hj=>h j (ame _ hj)]
   unfold uI
   rw[sc.hd,am8,am8,al8,all ix sc.Yg]
 have nil:∀b:Addr,b∉(vR X A outer q scope Nc f c s2 H2).ex:=fun b z=>absurd (show b∈([]:List Addr) from z) (by simp)
 refine⟨⟨e0.mod,sc.kind,rfl,rfl,aml _,fun y z c h1 h2=>I.ok.inj y z c (sub h1) (sub h2),fun y hy=>?_,fun y c hf _=>(by cases (show false=true from hf)),fun _=>hh,Around.frames_deeper e0.frames,.inr ⟨rfl,rfl⟩,fun b hb=>absurd hb (nil b),e0.bs,e0.Ni,fun b o _=>nil b,fun b hb=>absurd hb (nil b),e0.qQ,e0.T9⟩,
   rfl,e0.bare,Un.kept hk,⟨_,hn,fun i y w h1 h2 h3=>?_⟩,fun y c e=>?_,e0.cQ.fresh (aml _),fun y c e=>?_,fun p hp=>absurd (show p∈([]:List (Addr×Obj)) from hp) (by simp),e0.cQ.kept hk,hlen⟩
 . have hy':scope.names.lookup y=some .cell\/scope.names.lookup y=some .free:=hy
   rcases hy' with z|z
   . exact absurd rfl (sc.uH _ (anw z))
   . exact ko z
 . unfold uI at h2
   cases i with
   | zero=>
     have OB:some (some v)=some (some w):=h2
     cases OB
     have e:y=x:=by
       have Ym:Nc[0]? = some y:=h1
       rw[sc.hd]at Ym
       exact(amA Ym).symm
     subst e
     refine⟨u,r,.inl ⟨sc.own,?_⟩⟩
     simp
   | succ i=>
     rw[ao4,amg]at h2
     cases ei:ix[i]? with
     | none=>rw[ei]at h2;cases h2
     | some j=>
       rw[ei]at h2
       have OB:(σ[j]?).getD none=some w:=amA h2
       have hj:σ[j]? = some (some w):=by
         cases q:σ[j]? with
         | none=>rw[q]at OB;cases OB
         | some o=>rw[q]at OB;exact congrArg some OB
       obtain⟨y',Yl,FZ⟩:=sc.Yg j (amt ei)
       have hNc:Nc[i+1]? = some y':=by
         have all:∀(l:List Nat) (i:Nat),(∀j∈l,∃y,X.N[j]? = some y/\scope.names.lookup y=some .free)->l[i]? = some j->(l.filterMap (X.N[·]?))[i]? = some y':=by
           intro l
           induction l with
           | nil=>intro i _ h;simp at h
           | cons a r ih=>
             intro i h hi
             obtain⟨ya,ea,_⟩:=h a ama
             rw[anv,ea]
             cases i with
             | zero=>
               simp at hi
               subst hi
               rw[Yl]at ea
               cases ea
               rfl
             | succ i=>exact ih i (fun j hj=>h j (List.mem_cons_of_mem _ hj)) (by simpa using hi)
         rw[sc.hd,ao4]
         exact all ix i sc.Yg ei
       have ey:y'=y:=by
         have Ym:Nc[i+1]? = some y:=h1
         rw[hNc]at Ym
         exact amA Ym
       subst ey
       have sr:=(sc.frees (y',.free) (anw FZ) rfl).2
       have aao:XS X.env.scope y':=sr.elim (fun z=>.inr (.inl z)) (fun z=>.inr (.inr z))
       obtain⟨m0,hn0,hl0⟩:=I.loc
       obtain⟨u',ru,lk⟩:=hl0 j y' w Yl hj aao
       refine⟨u',ru,?_⟩
       rcases lk with⟨kk,_⟩|⟨_,c',hc,qG⟩
       . rcases sr with z|z
         . rw[kk]at z;cases z
         . rw[kk]at z;cases z
       . obtain⟨c2,Kp⟩:=ko (env:=X.env) (cs:=[]) FZ
         have:c2=c':=by
           have:=sub Kp
           rw[hc]at this
           exact(amA this).symm
         subst this
         obtain⟨o,ho,hd⟩:=qG
         exact .inr ⟨.inr FZ,c2,Kp,o,hk _ _ (rg I un Pz hc ho).1,hd⟩
 . obtain⟨v,o,ho,hd⟩:=I.cell y c (sub e)
   exact⟨v,o,hk _ _ (rg I un Pz (sub e) ho).1,hd⟩
 . obtain⟨v,o,ho,hd⟩:=I.cell y c (sub e)
   exact(rg I un Pz (sub e) ho).2
theorem Lr{params:Arguments}{body:Expr}{u:Value}{v:V}{Q:VK}{E:XK}(sc:fO X scope x Nc ix)(I:L2.Inv X pins σ H s)(e0:sq X.prog X.w X.K X.mg X.base A outer s2 H2)(hh:A.handled=none)(un:Un fs [] H H2 s.heap s2.heap)(Pz:∀y c,X.env.cells.lookup y=some c->c∉fs)(aeB:A.depth<recursionLimit)
   (hf:H2 f=some (.ext (Ga f q params body scope (cT X.env scope.names []) c))) (hc:H2 c=some (.uA q)) (r:RelV v u)
   (Eh:∀cl pm cd ct u,bindArgs (PySem.W.kla_fn "<lambda>" q params body scope cl pm cd ct) ⟨[u],[]⟩=pure [(x,u)]) (hco:scope.isCoroutine=false) (aaR:scope.isGenerator=false)
   (h:DZ (vR X A outer q scope Nc f c s2 H2) body (uI σ ix (some v)) H2 Q):codeAny (model X.prog X.w) A (.call (.ref f) ⟨[u],[]⟩) (CR ou outer X.prog X.w H2 s2 Q E) s2:=by
 obtain⟨⟨pm,ctv,ho⟩,_⟩:=e0.cQ _ _ hf
 obtain⟨oc,vs,t,e1,e2,e3⟩:=e0.cQ _ _ hc
 have lim:s2.heap.NoLimit:=e0.mod.nolimit.keeps fun b o e=>(e0.bs b o e).1
 refine PySem.W.kla_callFunE aeB ho rfl hco aaR rfl ⟨c,oc,vs,t,rfl,e1,e2,e3⟩ ?_
 rw[Eh]
 refine amd (wpAny_newFunctionEnv sc.uH (fun y hy=>?_) (fun h₁ hns hsb=>?_) sc.kind)
 . rw[amM.mp hy]
   exact sc.own
 . have hk:∀b o,s2.heap.get? b=some o->h₁.get? b=some o:=fun b o e=>(hsb.2 b (amV (amC e))).trans (amo _ e)
   refine⟨lim.keeps hk,?_⟩
   show codeAny _ _ (.expr body (PySem.W.envX q scope s2.heap.objs.size f (.ref c) (cT X.env scope.names []))) _ _
   have J:=Gj (q:=q) (f:=f) (c:=c) (tk:=s2.toks+([(x,u)]:List (Str×Value)).length) sc I e0 hh un Pz r hns hk
   refine PySem.W.kla_codeExpr (anC (h [] _ J) (fun w s' hl=>?_) fun e s' hx=>False.elim hx)
   obtain⟨v',H',J',rv,hq⟩:=hl
   exact⟨v',H',J'.os,J'.bare,J'.base,J'.cQ,rv,hq⟩
abbrev SpS:=Shared->Sp
structure PD(P:Program)(w:World)(K:PySem.W.Frag)(mg:Str->Option Value)(base:Heap)(k:Nat)(f:Addr)(fd:FuncData)(ps:List Str)(sp:Around->List Env->SpS):Prop where
 len:∀A outer s vs H Q E,sp A outer s vs H Q E->vs.length=ps.length
 run:∀(A:Around) (outer:List Env) (s:Shared) (H:Hp) (args:Args) (us:List Value) (vs:List V) (Q:VK) (E:XK),dW k A->sq P w K mg base A outer s H->BindsTo s fd args (ps.zip us)->Vals vs us->sp A outer s vs H Q E->codeAny (model P w) A (.call (.ref f) args) (CR ou outer P w H s Q E) s
structure Yw(P:Program)(w:World)(K:PySem.W.Frag)(mg:Str->Option Value)(base:Heap)(CL:Str->Addr)(k:Nat)(f:Addr)(fs:List Addr)(s:Shared)(H W:Hp){B:Type}(arg:B->L3.D)(Pre:B->Prop)(res:B->T):Prop where
 fn:∀(s2:Shared) (H2:Hp),aA H H2->qF P w H2 s2.heap->PySem.W.FnAt f s2.heap
 run:∀(Ar:Around) (outer:List Env) (s2:Shared) (H2 W2:Hp) (a:B) (u:Value) (v:V) (Q:VK) (E:XK),dW k Ar->sq P w K mg base Ar outer s2 H2->Un fs [] H H2 s.heap s2.heap->aA H H2->aA W W2->aA W2 H2->(∀c o,H2 c=some o->iL o=true->W2 c=some o)->Pre a->bu K CL W2 (arg a) v->RelV v u->lu CL W2 →
   (∀v H' W' fp,aA H2 H'->aA W2 W'->aA W' H'->(∀c o,W' c=some o->W2 c=none->H2 c=none)->(∀c o,H' c=some o->iL o=true->W' c=some o)->bB K CL H' W' (res a) v fp->fp.Nodup->(∀c∈fp,W' c=none/\H2 c=none)->Q v H') →
   codeAny (model P w) Ar (.call (.ref f) ⟨[u],[]⟩) (CR ou outer P w H2 s2 Q E) s2
variable{pp:Pos}{W:Hp}{B:Type}{k:Nat}{arg:B->L3.D}{Pre:B->Prop}{res:B->T}
theorem Ep(a:B)(n:Vn X i x)(hd:δ[i]? = some (some (.sh (.val (.ref f)))))(hx:X.ex=[])(O:Yw X.prog X.w X.K X.mg X.base CL k f X.fs X.s₀ X.H₀ W arg Pre res)(hb:b=⟨X.H₀,W⟩)(hr:dW k X.A)(h:N6 X CL b [e] δ [arg a] δ1)(hp:Pre a)(hc:(res a).clean=true)
   (he:starEach [e] X.env=(false,eval e X.env)::starEach [] X.env:=by exact bA rfl):bO X CL b (.Call (.Name x pp) [e] [] pos) δ (res a) δ1:=fun H Z σ ts vs Q S kk pins s I=>by
 subst hb
 obtain⟨fv,hv,r⟩:=S.look hd
 rw[T.bP]at r
 cases r
 have hA:KS X [e] σ H fun us H1=>∃Z1,aA Z Z1/\aA H H1/\bH X.K CL ⟨X.H₀,W⟩ H1 Z1 δ1 σ ts vs/\ay X.K CL H1 [arg a] us:=h H Z σ ts vs _ S fun us H1 Z1 z1 k1 S1 r=>⟨Z1,z1,k1,S1,r⟩
 refine anK (dz (g8 (pos:=pp) n.hi n.hv n.hd n.iO pins s σ H (fun v' H'=>v'=.ref f/\H'=H) I ⟨_,hv,rfl,rfl⟩) fun u0 s0 zz=>?_)
 obtain⟨v',H0,I0,r0,e1,e2⟩:=zz
 subst e1
 subst e2
 obtain rfl:u0=Value.ref f:=r0
 refine PySem.W.callWith_F (first:=[]) (O.fn s0 H0 S.bh I0.cQ) (dz (hA pos pins s0 I0) fun us s1 zz=>?_) he rfl
 obtain⟨ws,H1,I1,r,Z1,z1,k1,S1,rf⟩:=zz
 refine⟨O.fn s1 H1 S1.bh I1.cQ,?_⟩
 cases rf with
 | cons ra rn=>
   cases rn
   obtain⟨u,rfl,ru⟩:=vals1 r
   show wpAny _ _ (call (.ref f) [u]) _ _ s1
   have un:Un X.fs [] X.H₀ H1 X.s₀.heap s1.heap:=by
     have:=I1.base
     rwa [hx]at this
   refine wpAny_call (aoS (O.run X.A X.stack s1 H1 H1 a u _ Q (fun _ _ _=>False) hr I1.Ul un S1.bh (S1.zz.trans S1.zh) (.refl _) (fun _ _ q _=>q) hp ra ru S1.KY fun v H' W' fp hh ww wh nw tp rt nd own=>?_) fun rr s' hq=>?_)
   . obtain⟨Z',z',S'⟩:=S1.back hh S1.zh ww wh nw tp rt nd own (.inr hc)
     exact kk v H' Z' (z1.trans z') (k1.trans hh) S'
   . cases rr with
     | error e=>exact DX pins σ H1 s1 e s' I1 hq
     | ok fl=>
       cases fl with
       | ret u=>exact I1.after hq
       | next=>exact False.elim hq
       | brk=>exact False.elim hq
       | cont=>exact False.elim hq
theorem Ls(I:L2.Inv X pins σ H s)(Ko:∀y,X.fn y=true):∀y c,X.env.cells.lookup y=some c->c∉Ao X.stack:=fun y c e hm=>by
 have hge:=I.ok.cab y c (Ko y) e
 obtain⟨v,o,ho,hd⟩:=I.cell y c e
 have old:c∉Ao X.outer:=fun h=>by
   obtain⟨_,o',h',_⟩:=I.ok.qQ.mem h
   exact absurd (amC h') (Nat.not_lt.mpr hge)
 rcases I.ok.stk with z|⟨z,z2⟩
 . rw[z]at hm
   exact old hm
 . rw[z]at hm
   unfold Ao at hm
   rw[anv,z2]at hm
   rcases ami.mp hm with q|q
   . subst q
     obtain⟨m,⟨ob,es,ep,h1,h2,h3,_⟩,_⟩:=I.loc
     rw[ho]at h1
     cases h1
     rw[hd]at h2
     cases h2
   . exact old q
def spO(P:Program)(w:World)(K:PySem.W.Frag)(mg:Str->Option Value)(base:Heap)(CL:Str->Addr)(k:Nat){A:Type}(n:Nat)(arg:A->Addr->Addr->List D)(Pre:A->Prop)(res:A->T)(enc:B->D)(yC uR:A->B->Prop)(r1 r2:A->B->T):Around->List Env->SpS:=fun _ outer s vs H Q _=>
 ∃(W:Hp) (a:A) (f1 f2:Addr),aA W H/\(∀c o,H c=some o->iL o=true->W c=some o)/\ay K CL W (arg a f1 f2) vs/\(arg a f1 f2).length=n/\Pre a/\lu CL W/\Yw P w K mg base CL k f1 (Ao outer) s H W enc (yC a) (r1 a)/\Yw P w K mg base CL k f2 (Ao outer) s H W enc (uR a) (r2 a) ∧
   ∀v H' W' fp,aA H H'->aA W W'->aA W' H'->(∀c o,W' c=some o->W c=none->H c=none)->(∀c o,H' c=some o->iL o=true->W' c=some o) →
     bB K CL H' W' (res a) v fp->fp.Nodup->(∀c∈fp,W' c=none/\H c=none)->Q v H'
theorem PF{P:Program}{w:World}{mg:Str->Option Value}{base:Heap}{qual:Str}{st:Stmt}{fd:FuncData}{N ps:List Str}{k2:Nat}{A:Type}{arg:A->Addr->Addr->List D}{Pre:A->Prop}{res:A->T}{enc:B->D}{yC uR:A->B->Prop}{r1 r2:A->B->T}(F:kh K x qual st f fd)(S:aP N ps (ak st))
   (hb:∀(gB:Value) (Ar:Around) (outer:List Env) (s:Shared) (H W:Hp) (E:XK) (a:A) (f1 f2:Addr),dW k (Ar.deeper (envOfC qual (ak st) s.heap.objs.size f gB))->Pre a->Yw P w K mg base CL k2 f1 (Ao outer) s H W enc (yC a) (r1 a)->Yw P w K mg base CL k2 f2 (Ao outer) s H W enc (uR a) (r2 a) →
     dZ (n9 ou P w K mg base N qual (ak st) f gB Ar outer s H E).E7 CL ⟨H,W⟩ (ez st) (entry N (arg a f1 f2)) {nx:=fun _=>res a=.sh .non,rt:=fun t _=>t=res a}) :
   PD P w K mg base (k+1) f fd ps (spO P w K mg base CL k2 ps.length arg Pre res enc yC uR r1 r2):=by
 obtain⟨oc,od,kV,doc,pm,an,gB,ct,KC,rfl,lk,iO⟩:=F.ex
 have len:∀A outer s vs H Q E,spO P w K mg base CL k2 ps.length arg Pre res enc yC uR r1 r2 A outer s vs H Q E->vs.length=ps.length:=fun A outer s vs H Q E h=>by
   obtain⟨W,a,f1,f2,_,_,r,hl,_⟩:=h
   rw[← r.length];exact hl
 refine⟨len,fun A outer s H args us vs Q E hr e0 Yx r E9=>?_⟩
 have hl:=len _ _ _ _ _ _ _ E9
 have KX:K.In s.heap:=e0.mod.kin.keeps fun b o e=>(e0.bs b o e).1
 have lim:s.heap.NoLimit:=e0.mod.nolimit.keeps fun b o e=>(e0.bs b o e).1
 have sr:∀y∈ps.zip us,(ak st).names.lookup y.1=some .local\/((ak st).names.lookup y.1=some .cell/\((cellsFrom (s.heap.objs.size+1) (ak st).names []).lookup y.1).isSome=true):=fun⟨n,v⟩ hy=>by
   rcases S.par n (List.of_mem_zip hy).1 with q|q
   . exact .inl q
   . exact .inr ⟨q,PySem.W.cellsFrom_some _ _ _ (.inl q)⟩
 refine codeAny_call_function hr.depth (KX _ _ lk) rfl S.co S.gen rfl (PySem.W.codeRec_of KX iO) (Yx _ _ _ _ ?_)
 refine wpAny_newFunctionEnv_cells S.kind sr fun env he s1 x=>?_
 subst he
 refine⟨lim.keeps x.toInCall.keep,codeAny_func ?_⟩
 have I:L2.Inv (n9 ou P w K mg base N qual (ak st) f gB A outer s H E) [] (start N vs) H s1:=Ax S hr.hd e0 hl r x
 obtain⟨W,a,f1,f2,wh,tp,rf,hln,hp,tb,o1,o2,kk⟩:=E9
 have h0:fE K CL H W (entry N (arg a f1 f2)) (start N vs) []:=by
   unfold entry L2.start
   rw[← rf.length]
   exact iR _ rf
 have h9:∀c o,W c=some o->W c=none->H c=none:=fun c o q z=>by rw[q]at z;cases z
 have body:=hb gB A outer s H W E a f1 f2 (hr.deeper _) hp o1 o2 H W (start N vs) [] [] {nx:=fun _ H'=>Q .non H',rt:=Q} ⟨⟨[],[],h0,.nil,ang,fun a ha=>by cases ha⟩,.refl _,.refl _,wh,h9,tp,tb⟩ ⟨fun δ' σ' H' Z' s' S' e=>kk .non H' Z' [] S'.bh S'.zz S'.zh S'.new S'.tp (by rw[show res a=.sh .non from e];exact .sh .non) ang fun a ha=>(by cases ha),fun t v H' Z' δ' σ' s' S' e=>(by
     have e':t=res a:=e
     subst e'
     obtain⟨fp,gp,_,r',nd,own⟩:=S'.rep
     cases r' with
     | @cons _ _ _ _ g1 g2 q1 q2=>
       have h1:=(amK.mp nd).2.1
       exact kk v H' Z' g1 S'.bh S'.zz S'.zh S'.new S'.tp q1 (amK.mp h1).1 fun a ha=>own a (amc _ (amk _ ha))),fun _ _ _ _ _ _ e=>e.elim,fun _ _ _ _ _ _ e=>e.elim⟩
 have nb:E6 (n9 ou P w K mg base N qual (ak st) f gB A outer s H E).E7 (ez st) (Uz (n9 ou P w K mg base N qual (ak st) f gB A outer s H E).E7 (ez st)):=M3
 refine anC (nb.E7 [] s1 (start N vs) H _ I body) (fun fl s' hs=>?_) fun e s' hs=>hs
 have fin:∀{σ':L2.St} {H':Hp} {v:V} {u:Value},L2.Inv (n9 ou P w K mg base N qual (ak st) f gB A outer s H E) [] σ' H' s'->RelV v u->Q v H'->CE outer P w H s Q u s':=fun {σ' H' v u} J rv q=>⟨v,H',J.os,J.bare,J.base,J.cQ,rv,q⟩
 cases fl with
 | ret u=>
   obtain⟨v,σ',H',J,rv,q⟩:=hs
   exact fin J rv q
 | next=>
   obtain⟨σ',H',J,q⟩:=hs
   exact fin (v:=V.non) (u:=Value.none) J rfl q
 | brk=>
   obtain⟨_,_,_,q⟩:=hs
   exact False.elim q
 | cont=>
   obtain⟨_,_,_,q⟩:=hs
   exact False.elim q
structure FcO(X:Cx)(CL:Str->Addr)(x:Str)(k k2 n:Nat){A B:Type}(arg:A->Addr->Addr->List D)(Pre:A->Prop)(res:A->T)(enc:B->D)(yC uR:A->B->Prop)(r1 r2:A->B->T):Prop where
 ex:∃f fd ps,PD X.prog X.w X.K X.mg X.base k f fd ps (spO X.prog X.w X.K X.mg X.base CL k2 n arg Pre res enc yC uR r1 r2)/\X.mg x=some (.ref f)/\PySem.W.keepIn X.K (.ref f)=true/\Binds X.K fd ps []
 room:dW k X.A
def PJ(X:Cx)(CL:Str->Addr)(k2:Nat)(q:Str)(scope:Scope)(Nc:List Str)(body:Expr)(δc:List (Option T))(enc:B->D)(uR:B->Prop)(r:B->T):Prop:=
 ∀(Ar:Around) (outer:List Env) (f c:Addr) (s:Shared) (H:Hp) (b':Bx) (p:B),dW k2 Ar->uR p->bO (vR X Ar outer q scope Nc f c s H) CL b' body (some (.sh (enc p))::δc) (r p) (some (.sh (enc p))::δc)
variable{e0:Expr}{tx:Str}{A:Type}{k2:Nat}{d0:D}{arg:A->Addr->Addr->List D}{Pre:A->Prop}{res:A->T}{enc:B->D}{yC uR:A->B->Prop}{r1 r2:A->B->T}
theorem PK{H1 H3 Z1:Hp}{s1:Shared}{ts:List T}{vs:List V}{params:Arguments}{body:Expr}{y:Str}{PB:B->Prop}{r:B->T}(Ko:∀y,X.fn y=true)(sc:fO X scope y Nc ix)(I:L2.Inv X pins σ H3 s1)(S1:bH X.K CL b H1 Z1 δ1 σ ts vs)(TJ:aA H1 H3)
   (hf:H3 f=some (.ext (Ga f q params body scope (cT X.env scope.names []) c))) (hc:H3 c=some (.uA q)) (yq:PJ X CL k2 q scope Nc body (wj δ1 ix) enc PB r)
   (Eh:∀cl pm cd ct u,bindArgs (PySem.W.kla_fn "<lambda>" q params body scope cl pm cd ct) ⟨[u],[]⟩=pure [(y,u)]) (hco:scope.isCoroutine=false) (aaR:scope.isGenerator=false) :
   Yw X.prog X.w X.K X.mg X.base CL k2 f (Ao X.stack) s1 H3 H3 enc PB r:=by
 refine⟨fun s2 H2 sH cQ=>?_,fun Ar outer s2 H2 W2 p u v Q E hr2 e0 un sH sW wh tp hpb rp ru tb kq=>?_⟩
 . obtain⟨⟨pm,ctv,e⟩,_⟩:=cQ _ _ (sH _ _ hf)
   exact⟨_,_,_,_,e⟩
 . refine Lr sc I e0 hr2.hd un (Ls I Ko) hr2.depth (sH _ _ hf) (sH _ _ hc) ru Eh hco aaR ?_
   have S0:bH X.K CL ⟨H2,W2⟩ H2 W2 (some (.sh (enc p))::wj δ1 ix) (uI σ ix (some v)) [] []:=
     ⟨⟨[]++[],[],.cons (.sh rp) ((yh S1 ix H2).mono (TJ.trans sW) fun a ha=>by cases ha),.nil,ang,fun a ha=>by cases ha⟩,.refl _,.refl _,wh,fun a o q z=>(by have z':W2 a=none:=z;rw[show W2 a=some o from q]at z';cases z'),tp,tb⟩
   refine yq Ar outer f c s2 H2 ⟨H2,W2⟩ p hr2 hpb H2 W2 _ [] [] _ S0 fun v' H5 Z5 z5 k5 S5=>?_
   obtain⟨fp,gp,_,r',nd,own⟩:=S5.rep
   cases r' with
   | @cons _ _ _ _ g1 g2 q1 q2=>
     have h1:=(amK.mp nd).2.1
     exact kq v' H5 Z5 g1 S5.bh S5.zz S5.zh S5.new S5.tp q1 (amK.mp h1).1 fun a ha=>own a (amc _ (amk _ ha))
theorem Lv{TL M5:Arguments}{qJ nX:Expr}{iw gI:Scope}{lp1 Vm:Pos}{y1 y2:Str}{Nc1 Nc2:List Str}{ix1 ix2:List Nat}(a:A)(F:FcO X CL x k k2 3 arg Pre res enc yC uR r1 r2)(hg:Gl X x)(L:U6 X CL tx q)(Ko:∀y,X.fn y=true)(sc1:fO X iw y1 Nc1 ix1)(sc2:fO X gI y2 Nc2 ix2)
   (h0:cZ X CL b e0 δ d0 δ1) (aeD:∀f1 f2,arg a f1 f2=[d0,.val (.ref f1),.val (.ref f2)]) (hp:Pre a) (hc:(res a).clean=true) (in1:PJ X CL k2 q iw Nc1 qJ (wj δ1 ix1) enc (yC a) (r1 a)) (in2:PJ X CL k2 q gI Nc2 nX (wj δ1 ix2) enc (uR a) (r2 a))
   (hd1:defaultsOf TL X.env=([],[]):=by rfl) (hd2:defaultsOf M5 X.env=([],[]):=by rfl)
   (hb1:∀cl pm cd ct u,bindArgs (PySem.W.kla_fn "<lambda>" q TL qJ iw cl pm cd ct) ⟨[u],[]⟩=pure [(y1,u)]:=by intros;rfl) (hb2:∀cl pm cd ct u,bindArgs (PySem.W.kla_fn "<lambda>" q M5 nX gI cl pm cd ct) ⟨[u],[]⟩=pure [(y2,u)]:=by intros;rfl)
   (ahK:iw.isCoroutine=false:=by rfl) (aeF:iw.isGenerator=false:=by rfl) (ahL:gI.isCoroutine=false:=by rfl) (aeG:gI.isGenerator=false:=by rfl)
   (wc:(x==("__debug__":Str))=false:=by decide)
   (i7:starEach [e0,.Lambda TL qJ iw lp1,.Lambda M5 nX gI Vm] X.env=(false,eval e0 X.env)::starEach [.Lambda TL qJ iw lp1,.Lambda M5 nX gI Vm] X.env:=by exact bA rfl)
   (wQ:starEach [.Lambda TL qJ iw lp1,.Lambda M5 nX gI Vm] X.env=(false,eval (.Lambda TL qJ iw lp1) X.env)::starEach [.Lambda M5 nX gI Vm] X.env:=by exact bA rfl)
   (hs3:starEach [.Lambda M5 nX gI Vm] X.env=(false,eval (.Lambda M5 nX gI Vm) X.env)::starEach [] X.env:=by exact bA rfl)
   (hpl:(backTo pos (starEach [.Lambda TL qJ iw lp1,.Lambda M5 nX gI Vm] X.env)).any (·.1)=false:=by rfl) :
   bO X CL b (.Call (.Name x pp) [e0,.Lambda TL qJ iw lp1,.Lambda M5 nX gI Vm] [] pos) δ (res a) δ1:=fun H Z σ ts vs Q S kk pins s I=>by
 obtain⟨f,fd,ps,G,hm,hk,hb⟩:=F.ex
 have hA:KS X [e0,.Lambda TL qJ iw lp1,.Lambda M5 nX gI Vm] σ H fun us H3=>∃v0 Z1 H1 f1 c1 f2 c2,us=[v0,.ref f1,.ref f2]/\aA Z Z1/\aA H H1/\bH X.K CL b H1 Z1 δ1 σ ts vs/\bu X.K CL H1 d0 v0/\aA H1 H3/\H3 f1=some (.ext (Ga f1 q TL qJ iw (cT X.env iw.names []) c1))/\H3 c1=some (.uA q)/\H3 f2=some (.ext (Ga f2 q M5 nX gI (cT X.env gI.names []) c2))/\H3 c2=some (.uA q):=
   N2 (b8 cN (b8 cN (b8 cN dY hs3) wQ) i7) (h0 H Z σ ts vs _ S fun v0 H1 Z1 z1 k1 S1 r0=>fun ai6 s1 I1=>by
     have aeH:H1 (CL tx)=some (.tabs q):=by
       have:=S1.KY tx L.tab.1 L.tab.2.1
       rw[L.tab.2.2]at this
       exact this
     refine OY L I1 aeH (fun y hy e=>I1.ok.has y.1 (sc1.frees y hy e).2) hd1 fun f1 c1 H2 s2 I2 k2 hf1 hc1 im1=>⟨.ref f1,H2,I2,rfl,fun ai7 s3 I3=>?_⟩
     exact OY L I3 (k2 _ _ aeH) (fun y hy e=>I3.ok.has y.1 (sc2.frees y hy e).2) hd2 fun f2 c2 H3 s4 I4 k3 hf2 FE im2=>⟨.ref f2,H3,I4,rfl,v0,Z1,H1,f1,c1,f2,c2,rfl,z1,k1,S1,r0,k2.trans k3,k3 _ _ hf1,k3 _ _ hc1,hf2,FE⟩)
 refine anK (r6 I hg hm ?_ wc)
 refine PySem.W.callWith_K (h₀:=X.base) I.ok.mod.kin hk (dz (hA pos pins s I) fun us s1 zz=>?_) i7 hpl
 obtain⟨ws,H3,I3,r,v0,Z1,H1,f1,c1,f2,c2,rfl,z1,k1,S1,r0,TJ,hf1,hc1,hf2,FE⟩:=zz
 refine⟨I3.Aq,?_⟩
 have E9:spO X.prog X.w X.K X.mg X.base CL k2 3 arg Pre res enc yC uR r1 r2 X.A X.stack s1 [v0,.ref f1,.ref f2] H3 Q (fun _ _ _=>False):=by
   refine⟨H3,a,f1,f2,.refl _,fun _ _ q _=>q,by rw[aeD];exact .cons (r0.mono TJ) (.cons (.val _) (.cons (.val _) .nil)),by rw[aeD];rfl,hp,S1.KY.mono TJ,PK Ko sc1 I3 S1 TJ hf1 hc1 in1 hb1 ahK aeF,PK Ko sc2 I3 S1 TJ hf2 FE in2 hb2 ahL aeG,fun v H' W' fp hh ww wh nw tp rt nd own=>?_⟩
   obtain⟨Z',z',S'⟩:=S1.back (TJ.trans hh) S1.zh (TJ.trans ww) wh (fun a o q z=>z) tp rt nd (fun c hc=>⟨(own c hc).1,TJ.free (own c hc).2⟩) (.inr hc)
   exact kk v H' Z' (z1.trans z') ((k1.trans TJ).trans hh) S'
 have hl:us.length=ps.length:=by rw[← r.length];exact G.len _ _ _ _ _ _ _ E9
 have Yx:=hb s1 us I3.Aq (by rw[amQ];exact hl)
 rw[amQ]at Yx
 refine wpAny_call (aoS (G.run X.A X.stack s1 H3 ⟨us,[]⟩ us _ Q (fun _ _ _=>False) F.room I3.Ul Yx r E9) fun rr s' hq=>?_)
 cases rr with
 | error e=>exact DX pins σ H3 s1 e s' I3 hq
 | ok fl=>
   cases fl with
   | ret u=>exact I3.after hq
   | next=>exact False.elim hq
   | brk=>exact False.elim hq
   | cont=>exact False.elim hq
variable{A:Around}
theorem PL(h1:Nc[i]? = some x)(h2:scope.names.lookup x=some .local)(hd:(x==("__debug__":Str))=false:=by decide)(iO:(x==("__classdict__":Str))=false:=by decide):Vn (vR X A outer q scope Nc f c s H) i x:=⟨h1,.inl h2,hd,iO⟩
theorem Gk(h1:Nc[i]? = some x)(h2:scope.names.lookup x=some .free)(hd:(x==("__debug__":Str))=false:=by decide)(iO:(x==("__classdict__":Str))=false:=by decide):Vn (vR X A outer q scope Nc f c s H) i x:=⟨h1,.inr (.inr h2),hd,iO⟩
theorem PN(h2:scope.names.lookup x=some .globalImplicit):Gl (vR X A outer q scope Nc f c s H) x:=h2
theorem Yy{n:Nat}{arg:B->List L3.D}{Pre:B->Prop}{res:B->T}(F:Fc X CL x k n arg Pre res)(r:dW (k+1) A):Fc (vR X A outer q scope Nc f c s H) CL x k n arg Pre res:=⟨F.ex,r.deeper _⟩
theorem PR{kj:Nat}{p2:Pos}{ds:List L3.D}(h:cZ X CL b e1 δ (.tup ds) δ1):qA X CL b (.Compare e1 [.IsNot] [.Constant .none kj p2] pos) δ true δ1:=fun H Z σ ts vs Q S k=>
 uE (xW (Ih cN)) (h H Z σ ts vs _ S fun v H1 Z1 z1 k1 S1 r=>by
     cases r with
     | tup hq rr=>exact⟨_,rfl,by simpa using k H1 Z1 z1 k1 S1⟩)
end L3
namespace L2
open PySem PySem.Spec PyProof.Rows
variable{prog:Program}{w:World}{A:Around}{E:Value->Shared->Prop}{s:Shared}
theorem sR{t sl:Addr}{items:Array Value}{vl vu:Value}{lo hi:Option Int}{Q:Value->Shared->Prop}(ht:IsTup s.heap t items)(hs:s.heap.IsSliceOf sl vl vu .none)(pl:IsPart vl lo)(pu:IsPart vu hi)
   (hw:HT.f7 items.size 0 lo=0/\HT.f7 items.size items.size hi=items.size) (h:Q (.ref t) s):wpAny (model prog w) A (getItem (.ref t) (.ref sl)) Q E s:=by
 obtain⟨os,Uq,hcs,hds⟩:=id hs
 have hTs:s.TypeIs (.ref sl) "slice":=⟨os,Uq,hcs⟩
 unfold getItem
 try with_reducible refine anz ?_
 first|refine al6 (amd ?_)|skip
 refine al6 (wpAny_sequenceKey ht.typeIs (by decide) ?_)
 refine al6 (ans (name:=Str.ofString "__getitem__") ht.typeIs anr
   (anf anr ht.typeIs entry_tuple_getitem ?_ (args_tuple_getitem _ _)))
 show wpAny _ _ (Builtin.Tuple.tupleItemsOf (.ref t) >>= _) _ _ s
 refine al6 (tupleItemsOf_ ht ?_)
 refine al6 (wpAny_typeOf hTs ?_)
 rw[amx (by decide)]
 refine al6 (HT.lO hs pl pu ?_)
 show wpAny _ _ (if (((HT.f7 items.size 0 lo:Nat):Int)==0&&(1:Int)==1&&(HT.f7 items.size items.size hi-HT.f7 items.size 0 lo)==items.size)=true then _ else _) _ _ s
 rw[hw.1,hw.2]
 rw[amx (by simp)]
 unfold Builtin.Tuple.tupleIsExact
 refine al6 (al6 (wpAny_typeOf ht.typeIs (amd ?_)))
 rw[amx (by decide)]
 exact al6 (wpAny_rule (amd ⟨_,rfl,amd h⟩))
variable{X:Cx}
def ahP(K:PySem.W.Frag):V->Option Int->Option Int->Hp->VK->Prop:=fun x lo hi H Q=>∃a xs,x=.ref a/\om K H a xs ∧
 ((HT.f7 xs.length 0 lo=0/\HT.f7 xs.length xs.length hi=xs.length)->Q (.ref a) H)/\(¬ (HT.f7 xs.length 0 lo=0/\HT.f7 xs.length xs.length hi=xs.length)->∀p,H p=none->Q (.ref p) (upd H p (.tup (Br xs lo hi))))
theorem Vo:SlR X (ahP X.K):=by
 intro pins s σ H x v vl vu lo hi sl Q I rx hs pl pu h
 obtain⟨a,xs,rfl,hx,q1,q2⟩:=h
 by_cases hw:HT.f7 xs.length 0 lo=0/\HT.f7 xs.length xs.length hi=xs.length
 . cases rx
   obtain⟨its,r,ht,hz⟩:=I.tuple hx
   have hlen:its.toArray.size=xs.length:=by rw[amJ];exact r.length.symm
   refine⟨"tuple",_,anr.lookup,ht.typeIs,?_⟩
   exact sR ht hs pl pu (by rw[hlen];exact hw) ⟨.ref a,_,I,rfl,q1 hw⟩
 . exact ZL pins s σ H _ v vl vu lo hi sl Q I rx hs pl pu ⟨a,xs,rfl,hx,hw,q2 hw⟩
theorem Lw(hc:X.calm=true):j8 X (.type "set") (fun xs H Q=>∃(p:Addr) (ns:List Int),xs=[.ref p]/\nV X.K H p (ns.map V.int)/\ns.length<=1000/\∀l,H l=none->Q (.ref l) (upd H l (.ext (L3.O7 X.prog X.w l (firstMet (fun i=>ns.getD i 0) ns.length).length)))):=by
 intro pins s σ H xs us Q I r h
 obtain⟨p,ns,rfl,hp,hn,q⟩:=h
 obtain⟨u,rfl,ru⟩:=vals1 r
 cases ru
 obtain⟨its,rv,pl,hz⟩:=I.list hp
 have hl:its.length=ns.length:=by rw[← rv.length,al8]
 refine call_set_list (ns:=ns) (I.ok.hd hc) pl.isList (by simpa using L3.Ek rv) (by rw[List.size_toArray,hl];unfold scanBound;omega) fun h' tk hS hk=>?_
 have ek:∀b o,s.heap.get? b=some o->h'.get? b=some o:=fun b o e=>hk b o (amC e) e
 have hS2:L3.O7 X.prog X.w s.heap.objs.size (firstMet (fun i=>ns.getD i 0) ns.length).length h':=by
   have e1:its.toArray.size=ns.length:=by rw[amJ,hl]
   rw[e1]at hS
   exact⟨_,hS⟩
 refine⟨.ref s.heap.objs.size,_,I.laid (t':=tk) (o:=.ext (L3.O7 X.prog X.w s.heap.objs.size (firstMet (fun i=>ns.getD i 0) ns.length).length)) ek (aml _) ⟨hS2,?_,?_⟩,rfl,q _ (I.cQ.fresh (aml _))⟩
 . obtain⟨_,o,_,_,_,e,_⟩:=hS2
   exact⟨o,e⟩
 . rintro h1 h2 ⟨S,o,es,ep,t,e,rest⟩ k
   exact⟨S,o,es,ep,t,k o e,rest⟩
theorem Jf(f:Nat->Int):∀k,(firstMet f k).length<=k
 | 0=>aml _
 | k+1=>by
   rw[firstMet_succ]
   have:=Jf f k
   unfold step_dedup
   split
   . omega
   . rw[amn]
     show _+1<=_
     omega
theorem Er(f:Nat->Int):∀n,argBest (fun i j=>decide (f i > f j)) n<=n/\∀i,i<=n->f i<=f (argBest (fun i j=>decide (f i > f j)) n)
 | 0=>⟨aml _,fun i hi=>by rw[Nat.le_zero.mp hi];exact Int.le_refl _⟩
 | n+1=>by
   obtain⟨h1,h2⟩:=Er f n
   rw[argBest]
   split
   . rename_i h
     have h:=amO h
     refine⟨aml _,fun i hi=>?_⟩
     rcases aoW i (n+1) with z|z
     . have:=h2 i (by omega)
       omega
     . rw[show i=n+1 by omega];exact Int.le_refl _
   . rename_i h
     have h:¬ f (n+1) > f (argBest (fun i j=>decide (f i > f j)) n):=of_decide_eq_false (by simpa using h)
     refine⟨by omega,fun i hi=>?_⟩
     rcases aoW i (n+1) with z|z
     . exact h2 i (by omega)
     . rw[show i=n+1 by omega];omega
theorem Lx(hc:X.calm=true):j8 X (.builtin "max") (fun xs H Q=>∃(p:Addr) (ns:List Int) (m:Int),xs=[.ref p]/\nV X.K H p (ns.map V.int)/\m∈ns/\(∀x∈ns,x<=m)/\Q (.int m) H):=by
 intro pins s σ H xs us Q I r h
 obtain⟨p,ns,m,rfl,hq,hm,hle,q⟩:=h
 obtain⟨u,rfl,rx⟩:=vals1 r
 cases rx
 obtain⟨its,r',pl,hz⟩:=I.list hq
 have hi:=intsAre_of r'
 obtain⟨xs,hx⟩:=hi.allInts.items
 have hn:=hi.numsOf
 have hl:=pl.isList
 rw[hx]at hl
 have e:its=(intItems xs).toList:=by rw[← hx]
 rw[e,nums_intItems]at hn
 have hlen:xs.size=ns.length:=by rw[← hn];simp
 have Es:0<xs.size:=by rw[hlen];exact List.length_pos_of_mem hm
 refine max_intList (I.ok.hd hc) hl Es fun v h' tk hv hk=>⟨.int m,H,I.kept (t':=tk) hk,?_,q⟩
 obtain⟨b1,b2⟩:=Er (numAt xs) (xs.size-1)
 obtain⟨k,hk⟩:∃k,k=argBest (fun i j=>decide (numAt xs i > numAt xs j)) (xs.size-1):=⟨_,rfl⟩
 rw[← hk]at hv b1 b2
 have AU:k<xs.size:=by omega
 have aaU:∀j,numAt xs j=ns.getD j 0:=fun j=>by rw[numAt_eq,hn]
 have ahQ:ns.getD k 0=m:=by
   have h1:ns.getD k 0<=m:=hle _ (by
     rw[amb,al9 (by omega)]
     exact ano _)
   obtain⟨j,hj⟩:=anj.mp hm
   have Fg:=(amf.mp hj).1
   have h2:=b2 j (by omega)
   rw[aaU,aaU,amb,hj]at h2
   have h2:m<=ns.getD k 0:=h2
   omega
 have hv2:(intItems xs)[k]? = some (.int (xs[k]'AU).1 (xs[k]'AU).2):=by
   unfold intItems
   rw[Array.getElem?_map,aoi AU]
   rfl
 rw[hv2]at hv
 cases hv
 refine⟨(xs[k]'AU).2,?_⟩
 have:(xs[k]'AU).1=m:=by
   rw[← ahQ,← aaU]
   unfold numAt
   simp[AU]
 rw[this]
end L2
namespace L3
open PySem PySem.Spec PyProof.Rows L2
variable{X:Cx}{CL:Str->Addr}{b:Bx}{δ δ1 δ2 δ3:List (Option T)}{e:Expr}{ds:List L3.D}{pos p2 pp pr:Pos}
theorem yE{lo hi:Option Expr}{l h:Option Int}(h1:bO X CL b e δ (.sh (.tup ds)) δ1)(h2:Yj X CL b lo δ1 l δ2)(h3:Yj X CL b hi δ2 h δ3) :
   bO X CL b (.Subscript e (.Slice lo hi none p2) pos) δ (.sh (.tup (cutD ds l h))) δ3:=fun H Z σ ts vs Q S k=>by
 obtain⟨t2,po2,w2⟩:=h2
 obtain⟨t3,po3,w3⟩:=h3
 refine bW (x9 Vo cN po2 po3) (h1 H Z σ ts vs _ S fun v H1 Z1 z1 k1 S1=>w2 H1 Z1 σ _ _ _ S1 fun H2 Z2 z2 k2 S2=>w3 H2 Z2 σ _ _ _ S2 fun H3 Z3 z3 k3 S3=>?_)
 have r:=S3.oO
 have r0:=r
 cases r with
 | @tup a us _ hq rr=>
   refine⟨a,us,rfl,aA.wV S3.zh hq,fun hw=>?_,fun hw p hp=>?_⟩
   . have hul:us.length=ds.length:=rr.length.symm
     rw[hul]at hw
     have e:cutD ds l h=ds:=by unfold cutD;rw[hw.1,hw.2,List.drop_zero];exact List.take_of_length_le (by omega)
     rw[e]at k
     exact k _ _ Z3 (z1.trans (z2.trans z3)) (k1.trans (k2.trans k3)) S3
   . have rc:=rr.cut l h
     obtain⟨a,c,S4⟩:=(bH.qI rc S3.pop).BD (by simp[rc.length]) hp
     obtain⟨Z5,z5,S5⟩:=S4.Bw
     rw[T.bP,iY]at S5
     exact k _ _ Z5 (z1.trans (z2.trans (z3.trans (a.trans z5)))) (k1.trans (k2.trans (k3.trans c))) S5
theorem rz{ns:List Int}(g:Gx X)(hm:X.mg "len" = none)(hmr:X.mg "set" = none)(h:cZ X CL b e δ (.lst (ns.map D.int)) δ1)(hn:ns.length<=1000)(hg:Gl X "len")(hgr:Gl X "set")(hs:starEach [e] X.env=(false,eval e X.env)::starEach [] X.env:=by exact bA rfl) :
   bO X CL b (.Call (.Name "len" pp) [.Call (.Name "set" p2) [e] [] pr] [] pos) δ (.sh (.int (firstMet (fun i=>ns.getD i 0) ns.length).length)) δ1:=fun H Z σ ts vs Q S k=>
 bW (ji El hg hm PySem.boot_len (b8 (iP (Lw g.calm) hgr hmr Lj (b8 cN dY hs) (he:=hs)) dY (bA rfl)) (he:=bA rfl)) (h H Z σ ts vs _ S fun v H1 Z1 z1 k1 S1 r=>by
   cases r with
   | lst hq rr=>
   have eu:=uO rr
   have hl:=Jf (fun i=>ns.getD i 0) ns.length
   generalize hN:(firstMet (fun i=>ns.getD i 0) ns.length).length=N at hl ⊢
   refine⟨_,ns,rfl,by rw[← eu];exact hq,hn,fun r hr=>?_⟩
   rw[hN]
   refine⟨r,N,rfl,az,by omega,?_⟩
   have same:aA H1 (upd H1 r (.ext (O7 X.prog X.w r N))):=aA.upd hr
   obtain⟨Z',z',S2⟩:=S1.back (t:=.sh (.int N)) (v:=.int N) (fp:=[]) (W:=Z1) (W':=Z1) same (.refl _) (.refl _) (S1.zh.trans same) (fun a o q z=>by rw[q]at z;cases z) (fun a o q im=>by
     by_cases ha:a=r
     . subst ha;rw[az]at q;cases q;cases im
     . rw[ao ha]at q;exact S1.tp a o q im) (.sh (.int _)) ang (fun a ha=>by cases ha) (.inl rfl)
   rw[hN]at k
   exact k _ _ _ (z1.trans z') (k1.trans same) S2)
theorem Vp{l:List Int}{m:Int}(g:Gx X)(hm:X.mg "max" = none)(h:cZ X CL b e δ (.lst (l.map .int)) δ1)(F2:m∈l)(hle:∀x∈l,x<=m)(hg:Gl X "max")(hs:starEach [e] X.env=(false,eval e X.env)::starEach [] X.env:=by exact bA rfl):bO X CL b (.Call (.Name "max" pp) [e] [] pos) δ (.sh (.int m)) δ1:=fun H Z σ ts vs Q S k=>
 bW (ji (Lx g.calm) hg hm boot_max (b8 cN dY hs) (he:=hs)) (h H Z σ ts vs _ S fun v H1 Z1 z1 k1 S1 r=>by
   cases r with
   | @lst a us _ hq rr=>
     have:=uO rr
     subst this
     exact⟨a,l,m,rfl,hq,F2,hle,k _ H1 Z1 z1 k1 (S1.push (.int _))⟩)
instance akQ:DecidableEq D:=fun a b=>Classical.propDecidable (a=b)
inductive iN:Nat->D->Prop where
 | int (n:Nat) (i:Int):iN n (.int i)
 | str (n:Nat) (x:Str) (h:PyData.strOk x=true):iN n (.str x)
 | tup {n:Nat} {ds:List D} (h:∀d∈ds,iN n d):iN (n+1) (.tup ds)
theorem iN.dep{n:Nat}{d:D}(h:iN n d):jH n d:=by
 induction h with
 | int n i=>exact .int n i
 | str n x h=>exact .str n x h
 | tup _ ih=>exact .tup ih
mutual
inductive NV(h:Heap):D->Value->Prop where
 | int (i:Int) (t:Tok):NV h (.int i) (.int i t)
 | str (x:Str) (t:Tok):NV h (.str x) (.str x t)
 | tup {a:Addr} {o:Obj} {its:Array Value} {m:Nat} {ds:List D}:h.get? a=some o->o.cls=.type "tuple"->o.data=.seq its m->TN h ds its.toList->NV h (.tup ds) (.ref a)
inductive TN(h:Heap):List D->List Value->Prop where
 | nil:TN h [] []
 | cons {d:D} {v:Value} {ds:List D} {vs:List Value}:NV h d v->TN h ds vs->TN h (d::ds) (v::vs)
end
variable{v:Value}
theorem NV.reads{h:Heap}{d:D}(q:NV h d v):∃as,Reads h v d.toPy as:=
 NV.rec (motive_1:=fun d v _=>∃as,Reads h v d.toPy as) (motive_2:=fun ds vs _=>∃as,ReadsAll h vs (D.cD ds) as)
   (fun i t=>by rw[D.toPy];exact⟨[],.int i t⟩) (fun x t=>by rw[D.toPy];exact⟨[],.str x t⟩)
   (fun e c dt _ ⟨as,ra⟩=>by rw[D.toPy];exact⟨as,.tuple e c dt ra⟩)
   (by rw[D.cD];exact⟨[],.nil⟩) (fun _ _ ⟨as,ra⟩ ⟨bs,rb⟩=>by rw[D.cD];exact⟨as++bs,.cons ra rb⟩) q
theorem NV.inj{h:Heap}{d:D}(q:NV h d v):∀d2,NV h d2 v->d=d2:=
 NV.rec (motive_1:=fun d v _=>∀d2,NV h d2 v->d=d2) (motive_2:=fun ds vs _=>∀d2,TN h d2 vs->ds=d2)
   (fun i t d2 q=>by cases q;rfl) (fun x t d2 q=>by cases q;rfl)
   (fun e c dt _ ih d2 q=>by
     cases q with
     | tup e' c' dt' r'=>
       cases e.symm.trans e'
       cases dt.symm.trans dt'
       rw[ih _ r'])
   (fun d2 q=>by cases q;rfl) (fun _ _ i1 i2 d2 q=>by
     cases q with
     | cons a b=>rw[i1 _ a,i2 _ b]) q
theorem NV.keeps{h h':Heap}{d:D}{x:Addr}{o:Obj}{es:Array DictEntry}{ep:Nat}(q:NV h d v)(ho:h.get? x=some o)(hd:o.data=.dict es ep)(hs:Heap.SameBut x h h'):NV h' d v:=
 NV.rec (motive_1:=fun d v _=>NV h' d v) (motive_2:=fun ds vs _=>TN h' ds vs) .int .str
   (fun {a} {o2} {its} {m} {ds} e c dt _ ih=>.tup ((hs.2 a fun z=>by subst z;cases ho.symm.trans e;rw[hd]at dt;cases dt).trans e) c dt ih)
   .nil (fun _ _ a b=>.cons a b) q
theorem BV{n:Nat}{a b:D}(ha:iN n a):∀m,iN m b->rY a b=decide (a=b):=by
 induction ha generalizing b with
 | int n i=>
   intro m hb
   unfold rY
   cases hb with
   | int _ j=>
     rw[D.toPy,D.toPy,PyData.eqv]
     by_cases e:i=j
     . rw[e,am6 rfl,anM]
     . rw[amN (fun z=>e (by injection z)),anu.mpr e]
   | str _ y _=>rw[D.toPy,D.toPy,PyData.eqv,amN (fun z=>by cases z)]
   | tup _=>rw[D.toPy,D.toPy,PyData.eqv,amN (fun z=>by cases z)]
 | str n x _=>
   intro m hb
   unfold rY
   cases hb with
   | int _ j=>rw[D.toPy,D.toPy,PyData.eqv,amN (fun z=>by cases z)]
   | str _ y _=>
     rw[D.toPy,D.toPy,PyData.eqv]
     by_cases e:x=y
     . rw[e,am6 rfl,anM]
     . rw[amN (fun z=>e (by injection z)),anu.mpr e]
   | tup _=>rw[D.toPy,D.toPy,PyData.eqv,amN (fun z=>by cases z)]
 | @tup n xs hx ih=>
   intro m hb
   cases hb with
   | int _ j=>unfold rY;rw[D.toPy,D.toPy,PyData.eqv,amN (fun z=>by cases z)]
   | str _ y _=>unfold rY;rw[D.toPy,D.toPy,PyData.eqv,amN (fun z=>by cases z)]
   | @tup m ys hy=>
     have all:∀(xs ys:List D),(∀x∈xs,∀b m,iN m b->rY x b=decide (x=b))->(∀y∈ys,iN m y)->PyData.eqvAll (D.cD xs) (D.cD ys)=decide (xs=ys):=by
       intro xs
       induction xs with
       | nil=>
         intro ys _ _
         cases ys with
         | nil=>rw[D.cD,PyData.eqvAll,am6 rfl]
         | cons _ _=>rw[D.cD,D.cD,PyData.eqvAll,amN (fun z=>by cases z)]
       | cons x xs ihx=>
         intro ys h1 h2
         cases ys with
         | nil=>rw[D.cD,D.cD,PyData.eqvAll,amN (fun z=>by cases z)]
         | cons y ys=>
           have e1:PyData.eqv x.toPy y.toPy=decide (x=y):=h1 x ama y m (h2 y ama)
           rw[D.cD,D.cD,PyData.eqvAll,e1,ihx ys (fun z hz=>h1 z (ame _ hz)) fun z hz=>h2 z (ame _ hz)]
           by_cases e:x=y
           . subst e
             by_cases e2:xs=ys
             . subst e2;simp
             . simp[e2]
           . simp[e]
     unfold rY
     rw[D.toPy,D.toPy,PyData.eqv,all xs ys (fun x hx2 b m hb=>ih x hx2 m hb) hy]
     by_cases e:xs=ys
     . subst e;rw[am6 rfl,am6 rfl]
     . rw[amN e,amN (fun z=>e (by injection z))]
mutual
def D.TQ:D->Nat
 | .tup ds=>D.sS ds+1
 | _=>1
def D.sS:List D->Nat
 | []=>0
 | d::ds=>d.TQ+D.sS ds
end
theorem Et(w:World):∀ds:List D,D.qU w ds=ds.map (D.sG w)
 | []=>by rw[D.qU];rfl
 | d::ds=>by rw[D.qU,Et w ds];rfl
theorem AV(d:D):∀ds:List D,D.sS (ds++[d])=D.sS ds+d.TQ
 | []=>by rw[anm,D.sS,D.sS,D.sS];omega
 | e::ds=>by rw[am5,D.sS,D.sS,AV d ds];omega
variable{P:Program}{w:World}{A:Around}{E:Value->Shared->Prop}
theorem Vq:∀(n:Nat) {A:Around} {E:Value->Shared->Prop} (hu:A.units+n<cLine) {d:D} {v:Value} {s:Shared} {Q:Int->Shared->Prop},iN n d->NV s.heap d v->Q (d.sG w) {s with toks:=s.toks+d.TQ}->wpAny (model P w) A (pyHash v) Q E s:=by
 intro n
 induction n with
 | zero=>
   intro A E hu d v s Q nd q k
   cases q with
   | int i t=>exact wpAny_pyHash_int (by rw[D.sG,D.TQ]at k;exact k;intro _ z;cases z)
   | str x t=>exact wpAny_pyHash_str (by rw[D.sG,D.TQ]at k;exact k;intro _ z;cases z)
   | tup=>cases nd
 | succ n ih=>
   intro A E hu d v s Q nd q k
   cases q with
   | int i t=>exact wpAny_pyHash_int (by rw[D.sG,D.TQ]at k;exact k;intro _ z;cases z)
   | str x t=>exact wpAny_pyHash_str (by rw[D.sG,D.TQ]at k;exact k;intro _ z;cases z)
   | @tup a o its m ds e c dt qs=>
     cases nd with
     | tup nd=>
       have ty:s.TypeIs (.ref a) "tuple":=⟨o,e,c⟩
       rw[D.sG,D.TQ]at k
       unfold pyHash
       first|unfold pyHashByItsType|skip
       first|refine al6 (wpAny_cRoomFor_or (.inr (by omega)) (al6 (an4 ty aox.lookup ?_)))|refine al6 (an4 ty aox.lookup ?_)
       show wpAny _ A (ite ((some (Value.builtin "tuple.__hash__")==some Value.none)=true) _ _) Q E s
       rw[amq (by rw[beq_builtin_none];decide)]
       refine al6 (an4 ty aox.lookup (al6 (wpAny_callSpecialIfBoundUnlessNone?_slot ty aox (anf aox ty F.entry_tuple_hash ?_ (F.args_tuple_hash_1 _)))))
       show wpAny _ _ (Builtin.Tuple.tupleItemsOf (.ref a) >>= fun _=>_) _ _ s
       refine al6 (wpAny_tupleItemsOf e dt (al6 ?_))
       rw[← Array.forIn_toList]
       refine wpAny_forIn_list _ (fun rest (g:Array Int) s1=>∃done left,ds=done++left/\TN s.heap left rest/\g.toList=D.qU w done/\s1={s with toks:=s.toks+D.sS done}) _ ?_ ?_ _ _ ⟨[],ds,rfl,qs,by rw[D.qU],by rw[D.sS];rfl⟩
       . rintro x rest g s1 ⟨done,left,rfl,ql,hg,rfl⟩
         cases ql with
         | @cons y _ left _ q1 ql=>
           have inv:∃PV Yz,done++y::left=PV++Yz/\TN s.heap Yz rest/\(g.push (y.sG w)).toList=D.qU w PV/\({s with toks:=s.toks+D.sS done+y.TQ}:Shared)={s with toks:=s.toks+D.sS PV}:=
             ⟨done++[y],left,by simp,ql,by rw[Et]at hg ⊢;simp[hg],by rw[AV,Nat.add_assoc]⟩
           refine al6 (ih (by show A.units+1+n<cLine;omega) (s:={s with toks:=s.toks+D.sS done}) (nd y (by simp)) q1 ?_)
           first
             | exact amd inv
             | exact al6 (amd (amd inv))
       . rintro g s1 ⟨done,left,rfl,ql,hg,rfl⟩
         cases ql
         rw[amQ]at k
         show wpAny _ _ (retInt (Builtin.Tuple.tupleHashOf g.toList)) _ _ _
         rw[hg]
         refine wpAny_ret_mkInt ?_
         generalize Builtin.Tuple.tupleHashOf (D.qU w done)=hv at k ⊢
         show wpAny _ _ (ite ((decide (-(2:Int) ^ 63<=hv)&&decide (hv<2 ^ 63))=true) _ _) Q E _
         unfold reduceHash at k
         by_cases hr:(decide (-(2:Int) ^ 63<=hv)&&decide (hv<2 ^ 63))=true
         . rw[amx hr]at k ⊢
           exact wpAny_pure (by simpa [Nat.add_assoc] using k)
         . rw[amq hr]at k ⊢
           exact wpAny_bind (wpAny_rule (wpAny_pure (by simpa [Nat.add_assoc] using k)))
theorem PX:∀(n:Nat) {d:D} {v:Value} {s:Shared} {Q:Bool->Shared->Prop},iN n d->NV s.heap d v->Q true s->wpAny (model P w) A (eqIsQuiet n v) Q E s:=by
 intro n
 induction n with
 | zero=>
   intro d v s Q nd q k
   cases q with
   | int i t=>rw[ao5 _ rfl];exact amd k
   | str x t=>rw[ao5 _ rfl];exact amd k
   | tup=>cases nd
 | succ n ih=>
   intro d v s Q nd q k
   cases q with
   | int i t=>rw[ao5 _ rfl];exact amd k
   | str x t=>rw[ao5 _ rfl];exact amd k
   | @tup a o its m ds e c dt qs=>
     cases nd with
     | tup nd=>
       have ty:s.TypeIs (.ref a) "tuple":=⟨o,e,c⟩
       unfold eqIsQuiet
       refine al6 (an4 ty F.slot_tuple_eq.lookup ?_)
       refine al6 (aol ty isSubtype_tuple_tuple ?_)
       simp only[Bool.not_true,anN,an1]
       refine al6 (wpAny_seqItems e dt (al6 ?_))
       show wpAny _ A (forIn its _ _) _ _ s
       rw[← Array.forIn_toList]
       refine wpAny_forIn_list _ (fun rest r s1=>r.1=none/\s1=s/\∃left,TN s.heap left rest/\∀d∈left,iN n d) _ ?_ ?_ _ _ ⟨rfl,rfl,ds,qs,nd⟩
       . rintro x rest r s1 ⟨hr,rfl,left,ql,hl⟩
         cases ql with
         | @cons y _ left _ q1 ql=>
           refine al6 (ih (hl y ama) q1 ?_)
           simp only[Bool.not_true,anN,an1]
           exact amd ⟨rfl,rfl,left,ql,fun d hd=>hl d (ame _ hd)⟩
       . rintro⟨r1,r2⟩ s1 ⟨hr,rfl,_⟩
         simp only at hr
         subst hr
         exact amd k
def lV(P:Program)(w:World):HeapKind P w D where
 is:=fun h d a=>iN 8 d/\NV h d (.ref a)
 hash:=D.sG w
 draws:=D.TQ
 room:=fun A=>A.units+9<cLine
 inj:=fun hx hy=>hx.2.inj _ hy.2
 keeps:=fun x ho hd hs=>⟨x.1,x.2.keeps ho hd hs⟩
 pyHash:=fun hu hk h=>Vq 8 (by omega) hk.1 hk.2 h
 eqBool:=fun {A E s x y a b Q} hu hx hy h=>by
   obtain⟨as,ra⟩:=hx.2.reads
   obtain⟨bs,rb⟩:=hy.2.reads
   have h1:=hx.1.dep.lay
   have h2:=hy.1.dep.lay
   have e:PyData.eqv x.toPy y.toPy=decide (x=y):=BV hx.1 8 hy.1
   have:=SeqAt.eqAt_reads _ _ A s _ _ _ _ ra rb h1.1 h2.1 (by have:=h1.2;omega)
   rw[e]at this
   exact this P w E Q h
 quiet:=fun hk h=>PX 8 hk.1 hk.2 h
variable{pins:List (Addr×Obj)}{σ:L2.St}{H:Hp}{s:Shared}
theorem nvD(I:L2.Inv X pins σ H s){n:Nat}{d:D}{v:V}{u:Value}(hd:iN n d)(q:bu X.K CL H d v)(r:RelV v u):NV s.heap d u:=by
 refine bu.rec (motive_1:=fun d v _=>∀(n:Nat) (u:Value),iN n d->RelV v u->NV s.heap d u)
   (motive_2:=fun ds vs _=>∀(n:Nat) (us:List Value),(∀d∈ds,iN n d)->Vals vs us->TN s.heap ds us) (motive_3:=fun _ _ _=>True) (motive_4:=fun _ _ _=>True) (motive_5:=fun _ _ _=>True)
   (fun _ _ hd _=>by cases hd) (fun b _ _ hd _=>by cases hd) (fun i _ _ _ r=>by obtain⟨t,rfl⟩:=r;exact .int i t) (fun x _ _ _ r=>by obtain⟨t,rfl⟩:=r;exact .str x t) (fun _ _ _ hd _=>by cases hd) (fun _ _ _ hd _=>by cases hd) (fun hq _ ih n u hd r=>?tup)
   (fun _ _ _ _ _ hd _=>by cases hd) (fun _ _ _ _ _ hd _=>by cases hd) (fun _ _ _ _ _ hd _=>by cases hd) (fun _ _ _ _ _ hd _=>by cases hd) (fun _ _ _ _ _ _ _ hd _=>by cases hd)
   (fun _ _ _ r=>by cases r;exact .nil) (fun _ _ ih ihs n us h r=>?cons) trivial (fun _ _ _ _=>trivial) trivial (fun _ _ _ _=>trivial) trivial (fun _ _ _ _=>trivial) q n u hd r
 case tup=>
   cases hd with
   | tup hd=>
     cases r
     obtain⟨its,rv,⟨o,e,c,k,dt⟩,_⟩:=I.tuple hq
     exact .tup e c dt (by simpa using ih _ _ hd rv)
 case cons=>
   cases r with
   | cons r rs=>exact .cons (ih n _ (h _ ama) r) (ihs n _ (fun e he=>h e (ame _ he)) rs)
def Fi(X:Cx)(CL:Str->Addr)(H:Hp)(a:Addr)(ds es:List D)(vs us:List V):Prop:=H a=some (.ext (uB X.w a ds vs us))/\ay X.K CL H ds vs/\ay X.K CL H es us/\(∀d∈ds,iN 8 d)/\ds.Nodup
variable{a:Addr}{vs us:List V}
theorem Fi.have(I:L2.Inv X pins σ H s){ds es:List D}(g:Fi X CL H a ds es vs us) :
   (a==sysModules)=false/\∃xs:List (D×Addr×Value),s.heap.DictOfH (lV X.prog X.w) a xs/\xs.map (·.1)=ds/\xs.map (fun x=>V.ref x.2.1)=vs/\Vals us (xs.map fun x=>x.2.2):=by
 obtain⟨e,r,_,hn,nd⟩:=g
 obtain⟨⟨sm,xs,o,es,ep,h1,h2,h3,h4,h5,h6,h7⟩,_⟩:=I.cQ a _ e
 refine⟨sm,xs,⟨o,es,ep,h1,h2,h3,h4,fun x hx=>?_,by rw[h5];exact nd⟩,h5,h6,h7⟩
 obtain⟨i,hi⟩:=anj.mp hx
 have hd:ds[i]? = some x.1:=by rw[← h5,amg,hi];rfl
 have hv:vs[i]? = some (.ref x.2.1):=by rw[← h6,amg,hi];rfl
 obtain⟨v,hv2,rv⟩:=r.get hd
 rw[hv]at hv2
 cases hv2
 have n8:=hn x.1 (amt hd)
 exact⟨n8,nvD I n8 rv rfl⟩
theorem YB{xs:List (D×Addr×Value)}{ds:List D}{k:D}{u:V}(h:xs.map (·.1)=ds)(nd:ds.Nodup)(hv:Vals us (xs.map fun x=>x.2.2))(hk:k∈ds)(hu:us[ds.idxOf k]? = some u):∃p,atKey xs k=some p/\RelV u p.2:=by
 have hi:ds[ds.idxOf k]? = some k:=by
   rw[al9 (amT.mpr hk)]
   exact congrArg some (anO _)
 rw[← h,amg]at hi
 obtain⟨x,hx,e⟩:=amG.mp hi
 rw[h]at hx
 obtain⟨y,hy,ry⟩:=Paired.Vf hv hu
 rw[amg,hx]at hy
 cases hy
 exact⟨x.2,atKey_of_get (by rw[h];exact nd) (i:=ds.idxOf k) (by rw[hx,← e]),ry⟩
theorem PY{xs:List (D×Addr×Value)}{ds:List D}{k:D}(h:xs.map (·.1)=ds)(hk:k∉ds):atKey xs k=none:=
 atKey_none_of_get fun j p hj=>hk (by rw[← h];exact amj.mpr ⟨_,amt hj,rfl⟩)
theorem PZ{xs:List (D×Addr×Value)}{ds:List D}{k:D}(h:xs.map (·.1)=ds)(nd:ds.Nodup)(hk:k∈ds):∃p,atKey xs k=some p:=by
 rw[← h]at hk nd
 obtain⟨x,hx,e⟩:=amj.mp hk
 obtain⟨i,hi⟩:=anj.mp hx
 exact⟨x.2,atKey_of_get nd (i:=i) (by rw[hi,← e])⟩
theorem yF{H':Hp}{h':Heap}{ds:List D}(g:uB w a ds vs us h'):dw P w H' h' a (.ext (uB w a ds vs us)):=by
 refine⟨g,?_,fun h1 h2 q k=>?_⟩
 . obtain⟨_,_,o,_,_,h1,_⟩:=g
   exact⟨o,h1⟩
 . obtain⟨sm,xs,o,es,ep,q1,q2⟩:=q
   exact⟨sm,xs,o,es,ep,k o q1,q2⟩
theorem BW{h':Heap}{c:Addr}{ds:List D}{xs:List (D×Addr×Value)}{k:D}{u:V}{r:Value}(sm:(a==sysModules)=false)(dd:h'.DictOfH (lV P w) a (xs++[(k,c,r)]))(h:xs.map (·.1)=ds)(g:xs.map (fun x=>V.ref x.2.1)=vs)(hv:Vals us (xs.map fun x=>x.2.2))(ru:RelV u r) :
   uB w a (ds++[k]) (vs++[.ref c]) (us++[u]) h':=by
 obtain⟨o,es,ep,h1,h2,h3,h4,_,_⟩:=dd
 exact⟨sm,_,o,es,ep,h1,h2,h3,h4,by rw[ams,h];rfl,by rw[ams,g];rfl,by rw[ams];exact Paired.snoc hv ru⟩
section
variable{prog:Program}{K:Type}[DecidableEq K]{knd:HeapKind prog w K}
theorem aaV{d:Addr}{xs:List (K×Addr×Value)}{k:K}{Q:Value->Shared->Prop}(hu:knd.room A)(v9:knd.is s.heap k a)(hm:s.heap.DictOfH knd d xs)(hz:xs.length<=sizeLine)
   (q1:∀p,atKey xs k=some p->Q p.2 {s with toks:=s.toks+knd.draws k})
   (q2:atKey xs k=none->∀h',h'.DictOfH knd d (xs++[(k,a,v)])->Heap.SameBut d s.heap h'->Q v {s with heap:=h',toks:=s.toks+knd.draws k}):wpAny (model prog w) A (dictSetDefault d (.ref a) v) Q E s:=by
 obtain⟨o,es,ep,ho,hc,hd,he,his,hn⟩:=hm
 unfold dictSetDefault
 try with_reducible refine anz ?_
 refine al6 (knd.pyHash hu v9 (al6 (wpAny_dictFind_heap (s:={s with toks:=s.toks+knd.draws k}) hu v9 ho hd he his hn (fun sy=>?_) fun j p hj=>?_)))
 . have ahR:k∉xs.map (·.1):=not_mem_keys_of_get sy
   refine al6 (wpAny_rule (al6 (wpAny_updateDictKeys (hz:=by rw[size_of_entries he];exact hz) (s:={s with toks:=s.toks+knd.draws k}) ho hd (amd (q2 (atKey_none_of_get sy) _ ⟨_,_,ep+1,anA _ ho (Obj.isFreed_of_dict (Obj.data_mapDictKeys hd _)),hc.mapDictKeys _,Obj.data_mapDictKeys hd _,?_,fun x hx=>?_,?_⟩ (anG ..))))))
   . simp[he,entryOfKey]
   . rcases amr.mp hx with hx|hx
     . exact knd.keeps (his x hx) ho hd (anG ..)
     . rw[amM.mp hx]
       exact knd.keeps v9 ho hd (anG ..)
   . rw[ams,amK]
     refine⟨hn,aob _ _,fun x hx y hy e=>ahR ?_⟩
     have ek:y=k:=amM.mp hy
     rw[← ek,← e]
     exact hx
 . refine al6 (anq (s:={s with toks:=s.toks+knd.draws k}) ho hd ?_)
   rw[entry_at he j,hj]
   exact al6 (wpAny_rule (amd (q1 p (atKey_of_get hn hj))))
theorem Eu(knd:HeapKind prog w K)(d a:Addr)(hd:(d==sysModules)=false)(v:Value) :
   MeetsIn prog w (Builtin.«dict.setdefault» ⟨[.ref d,.ref a,v],[]⟩) (fun A R s=>knd.room A.in1/\∃k xs,knd.is s.heap k a/\s.heap.DictOfH knd d xs/\xs.length<=sizeLine ∧
     (∀p,atKey xs k=some p->R (.ok (.ret p.2)) {s with toks:=s.toks+knd.draws k})/\(atKey xs k=none->∀h',h'.DictOfH knd d (xs++[(k,a,v)])->Heap.SameBut d s.heap h'->R (.ok (.ret v)) {s with heap:=h',toks:=s.toks+knd.draws k})):=
 .of_wp fun A R s ⟨hu,k,xs,v9,hm,hz,q1,q2⟩=>by
   unfold Builtin.«dict.setdefault» Builtin.Dict.keyAndDefault
   refine al6 (al6 (aoC hm.typeIs (show wpAny _ _ (pure (d,Value.ref a,some v)) _ _ s from amd ?_)))
   show wpAny _ _ (ite ((d==sysModules)=true) _ (dictSetDefault d (.ref a) v >>= fun _=>_)) _ _ s
   rw[amq (by rw[hd];decide)]
   exact al6 (aaV hu v9 hm hz (fun p hp=>amd ⟨p.2,rfl,q1 p hp⟩) fun sy h' dd hs=>amd ⟨v,rfl,q2 sy h' dd hs⟩)
end
variable{o i value:Expr}{es:List Expr}{pos' apos oh:Pos}{td ty tv to:TE}{ta:TA}
theorem w9(h:A.units+64<cLine):(lV P w).room A.in1:=by
 show A.units+1+9<cLine
 omega
theorem Jg(h:Heap)(hb:sysModules<h.objs.size):uB w h.objs.size [] [] [] (h.push {cls:=.type "dict",data:=.dict #[]}):=
 ⟨anu.mpr (anP (amV hb)),[],_,#[],0,amD _ rfl,⟨rfl,rfl,rfl⟩,rfl,rfl,rfl,rfl,.nil⟩
theorem Vr:PE X (.Dict [] [] pos) (fun _ H Q=>∀p,H p=none->Q (.ref p) (upd H p (.ext (uB X.w p [] [] [])))):=fun pins s σ H Q I h=>
 wpAny_Dict_empty ⟨.ref s.heap.objs.size,_,I.laid (a:=s.heap.objs.size) (o:=.ext (uB X.w s.heap.objs.size [] [] [])) (t':=s.toks) (fun _ _ q=>amo _ q) (aml _) (yF (Jg s.heap I.big)),rfl,h _ (I.cQ.fresh (aml _))⟩
def IxK(X:Cx)(CL:Str->Addr)(H:Hp)(k:D)(c:Addr):Prop:=iN 8 k/\bu X.K CL H k (.ref c)
theorem IxK.is{k:D}{c:Addr}(I:L2.Inv X pins σ H s)(h:IxK X CL H k c):(lV X.prog X.w).is s.heap k c:=⟨h.1,nvD I h.1 h.2 rfl⟩
theorem P0(hu:X.A.units+64<cLine)(hk:PE X o td)(hv:PE X i tv):PE X (.Dict [some o] [i] pos) (fun σ H Q=>∀p,H p=none->td σ (upd H p (.ext (uB X.w p [] [] []))) fun y H1=>tv σ H1 fun v H2=>∃c k,y=.ref c/\H2 p=some (.ext (uB X.w p [] [] []))/\IxK X CL H2 k c/\Q (.ref p) (upd H2 p (.ext (uB X.w p [k] [.ref c] [v])))):=by
 intro pins s σ H Q I q
 have hn:=I.cQ.fresh (aml s.heap.objs.size)
 have I1:=I.laid (a:=s.heap.objs.size) (o:=.ext (uB X.w s.heap.objs.size [] [] [])) (h':=s.heap.push {cls:=.type "dict",data:=.dict #[]}) (t':=s.toks) (fun _ _ q=>amo _ q) (aml _) (yF (Jg s.heap I.big))
 have pl:(pairTrees [some o] [i] X.env pos).length=1:=pairTrees_length [some o] [i] X.env pos rfl rfl
 rw[arm_eval_Dict,zip_pairTrees [some o] [i] X.env pos rfl rfl,dictDisplay_pairs (pairTrees [some o] [i] X.env pos) (fun z=>by rw[z]at pl;cases pl) (by rw[pl];decide)]
 refine al6 (wpAny_standAt (al6 ?_))
 unfold subDict
 refine al6 (wpAny_alloc (al6 (anz ?_)))
 rw[amx (by rw[pl];decide)]
 refine al6 (pairTrees_cons_walk (dz (hk pins _ σ _ _ I1 (q _ hn)) fun kv s1 ⟨y,H1,I2,ry,q1⟩=>dz (hv pins s1 σ H1 _ I2 q1) fun vv s2 zz=>pairTrees_nil_walk ?_))
 obtain⟨v,H2,I3,rv,c,k,ey,hp,ik,q2⟩:=zz
 subst ey
 obtain rfl:kv=Value.ref c:=ry
 refine anz ?_
 have g:Fi X CL H2 s.heap.objs.size [] [] [] []:=⟨hp,.nil,.nil,(fun d hd=>by cases hd),ang⟩
 obtain⟨sm,xs,dd,h1,h2,h3⟩:=Fi.have I3 g
 obtain rfl:xs=[]:=List.map_eq_nil_iff.mp h1
 refine al6 ?_
 rw[List.forIn_cons]
 refine al6 (al6 (wpAny_dictSet_heap (knd:=lV X.prog X.w) (by show X.A.units+9<cLine;omega) (ik.is I3) dd (fun h' Fd OJ=>?_) (hsz:=amR _)))
 rw[storedH_new rfl]at Fd
 have g2:=BW (ds:=[]) (vs:=[]) (us:=[]) sm Fd rfl rfl .nil rv
 refine amd ?_
 show wpAny _ _ (forIn [] _ _) _ _ _
 rw[List.forIn_nil]
 exact amd (amd (amd (amd ⟨.ref s.heap.objs.size,_,sL I3 (by rw[hp];exact True.intro) OJ (let ⟨_,_,o,_,_,q,_⟩:=g2;⟨o,q⟩) (yF g2),rfl,q2⟩)))
theorem Vs(hu:X.A.units+64<cLine)(ho:PE X o td)(hi:PE X i ty)(hs:KR i):PE X (.Subscript o i pos) (fun σ H Q=>td σ H fun x H1=>ty σ H1 fun y H2=>∃a c ds es vs us k u,x=.ref a/\y=.ref c/\Fi X CL H2 a ds es vs us/\IxK X CL H2 k c/\k∈ds/\us[ds.idxOf k]? = some u/\Q u H2):=by
 intro pins s σ H Q I h
 refine Iz PySem.F.slot_dict_getitem.lookup hs (dz (ho pins s σ H _ I h) fun u s1 ⟨x,H1,I1,rx,q1⟩=>dz (hi pins s1 σ H1 _ I1 q1) fun iv s2 zz=>?_)
 obtain⟨y,H2,I2,ry,a,c,ds,es,vs,us,k,w,ex,ey,g,hk,hm,hw,q2⟩:=zz
 subst ex ey
 obtain rfl:u=Value.ref a:=rx
 obtain rfl:iv=Value.ref c:=ry
 obtain⟨sm,xs,dd,h1,h2,h3⟩:=Fi.have I2 g
 obtain⟨p,hp,ep⟩:=YB h1 g.2.2.2.2 h3 hm hw
 exact⟨dd.typeIs,wpAny_getItem_heap (w9 hu) (hk.is I2) dd hp ⟨w,H2,I2.tok _,ep,q2⟩⟩
theorem Vt(hu:X.A.units+64<cLine)(hi:PE X i ty)(ho:PE X o td):PC X .NotIn i o (fun σ H Q=>ty σ H fun y H1=>td σ H1 fun x H2=>∃a c ds es vs us k,x=.ref a/\y=.ref c/\Fi X CL H2 a ds es vs us/\IxK X CL H2 k c/\Q (.bl (!decide (k∈ds))) H2):=by
 intro pins s σ H Q I h
 refine dz (hi pins s σ H _ I h) fun iv s1 ⟨y,H1,I1,ry,q1⟩=>dz (ho pins s1 σ H1 _ I1 q1) fun u s2 zz=>?_
 obtain⟨x,H2,I2,rx,a,c,ds,es,vs,us,k,ex,ey,g,hk,q2⟩:=zz
 subst ex ey
 obtain rfl:u=Value.ref a:=rx
 obtain rfl:iv=Value.ref c:=ry
 obtain⟨sm,xs,dd,h1,h2,h3⟩:=Fi.have I2 g
 refine wpAny_notIn_heap (w9 hu) (hk.is I2) sm dd ⟨_,H2,I2.tok _,?_,q2⟩
 by_cases hm:k∈ds
 . obtain⟨p,hp⟩:=PZ h1 g.2.2.2.2 hm
   rw[hp,am6 hm]
   rfl
 . rw[PY h1 hm,amN hm]
   rfl
theorem Vu(hu:X.A.units+64<cLine)(ho:PE X o td)(hi:PE X i ty)(hv:PE X value tv)(hs:swapsWith value (some (.Subscript o i pos')) pos.line X.env=pure false) :
   PS X (.Assign [.Subscript o i pos'] value pos) (fun D σ H=>tv σ H fun v H1=>td σ H1 fun x H2=>ty σ H2 fun y H3=>∃a c ds es vs us k,x=.ref a/\y=.ref c/\Fi X CL H3 a ds es vs us/\IxK X CL H3 k c/\k∉ds/\ds.length<=1000000/\D.nx σ (upd H3 a (.ext (uB X.w a (ds++[k]) (vs++[.ref c]) (us++[v]))))):=by
 intro pins s σ H D I h
 refine wpAny_Assign_Subscript (dz (hv pins s σ H _ I h) fun r s1 ⟨v,H1,I1,rv,q1⟩=>dz (ho pins s1 σ H1 _ I1 q1) fun u s2 ⟨x,H2,I2,rx,q2⟩=>dz (hi pins s2 σ H2 _ I2 q2) fun iv s3 zz=>?_) hs
 obtain⟨y,H3,I3,ry,a,c,ds,es,vs,us,k,ex,ey,g,hk,hm,hl,q3⟩:=zz
 subst ex ey
 obtain rfl:u=Value.ref a:=rx
 obtain rfl:iv=Value.ref c:=ry
 obtain⟨sm,xs,dd,h1,h2,h3⟩:=Fi.have I3 g
 have hz:xs.length<=sizeLine:=by rw[amE,← al8 (f:=(·.1)),h1];omega
 refine wpAny_setItem_heap (hsz:=hz) (w9 hu) (hk.is I3) dd fun h' Fd OJ=>⟨σ,_,?_,q3⟩
 rw[storedH_new (PY h1 hm)]at Fd
 have g2:=BW sm Fd h1 h2 h3 rv
 exact sL I3 (by rw[g.1];exact True.intro) OJ (let ⟨_,_,o,_,_,q,_⟩:=g2;⟨o,q⟩) (yF g2)
theorem Ew:j8 X (.builtin "len") (fun xs H Q=>∃a ds es vs us,xs=[.ref a]/\Fi X CL H a ds es vs us/\ds.length<=1000000/\Q (.int (ds.length:Nat)) H):=by
 intro pins s σ H xs us Q I r h
 obtain⟨a,ds,es,vs,Yr,rfl,g,hl,q⟩:=h
 obtain⟨u,rfl,rx⟩:=vals1 r
 cases rx
 obtain⟨sm,xs,dd,h1,h2,h3⟩:=Fi.have I g
 have ty:=dd.typeIs
 obtain⟨ob,es,ep,ho,hc,oS,he,_,_⟩:=dd
 have hz:es.size=ds.length:=by rw[size_of_entries he,← h1,al8]
 refine call_len_slot (n:=(ds.length:Nat)) ty PySem.F.slot_dict_len (fun Q' hq=>?_) (by omega) (by omega) ⟨.int (ds.length:Nat),H,I.tok _,⟨_,rfl⟩,q⟩
 refine anf PySem.F.slot_dict_len ty PySem.F.entry_dict_len ?_ (PySem.F.args_dict_len_1 _)
 show wpAny _ _ (dictSize a >>= fun _=>_) _ _ s
 unfold dictSize
 refine al6 (al6 (anq ho oS (amd (show wpAny _ _ (Builtin.Dict.pendingCount a >>= fun _=>_) _ _ s from al6 (wpAny_pendingCount_other sm (wpAny_ret_mkInt ?_))))))
 rw[hz]
 simpa using hq
def YC(X:Cx)(CL:Str->Addr):V->List V->Hp->VK->Prop:=fun x xs H Q=>∃a c ds es vs us k v,x=.ref a/\xs=[.ref c,v]/\Fi X CL H a ds es vs us/\IxK X CL H k c/\ds.length<=1000000/\(∀u,k∈ds->Q u H)/\(k∉ds->Q v (upd H a (.ext (uB X.w a (ds++[k]) (vs++[.ref c]) (us++[v])))))
theorem Vv(hu:X.A.units+64<cLine):MtM X "dict.setdefault" (YC X CL):=by
 intro pins s σ H x vs v us Q I rx rv h
 obtain⟨a,c,ds,es,ws,Yr,k,v',rfl,rfl,g,hk,hl,q1,q2⟩:=h
 cases rx
 cases rv with
 | cons r1 rv=>
   cases r1
   cases rv with
   | cons r2 rv=>
     cases rv
     obtain⟨sm,xs,dd,h1,h2,h3⟩:=Fi.have I g
     have hz:xs.length<=sizeLine:=by rw[amE,← al8 (f:=(·.1)),h1];omega
     refine call_meetsIn PySem.F.slot_dict_setdefault dd.typeIs PySem.F.entry_dict_setdefault (PySem.F.args_dict_setdefault_3 _ _ _) (Eu (lV X.prog X.w) a c sm _) ⟨w9 hu,k,xs,hk.is I,dd,hz,fun p hp=>?_,fun sy h' Fd OJ=>?_⟩
     . by_cases hm:k∈ds
       . have hul:Yr.length=ds.length:=by
           have e1:=an9 h3
           rw[al8]at e1
           rw[e1,← h1,al8]
         have hi:=amT.mpr hm
         obtain⟨p2,Fb,ep⟩:=YB h1 g.2.2.2.2 h3 hm (al9 (by omega))
         rw[hp]at Fb
         cases Fb
         exact⟨_,H,I.tok _,ep,q1 _ hm⟩
       . rw[PY h1 hm]at hp;cases hp
     . by_cases hm:k∈ds
       . obtain⟨p2,Fb⟩:=PZ h1 g.2.2.2.2 hm
         rw[sy]at Fb;cases Fb
       . have g2:=BW sm Fd h1 h2 h3 r2
         exact⟨v',_,sL I (by rw[g.1];exact True.intro) OJ (let ⟨_,_,o,_,_,q,_⟩:=g2;⟨o,q⟩) (yF g2),r2,q2 hm⟩
theorem Vw(hu:X.A.units+64<cLine)(ho:PE X o to)(ha:PA X (e::es) ta)
   (kg:attributeBase o "setdefault" X.env (eval o X.env)=eval o X.env:=by rfl)
   (yc:((backTo oh (starEach (e::es) X.env)).all (fun x=>!x.1)&&(backToKw oh (keywordEach [] X.env)).all (fun x=>x.1.isSome)&&decide ((e::es).length+([]:List Keyword).length+(if ([]:List Keyword).isEmpty then 0 else 1)<30))=true:=by rfl)
   (hline:(apos.endLine==oh.line)=true:=by rfl) (hs:starEach (e::es) X.env=(false,eval e X.env)::starEach es X.env:=by rfl) (qS:(backTo oh (starEach es X.env)).any (·.1)=false:=by rfl) :
   PE X (.Call (.Attribute o "setdefault" apos) (e::es) [] oh) (fun σ H Q=>to σ H fun x H1=>∃a ds es vs us,x=.ref a/\Fi X CL H1 a ds es vs us/\ta σ H1 fun xs H2=>YC X CL x xs H2 Q):=by
 intro pins s σ H Q I h
 refine wpAny_Call_method_late kg yc hline rfl (dz (ho pins s σ H _ I h) fun v s1 zz=>?_)
 obtain⟨x,H1,I1,r1,a,ds,es0,vs,us0,rfl,g,q1⟩:=zz
 have KZ:=r1
 cases r1
 obtain⟨sm,xs,dd,_⟩:=Fi.have I1 g
 have Fd:=dd
 obtain⟨ob,MZ,ep,h1,h2,h3,h4,h5⟩:=Fd
 refine⟨"dict","dict.setdefault",PySem.F.plainAttrs_dict,PySem.F.slot_dict_setdefault,PySem.F.type_dict_setdefault,dd.typeIs,fun a' e'=>⟨ob,by cases e';exact h1,h2.2.1⟩,?_⟩
 have hA:=ha oh pins s1 σ H1 _ I1 q1
 rw[hs]at hA ⊢
 refine Calls.callWith_builtin (by show(false || (backTo oh (starEach es X.env)).any (·.1))=false;rw[qS]<;>rfl) (Calls.evalArgs_plain ?_)
 exact dz hA fun us s2 ⟨vs,H2,I2,r2,q2⟩=>Vv hu pins s2 σ H2 _ vs _ us Q I2 KZ r2 q2
variable{K:PySem.W.Frag}{Z:Hp}{ts:List T}{v u:V}{ds es:List D}{k d:D}
theorem ay.snoc{ds:List D}{d:D}(h:ay K CL Z ds vs)(q:bu K CL Z d v):ay K CL Z (ds++[d]) (vs++[v]):=
 ay.ind (P:=fun ds vs=>ay K CL Z (ds++[d]) (vs++[v])) (.cons q .nil) (fun a _ i=>.cons a i) h
theorem bH.YD{p:Addr}(S:bH K CL b H Z δ σ ts vs)(hp:H p=none):aA H (upd H p (.ext (uB w p [] [] [])))/\bH K CL b (upd H p (.ext (uB w p [] [] []))) Z δ σ (.gF w [] []::ts) (.ref p::vs):=by
 obtain⟨fp,gp,e,r,nd,k⟩:=S.rep
 have zp:Z p=none:=S.zh.free hp
 have sh:aA H (upd H p (.ext (uB w p [] [] []))):=aA.upd hp
 have keep:∀a∈fp++gp,a≠p:=fun a ha=>by
   have:∃o,H a=some o:=by
     rcases amr.mp ha with h|h
     . exact e.there a h
     . exact r.there a h
   obtain⟨o,q⟩:=this
   exact aM q hp
 refine⟨sh,⟨⟨fp,[p]++gp,e.mono (.refl _) (fun a ha=>ao (keep a (amk _ ha))),.cons (.gF az .nil .nil) (r.mono (.refl _) fun a ha=>ao (keep a (by simp[ha]))),?_,fun a ha=>?_⟩,S.bh.trans sh,S.zz,S.zh.trans sh,S.new,fun a o q i=>?_,S.tab⟩⟩
 . refine(ant (l₁:=fp) (l₂:=gp) (a:=p)).nodup_iff.mpr (ana.mpr ⟨fun h=>keep p h rfl,nd⟩)
 . rcases ami.mp ((ant (l₁:=fp) (l₂:=gp) (a:=p)).mem_iff.mp ha) with h|h
   . subst h;exact⟨zp,S.bh.free hp⟩
   . exact k a h
 . by_cases h:a=p
   . subst h;rw[az]at q;cases q;cases i
   . rw[ao h]at q;exact S.tp a o q i
theorem bH.YF{i:Nat}(S:bH K CL b H Z δ σ (.sh k::.sh d::ts) (v::u::vs))(hi:δ[i]? = some (some (.gF w ds es))) :
   ∃a gs hs,σ[i]? = some (some (.ref a))/\H a=some (.ext (uB w a ds gs hs))/\ay K CL Z ds gs/\ay K CL Z es hs/\bH K CL b (upd H a (.ext (uB w a (ds++[k]) (gs++[v]) (hs++[u])))) Z (δ.set i (some (.gF w (ds++[k]) (es++[d])))) σ ts vs:=by
 obtain⟨fp,gp,e,r,nd,kk⟩:=S.rep
 obtain⟨v0,f1,f2,f3,hv,pN,rt,put,_⟩:=e.get hi
 subst pN
 cases rt with
 | @gF a _ gs hs _ _ ha rs rq=>
   cases r with
   | @cons _ _ _ _ ft gr q1 q2=>
     cases q1 with
     | sh q1=>
       cases q2 with
       | @cons _ _ _ _ ft2 gr q3 q2=>
         cases q3 with
         | sh q3=>
           have ne:∀c∈(f1++f3)++gr,c≠a:=fun c hc e=>by
             subst e
             have hp:((f1++([c]++f3))++([]++([]++gr))).Perm (c::((f1++f3)++gr)):=by
               rw[anm,anm,List.singleton_append]
               exact(ant.append_right _)
             exact(ana.mp (hp.nodup_iff.mp nd)).1 hc
           refine⟨a,gs,hs,hv,ha,rs,rq,?_⟩
           have r1:bB K CL (upd H a (.ext (uB w a (ds++[k]) (gs++[v]) (hs++[u])))) Z (.gF w (ds++[k]) (es++[d])) (.ref a) [a]:=.gF az (rs.snoc q1) (rq.snoc q3)
           have e2:=put (H':=upd H a (.ext (uB w a (ds++[k]) (gs++[v]) (hs++[u])))) (.refl _) (fun c hc=>ao (ne c (by
             rcases amr.mp hc with h|h
             . simp[h]
             . simp[h]))) r1
           rw[gj hv]at e2
           exact S.yk rfl kk (by simp) e2 (q2.mono (.refl _) fun c hc=>ao (ne c (by simp[hc]))) nd fun c hc=>hc
theorem bH.aeI{p c:Addr}(S:bH K CL b H Z δ σ (.sh d::.sh k::.gF w [] []::ts) (u::.ref c::.ref p::vs)):H p=some (.ext (uB w p [] [] []))/\bH K CL b (upd H p (.ext (uB w p [k] [.ref c] [u]))) Z δ σ (.gF w [k] [d]::ts) (.ref p::vs):=by
 obtain⟨fp,gp,e,r,nd,kk⟩:=S.rep
 cases r with
 | @cons _ _ _ _ f0 g0 q1 r=>
   cases r with
   | @cons _ _ _ _ ft gr q2 r=>
     cases r with
     | @cons _ _ _ _ ft3 gr q3 q4=>
       cases q1 with
       | sh q1=>
         cases q2 with
         | sh q2=>
           cases q3 with
           | @gF a _ gs hs _ _ ha rs rq=>
             cases rs
             cases rq
             have ne:∀c∈fp++gr,c≠p:=fun c hc z=>by
               subst z
               have hp:(fp++([]++([]++([c]++gr)))).Perm (c::(fp++gr)):=by
                 rw[anm,anm,List.singleton_append]
                 exact ant
               exact(ana.mp (hp.nodup_iff.mp nd)).1 hc
             exact⟨ha,S.yk rfl kk (by simp) (e.mono (.refl _) fun c hc=>ao (ne c (by simp[hc]))) (.cons (.gF az (.cons q2 .nil) (.cons q1 .nil)) (q4.mono (.refl _) fun c hc=>ao (ne c (by simp[hc])))) nd fun c hc=>hc⟩
section
variable{e1 e2 e3:Expr}{ds es ks:List L3.D}{d:L3.D}{ps px pa:Pos}{i:Nat}{x:Str}{gf:List Stmt}{D:eL}
structure Gm(ds:List L3.D):Prop where
 n:∀d∈ds,iN 8 d
 d:ds.Nodup
 l:ds.length<=1000000
theorem Vy:bO X CL b (.Dict [] [] pos) δ (.gF X.w [] []) δ:=fun H Z σ ts vs Q S kk=>bW Vr fun p hp=>by
 obtain⟨c,S1⟩:=S.YD hp
 exact kk _ _ Z (.refl _) c S1
theorem aeJ(hu:X.A.units+64<cLine)(h1:bO X CL b e1 δ (.sh (.tup ks)) δ1)(h2:bO X CL b e2 δ1 (.sh d) δ2)(hk:iN 8 (.tup ks)):bO X CL b (.Dict [some e1] [e2] pos) δ (.gF X.w [.tup ks] [d]) δ2:=fun H Z σ ts vs Q S kk=>
 bW (P0 (CL:=CL) hu cN cN) fun p hp=>by
   obtain⟨c0,S1⟩:=S.YD (w:=X.w) hp
   refine h1 _ Z σ _ _ _ S1 fun v1 H1 Z1 z1 k1 S2=>h2 H1 Z1 σ _ _ _ S2 fun v2 H2 Z2 z2 k2 S3=>?_
   have rk:=S3.pop.oO
   have rk':=rk
   cases rk with
   | @tup c us _ hq rr=>
     obtain⟨ha,S4⟩:=S3.aeI
     refine⟨c,.tup ks,rfl,ha,⟨hk,rk'.mono S3.zh⟩,kk _ _ Z2 (z1.trans z2) ?_ S4⟩
     refine fun a o q=>?_
     have ne:a≠p:=fun z=>by rw[z,hp]at q;cases q
     rw[ao ne]
     exact k2 _ _ (k1 _ _ (c0 _ _ q))
theorem BX(hu:X.A.units+64<cLine)(ok:Gm ds)(h1:cZ X CL b e1 δ (.gF X.w ds es) δ1)(h2:cZ X CL b e2 δ1 (.tup ks) δ2)(hk:L3.D.tup ks∈ds)(hd:es[ds.idxOf (.tup ks)]? = some d)(hs:KR e2:=by exact fun _ _=>rfl):cZ X CL b (.Subscript e1 e2 pos) δ d δ2:=fun H Z σ ts vs Q S kk=>
 bW (Vs (CL:=CL) hu cN cN hs) (h1 H Z σ ts vs _ S fun v H1 Z1 z1 k1 S1 r1=>h2 H1 Z1 σ ts vs _ S1 fun v2 H2 Z2 z2 k2 S2 r2=>by
   cases r1 with
   | @gF a _ gs hs _ _ ha rr rq=>
     have r2':=r2
     cases r2 with
     | tup hq rk=>
       obtain⟨u,hu2,ru⟩:=(rq.mono k2).get hd
       exact⟨a,_,ds,es,gs,hs,.tup ks,u,rfl,rfl,⟨k2 _ _ ha,rr.mono k2,rq.mono k2,ok.n,ok.d⟩,⟨ok.n _ hk,r2'⟩,hk,hu2,kk u H2 Z2 (z1.trans z2) (k1.trans k2) S2 ru⟩)
theorem Vz(hu:X.A.units+64<cLine)(ok:Gm ds)(h1:cZ X CL b e1 δ (.tup ks) δ1)(h2:cZ X CL b e2 δ1 (.gF X.w ds es) δ2)(hk:iN 8 (.tup ks))(hm:behindInMarks .NotIn e2=false) :
   qA X CL b (.Compare e1 [.NotIn] [e2] pos) δ (!decide (L3.D.tup ks∈ds)) δ2:=fun H Z σ ts vs Q S kk=>
 uE (xW (Vt (CL:=CL) hu cN cN) hm) (h1 H Z σ ts vs _ S fun v H1 Z1 z1 k1 S1 r1=>h2 H1 Z1 σ _ _ _ S1 fun v2 H2 Z2 z2 k2 S2 r2=>by
   cases r2 with
   | @gF a _ gs hs _ _ ha rr rq=>
     have KZ:=r1.mono k2
     cases r1 with
     | tup hq rk=>exact⟨a,_,ds,es,gs,hs,.tup ks,rfl,rfl,⟨ha,rr,rq,ok.n,ok.d⟩,⟨hk,KZ⟩,_,rfl,kk H2 Z2 (z1.trans z2) (k1.trans k2) S2⟩)
theorem VA(ok:Gm ds)(hm:X.mg "len" = none)(h:cZ X CL b e δ (.gF X.w ds es) δ1)(hg:Gl X "len")(hs:starEach [e] X.env=(false,eval e X.env)::starEach [] X.env:=by exact bA rfl):bO X CL b (.Call (.Name "len" pp) [e] [] pos) δ (.sh (.int (ds.length:Nat))) δ1:=fun H Z σ ts vs Q S k=>
 bW (ji (Ew (CL:=CL)) hg hm PySem.boot_len (b8 cN dY hs) (he:=hs)) (h H Z σ ts vs _ S fun v H1 Z1 z1 k1 S1 r=>by
   cases r with
   | @gF a _ gs hs _ _ ha rr rq=>exact⟨a,ds,es,gs,hs,rfl,⟨ha,rr,rq,ok.n,ok.d⟩,ok.l,k _ H1 Z1 z1 k1 (S1.push (.int _))⟩)
theorem aaX(hu:X.A.units+64<cLine)(ok:Gm ds)(n:Vn X i x)(h:bO X CL b e δ (.sh d) δ1)(h2:bO X CL b e2 δ1 (.sh (.tup ks)) δ1)(h1:δ1[i]? = some (some (.gF X.w ds es)))(hk:iN 8 (.tup ks))(hn:L3.D.tup ks∉ds)(kk:dZ X CL b gf (δ1.set i (some (.gF X.w (ds++[.tup ks]) (es++[d])))) D)
   (hs:swapsWith e (some (.Subscript (.Name x pp) e2 ps)) pos.line X.env=pure false:=by rfl):dZ X CL b (.Assign [.Subscript (.Name x pp) e2 ps] e pos::gf) δ D:=cX fun H Z σ ts vs E S M=>
 qz (Vu (CL:=CL) hu (g8 n.hi n.hv n.hd n.iO) cN cN hs) (h H Z σ ts vs _ S fun v H1 Z1 z1 k1 S1=>by
   obtain⟨v0,e0,_⟩:=S1.look h1
   refine⟨v0,e0,h2 H1 Z1 σ _ _ _ S1 fun v2 H2 Z2 z2 k2 S2=>?_⟩
   have rk:=S2.oO
   have rk':=rk
   cases rk with
   | @tup c us _ hq rr=>
     obtain⟨a,gs,hs,ea,ha,hg,hh,S3⟩:=S2.YF h1
     rw[e0]at ea
     cases ea
     exact⟨a,c,ds,es,gs,hs,.tup ks,rfl,rfl,⟨ha,hg.mono S2.zh,hh.mono S2.zh,ok.n,ok.d⟩,⟨hk,rk'.mono S2.zh⟩,hn,ok.l,M.nx _ σ _ Z2 (z1.trans z2) S3 kk⟩)
theorem VB(hu:X.A.units+64<cLine)(ok:Gm ds)(n:Vn X i x)(h1:δ[i]? = some (some (.gF X.w ds es)))(h2:bO X CL b e2 δ (.sh (.tup ks)) δ)(h3:bO X CL b e3 δ (.sh d) δ)(hk:iN 8 (.tup ks))
   (kg:attributeBase (.Name x px) "setdefault" X.env (eval (.Name x px) X.env)=eval (.Name x px) X.env:=by rfl)
   (yc:((backTo pos (starEach [e2,e3] X.env)).all (fun x=>!x.1)&&(backToKw pos (keywordEach [] X.env)).all (fun x=>x.1.isSome)&&decide ([e2,e3].length+([]:List Keyword).length+(if ([]:List Keyword).isEmpty then 0 else 1)<30))=true:=by rfl)
   (hline:(pa.endLine==pos.line)=true:=by rfl) (hs:starEach [e2,e3] X.env=(false,eval e2 X.env)::starEach [e3] X.env:=by exact bA rfl) (wQ:starEach [e3] X.env=(false,eval e3 X.env)::starEach [] X.env:=by exact bA rfl) (qS:(backTo pos (starEach [e3] X.env)).any (·.1)=false:=by rfl) :
   TEm X CL b (.Call (.Attribute (.Name x px) "setdefault" pa) [e2,e3] [] pos) δ (.sh .any) (δ.set i (some (if L3.D.tup ks∈ds then .gF X.w ds es else .gF X.w (ds++[.tup ks]) (es++[d])))):=fun H Z σ ts vs Q S kk=>
 bW (Vw (CL:=CL) hu (g8 n.hi n.hv n.hd n.iO) (b8 cN (b8 cN dY wQ) hs) kg yc hline hs qS) (by
   obtain⟨v0,e0,r0⟩:=S.look h1
   rw[T.bP]at r0
   cases r0 with
   | @gF a _ gs0 wk _ _ ha0 rr0 rq0=>
     refine⟨_,e0,a,ds,es,gs0,wk,rfl,⟨ha0,rr0,rq0,ok.n,ok.d⟩,h2 H Z σ _ _ _ S fun v2 H2 Z2 z2 k2 S2=>h3 H2 Z2 σ _ _ _ S2 fun v3 H3 Z3 z3 k3 S3=>?_⟩
     have rv:=S3.oO
     have rk:=S3.pop.oO
     have rk':=rk
     cases rk with
     | @tup c us _ hq rr=>
       obtain⟨a2,gs,i7,ea,ha,hg,hh,S4⟩:=((S3.pop.pop.push rv).push rk').YF h1
       rw[e0]at ea
       cases ea
       refine⟨a,c,ds,es,gs,i7,.tup ks,v3,rfl,rfl,⟨ha,hg.mono S3.zh,hh.mono S3.zh,ok.n,ok.d⟩,⟨hk,rk'.mono S3.zh⟩,ok.l,fun u hm=>?_,fun hm=>?_⟩
       . rw[amx hm]at kk
         refine kk _ H3 Z3 (z2.trans z3) ?_
         rw[gj h1]
         exact S3.pop.pop.push (.any _)
       . rw[amq hm]at kk
         exact kk _ _ Z3 (z2.trans z3) (S4.push (.any _)))
end
section
variable{D:eL}{px py pt pa pc:Pos}{x x2:Str}{i i2 kk:Nat}{gf body:List Stmt}{kvs:List (List Key×L3.D)}
theorem aaY(g:Gx X)(nm:Ln X i x)(nm2:Ln X i2 x2)(P:Nat->List (Option T)->Prop)(h:bO X CL b e δ (.sh (.dct kvs)) δ1)(h0:P 0 δ1)(hl:∀j δ,P j δ->i<δ.length/\i2<δ.length)
   (hs:∀(b':Bx) (j:Nat) (k:List Key) (d:L3.D) δ,kvs[j]? = some (k,d)->P j δ->dZ X CL b' body ((δ.set i (some (fu k))).set i2 (some (.sh d))) {nx:=P (j+1),rt:=D.rt,bk:=fun δ2=>dZ X CL b gf δ2 D,ct:=P (j+1)}) (hd:∀δ,P kvs.length δ->dZ X CL b gf δ D)
   (kg:attributeBase e "items" X.env (eval e X.env)=eval e X.env:=by rfl) (hline:(pa.endLine==pc.line)=true:=by rfl)
   (h5:(assignEach [.Name x px,.Name x2 py] X.env).map (·.2)=assign (.Name x px) X.env::(assignEach [.Name x2 py] X.env).map (·.2):=by rfl) (h6:(assignEach [.Name x2 py] X.env).map (·.2)=assign (.Name x2 py) X.env::(assignEach [] X.env).map (·.2):=by rfl)
   (h7:(assignEach [.Name x px,.Name x2 py] X.env).length=2:=by rfl) (h8:(assignEach [.Name x px,.Name x2 py] X.env).findIdx? (·.1)=none:=by rfl)
   (hq:∀x,foldedSetIterable (.Call (.Attribute e "items" pa) [] [] pc) X.env x=pure x:=by intro _;rfl):dZ X CL b (.For (.Tuple [.Name x px,.Name x2 py] kk pt) (.Call (.Attribute e "items" pa) [] [] pc) body [] pos::gf) δ D:=cX fun H Z σ ts vs E S M=>
 AQ (qz (Bp g.xe g.calm (Py cN kg hline) (Nn g.calm (r9 (kR g.nd nm.hi nm.loc nm.hf) (r9 (kR g.nd nm2.hi nm2.loc nm2.hf) Ij h6) h5) h7 h8) M3 hq) (h H Z σ ts vs _ S fun v H1 Z1 z1 k1 S1=>by
   have r:=S1.oO
   cases r with
   | @dct a gs _ ha rr=>
     have AU:kvs.length=gs.length:=rr.length
     have Vi:∀{Z2 H2:Hp} {kb:Addr} {k:List Key},(∀a o,H2 a=some o->iL o=true->Z2 a=some o)->H2 kb=some (.tup (k.map kV))->bB X.K CL H2 Z2 (fu k) (.ref kb) []:=fun tp hk=>.tup (tp _ _ hk rfl) (aO.ofF (yw _))
     have step:∀{b':Bx} {Z2 H2:Hp} {σ2:L2.St} {δ2:List (Option T)} {j:Nat} {tp kb:Addr} {k:List Key} {v:V},bH X.K CL b' H2 Z2 δ2 σ2 ts vs->cj X.K CL Z2 kvs gs->H2 tp=none->gs[j]? = some (k,v)->H2 kb=some (.tup (k.map kV))->P j δ2->∃d Z3,kvs[j]? = some (k,d)/\aA Z2 Z3/\bH X.K CL b' (upd H2 tp (.tup [.ref kb,v])) Z3 ((δ2.set i (some (fu k))).set i2 (some (.sh d))) ((σ2.set i (some (.ref kb))).set i2 (some v)) ts vs:=by
       intro b' Z2 H2 σ2 δ2 j tp kb k v S3 Fe hT hg hk p2
       obtain⟨d,zQ,rd⟩:=Fe.Vf hg
       have gr:ym Z2 H2 _ _:=ym.tup (xs:=[.ref kb,v]) S3.zh S3.tp hT
       have S4:=(((S3.grow gr).push (rd.mono gr.z)).Jb (Vi (S3.grow gr).tp (gr.h _ _ hk))).set (hl j δ2 p2).1
       exact⟨d,_,zQ,gr.z,S4.set (by rw[aoQ];exact(hl j δ2 p2).2)⟩
     rcases ha with ha|⟨o,ha⟩
     . have hH:=S1.zh a _ ha
       refine⟨a,gs,rfl,.inl ⟨hH,fun o hz=>?_⟩⟩
       have S2:=S1.pop.still ha o
       have Ea:cj X.K CL (upd Z1 a (.bP o (.dT gs))) kvs gs:=cj.conv (fun c u q=>by
         by_cases e:c=a
         . subst e
           rw[ha]at q
           cases q
           exact .inr (.inl ⟨gs,o,rfl,az⟩)
         . exact .inl (by rw[ao e];exact q)) rr
       have t1:∀u,b.B a=some u->u=.dT gs:=fun u q=>by
         have:=S1.bh a u q
         rw[hH]at this;exact(amA this).symm
       have t2:∀u,b.Z a=some u->u=.dT gs:=fun u q=>by
         have:=S1.zz a u q
         rw[ha]at this;exact(amA this).symm
       have t3:b.Z a=none->b.B a=none:=S1.new a _ ha
       have back:∀{Z2:Hp},aA (upd Z1 a (.bP o (.dT gs))) Z2->aA Z (upd Z2 a (.dT gs)):=fun {Z2} s c u q=>by
         have q1:=z1 c u q
         by_cases e:c=a
         . subst e
           rw[ha]at q1
           cases q1
           exact az
         . rw[ao e]
           exact s c u (by rw[ao e];exact q1)
       refine⟨fun j m σ H2=>m=gs.length-j/\j<=gs.length/\∃Z2 δ2,aA (upd Z1 a (.bP o (.dT gs))) Z2/\bH X.K CL (oU b a (.bP o (.dT gs))) H2 Z2 δ2 σ ts vs/\P j δ2,⟨_,rfl,amR _,_,δ1,.refl _,S2,h0⟩,?_⟩
       rintro j m σ2 H2 ⟨rfl,hj,Z2,δ2,s,S3,p2⟩
       have za:Z2 a=some (.bP o (.dT gs)):=s a _ az
       by_cases iS:j<gs.length
       . refine .inr ⟨⟨iS,S3.zh a _ za⟩,fun σ' H'=>∃Z2 δ2,aA (upd Z1 a (.bP o (.dT gs))) Z2/\bH X.K CL (oU b a (.bP o (.dT gs))) H' Z2 δ2 σ' ts vs/\P (j+1) δ2,fun σ' H' h=>⟨gs.length-(j+1),by omega,rfl,iS,h⟩,fun y H' hy=>?_⟩
         obtain⟨tp,kb,k,v,hT,rfl,hg,hk,rfl⟩:=hy
         obtain⟨d,Z3,zQ,s3,S4⟩:=step S3 (Ea.mono s) hT hg hk p2
         have za3:=s3 a _ za
         have s:=s.trans s3
         refine⟨_,_,rfl,om.of az,rfl,_,_,rfl,_,_,rfl,rfl,?_⟩
         exact hs _ j k d δ2 zQ p2 _ Z3 _ ts vs _ S4 ⟨fun δ' σ' H' Z' s' S' k=>⟨Z',δ',s.trans s',S',k⟩,fun t v H' Z' δ' σ' s' S' k=>.inr ⟨a,o,gs,S'.zh a _ (s' a _ za3),hz,M.rt t v _ _ δ' σ' (back (s.trans s')) (S'.BR (s' a _ za3) t1 t2 t3) k⟩,fun δ' σ' H' Z' s' S' k=>.inr ⟨a,o,gs,S'.zh a _ (s' a _ za3),hz,M.nx δ' σ' _ _ (back (s.trans s')) (S'.BR (s' a _ za3) t1 t2 t3) k⟩,fun δ' σ' H' Z' s' S' k=>⟨Z',δ',s.trans s',S',k⟩⟩
       . have ej:j=gs.length:=by omega
         subst ej
         exact .inl ⟨⟨aml _,S3.zh a _ za⟩,.inr ⟨a,o,gs,S3.zh a _ za,hz,M.nx δ2 σ2 _ _ (back s) (S3.BR za t1 t2 t3) (hd δ2 (AU▸p2))⟩⟩
     . refine⟨a,gs,rfl,.inr ⟨o,S1.zh a _ ha,?_⟩⟩
       refine⟨fun j m σ H2=>m=gs.length-j/\j<=gs.length/\∃Z2 δ2,aA Z1 Z2/\bH X.K CL b H2 Z2 δ2 σ ts vs/\P j δ2,⟨_,rfl,amR _,_,δ1,.refl _,S1.pop,h0⟩,?_⟩
       rintro j m σ2 H2 ⟨rfl,hj,Z2,δ2,s,S3,p2⟩
       have za:Z2 a=some (.bP o (.dT gs)):=s a _ ha
       by_cases iS:j<gs.length
       . refine .inr ⟨⟨iS,S3.zh a _ za⟩,fun σ' H'=>∃Z2 δ2,aA Z1 Z2/\bH X.K CL b H' Z2 δ2 σ' ts vs/\P (j+1) δ2,fun σ' H' h=>⟨gs.length-(j+1),by omega,rfl,iS,h⟩,fun y H' hy=>?_⟩
         obtain⟨tp,kb,k,v,hT,rfl,hg,hk,rfl⟩:=hy
         obtain⟨d,Z3,zQ,s3,S4⟩:=step S3 (rr.mono s) hT hg hk p2
         have s:=s.trans s3
         refine⟨_,_,rfl,om.of az,rfl,_,_,rfl,_,_,rfl,rfl,?_⟩
         exact hs _ j k d δ2 zQ p2 _ Z3 _ ts vs _ S4 ⟨fun δ' σ' H' Z' s' S' k=>⟨Z',δ',s.trans s',S',k⟩,fun t v H' Z' δ' σ' s' S' k=>.inl (M.rt t v _ _ δ' σ' (z1.trans (s.trans s')) S' k),fun δ' σ' H' Z' s' S' k=>.inl (M.nx δ' σ' _ _ (z1.trans (s.trans s')) S' k),fun δ' σ' H' Z' s' S' k=>⟨Z',δ',s.trans s',S',k⟩⟩
       . have ej:j=gs.length:=by omega
         subst ej
         exact .inl ⟨⟨aml _,S3.zh a _ za⟩,.inl (M.nx δ2 σ2 _ _ (z1.trans s) S3 (hd δ2 (AU▸p2)))⟩))
end
theorem aeK{w':World}{ds:List D}(h:∀d∈ds,d.sG w=d.sG w')(a:Addr)(vs us:List V):uB w a ds vs us=uB w' a ds vs us:=by
 have one:∀{w w':World},(∀d∈ds,d.sG w=d.sG w')->∀g:Heap,uB w a ds vs us g->uB w' a ds vs us g:=fun {w w'} h g q=>by
   obtain⟨sm,xs,o,es,ep,h1,h2,h3,h4,h5,h6,h7⟩:=q
   refine⟨sm,xs,o,es,ep,h1,h2,h3,?_,h5,h6,h7⟩
   rw[h4]
   refine amL fun x hx=>?_
   rw[h x.1 (by rw[← h5];exact amj.mpr ⟨x,hx,rfl⟩)]
 funext g
 exact propext ⟨one h g,one (fun d hd=>(h d hd).symm) g⟩
theorem P1{w':World}{ds es:List L3.D}(h:cZ X CL b e δ (.gF w ds es) δ1)(hw:∀d∈ds,d.sG w=d.sG w'):cZ X CL b e δ (.gF w' ds es) δ1:=fun H Z σ ts vs Q S k=>
 h H Z σ ts vs _ S fun v H1 Z1 z1 k1 S1 r=>k v H1 Z1 z1 k1 S1 (by
   cases r with
   | @gF a _ gs hs _ _ ha rr rq=>exact .gF (by rw[← aeK hw];exact ha) rr rq)
end L3
namespace Law
open PySem L2 L3
def top(i:Nat):Stmt:=PySem.Challenge.pw_moodtree_k60_whole_least_is_least.main.body.getD i (.Pass ⟨0,0,0,0⟩)
def chF:Nat->List Int->Int->List Int
 | 0,_,_=>[]
 | n+1,es,k=>if k=-1 then [] else k::chF n es (es.getD k.toNat 0)
def chM(es:List Int)(m:Int):List Int:=chF (es.length+1) es (es.getD m.toNat 0)
theorem gD(ds:List L3.D):T.bP (.lst (ds.map T.sh))=.lst ds:=by rw[T.bP,iY]
def P4(AW:Int->Bool)(es:List Int)(a b t:Int):Prop:=
 (t=-1/\∀x∈chM es a,x∈chM es b->AW x=false)\/(t∈chM es a/\t∈chM es b/\AW t=true/\∀x∈chM es a,x∈chM es b->AW x=true->x=t\/x∈chM es t)
theorem P4.symm{AW:Int->Bool}{es:List Int}{a b t:Int}(h:P4 AW es a b t):P4 AW es b a t:=by
 rcases h with⟨e,h⟩|⟨h1,h2,h3,h4⟩
 . exact .inl ⟨e,fun x hx hy=>h x hy hx⟩
 . exact .inr ⟨h2,h1,h3,fun x hx hy=>h4 x hy hx⟩
theorem aS{ds:List L3.D}(h:D.aY ds=true):(T.lst (ds.map T.sh)).clean=true:=by
 rw[AG]
 induction ds with
 | nil=>rfl
 | cons d ds ih=>
   rw[D.aY,amI]at h
   rw[amB,T.cR,ih h.2,T.clean,h.1];rfl
def bF(ns:List Int)(k:Int):Int:=if k<ns.length then ns.getD k.toNat 0 else 0
def Ly:List Nat:=(List.range 26).map (· + 97)++(List.range 10).map (· + 48)
theorem P5:("abcdefghijklmnopqrstuvwxyz0123456789":Str).cps.toList=Ly:=by decide +kernel
def wm(k:Int):Str:=⟨#[Ly.getD k.toNat 0]⟩
theorem aa0:∀n∈Ly,n<1114112:=by decide +kernel
theorem P6(k:Int):PyData.strOk (wm k)=true:=by
 unfold PyData.strOk wm
 have:Ly.getD k.toNat 0<1114112:=by
   rw[amb]
   cases e:Ly[k.toNat]? with
   | none=>decide
   | some n=>exact aa0 n (amt e)
 simpa [List.getD_eq_getElem?_getD] using this
def VC(m:Int):Int:=(m*48271+11) % 2147483647
def kB(p:Int×Str):Nat->Int×Str
 | 0=>p
 | n+1=>(VC (kB p n).1,(kB p n).2++wm (VC (kB p n).1 % 36))
def nm0(c:Int):Int×Str:=(c / 12 % 10 ^ (9:Int).toNat,wm (c / 12 % 10 ^ (9:Int).toNat % 26))
theorem P7(p:Int×Str)(n:Nat):(kB p n).2.length=p.2.length+n:=by
 induction n with
 | zero=>rfl
 | succ n ih=>
   show((kB p n).2++wm _).length=_
   rw[str_len,ih]
   show _+1=_
   omega
theorem aeL(p:Int×Str)(h:PyData.strOk p.2=true)(n:Nat):PyData.strOk (kB p n).2=true:=by
 induction n with
 | zero=>exact h
 | succ n ih=>exact FU _ _ ih (P6 _)
def TV(c:Int):Str:=(kB (nm0 c) (c % 12).toNat).2
theorem Jh(c:Int):(TV c).length<=12:=by
 unfold TV
 rw[P7]
 have h1:=amU c (show(12:Int)≠0 by decide)
 have h2:=amW c (show(0:Int)<12 by decide)
 show 1+(c % 12).toNat<=12
 omega
def w13:List Str:=["all","and","box","call","do","far","if","in","leaf","near","on","one","open"]
def w6:List Str:=["out","put","say","shut","then","to"]
def gK(c:Int):Str:=if TV c∈w13 then TV c++"0" else if TV c∈w6 then TV c++"0" else TV c
theorem BZ(c:Int):PyData.strOk (gK c)=true:=by
 have hb:PyData.strOk (TV c)=true:=aeL _ (P6 _) _
 have h0:PyData.strOk ("0":Str)=true:=by decide +kernel
 unfold gK
 split
 . exact FU _ _ hb h0
 . split
   . exact FU _ _ hb h0
   . exact hb
abbrev St3:=List Int×List Int×List Int
inductive J where
 | out (m:Int)|yq (m:Int)|keep (m p q:Int)|put (x p q:Int)|IZ (w:Str) (ds:List L3.D)
def J.w:J->Str
 | .out _=>"out"
 | .yq _=>"in"
 | .keep _ _ _=>"keep"
 | .put _ _ _=>"put"
 | .IZ w _=>w
def J.ds:J->List L3.D
 | .out m=>[.int m]
 | .yq m=>[.int m]
 | .keep m p q=>[.int m,.int p,.int q]
 | .put x p q=>[.int x,.int p,.int q]
 | .IZ _ ds=>ds
def J.d(r:J):L3.D:=.tup (.str r.w::r.ds)
def aeM:List Str:=["sign","way","call","say","rest"]
def P8(d:L3.D):Prop:=(∃i,d=.int i)\/∃x,d=.str x
def J.ok(s:St3):J->Prop
 | .keep m _ _=>0<=m/\m<s.2.1.length
 | .put x _ _=>0<=x/\x<s.2.2.length
 | .IZ w ds=>w∈aeM/\ds.length<=3/\∀d∈ds,P8 d
 | _=>True
theorem J.aga{s:St3}{r:J}(h:r.ok s):r.ds.length<=3/\∀d∈r.ds,P8 d:=by
 cases r with
 | IZ w ds=>exact h.2
 | out m=>exact⟨amh rfl,fun d hd=>by simp only[J.ds,ami,amw,ani]at hd;exact .inl ⟨_,hd⟩⟩
 | yq m=>exact⟨amh rfl,fun d hd=>by simp only[J.ds,ami,amw,ani]at hd;exact .inl ⟨_,hd⟩⟩
 | keep m p q=>exact⟨amh rfl,fun d hd=>by
     simp only[J.ds,ami,amw,ani]at hd
     rcases hd with h|h|h<;>exact .inl ⟨_,h⟩⟩
 | put m p q=>exact⟨amh rfl,fun d hd=>by
     simp only[J.ds,ami,amw,ani]at hd
     rcases hd with h|h|h<;>exact .inl ⟨_,h⟩⟩
def Right(n:Nat)(s:St3):J->Prop
 | .out m=>m∈s.1
 | .yq m=>m∉s.1/\0<=m/\m<n
 | .keep m p _=>0<=m/\m<s.2.1.length/\s.2.1.getD m.toNat 0=p
 | .put x p _=>0<=x/\x<s.2.2.length/\s.2.2.getD x.toNat 0=p
 | .IZ w ds=>w∈aeM/\ds.length<=3/\∀d∈ds,P8 d
variable{n:Nat}
theorem Right.ok{s:St3}{r:J}(h:Right n s r):r.ok s:=by
 cases r with
 | out m=>trivial
 | yq m=>trivial
 | keep m p q=>exact⟨h.1,h.2.1⟩
 | put m p q=>exact⟨h.1,h.2.1⟩
 | IZ w ds=>exact h
theorem aeN(r:J):rW (L3.D.str r.w::r.ds) 0=some (.str r.w):=aG (j:=0) rfl
def P9(bx mo:Int)(bs:List Int):Int:=if bx=-1 then mo else bs.getD bx.toNat 0+mo
inductive sU where
 | put (x b m:Int)
 | call (s:Str)
 | say (s:Str) (b m:Int)
def sU.w:sU->Str
 | .put _ _ _=>"put"
 | .call _=>"call"
 | .say _ _ _=>"say"
def sU.ds:sU->List L3.D
 | .put x b m=>[.int x,.tup [.int b,.int m]]
 | .call s=>[.str s]
 | .say s b m=>[.str s,.tup [.int b,.int m]]
def sU.d(q:sU):L3.D:=.tup (.str q.w::q.ds)
def tOk(bs:List Int)(b:Int):Prop:=b=-1\/(0<=b/\b<bs.length)
def sU.ok(bs:List Int):sU->Prop
 | .put x b _=>(0<=x/\x<bs.length)/\tOk bs b
 | .call _=>True
 | .say _ b _=>tOk bs b
def sU.row(bs:List Int):sU->J
 | .put x b m=>.put x (bs.getD x.toNat 0) (P9 b m bs)
 | .call s=>.IZ "call" [.str s]
 | .say s b m=>.IZ "say" [.str s,.int (P9 b m bs)]
theorem sV(q:sU):q.d.gA=true:=by cases q<;>rfl
inductive It where
 | out (m:Int)|keep (m p q:Int)|way (i:Int)|yq (m:Int)|iV (q:sU)
def It.sj:It->J
 | .out m=>.out m
 | .keep m p q=>.keep m p q
 | .way i=>.IZ "way" [.int i]
 | .yq m=>.yq m
 | .iV q=>.IZ q.w q.ds
def It.d(x:It):L3.D:=x.sj.d
def It.j(bs:List Int):It->J
 | .iV q=>q.row bs
 | x=>x.sj
def It.ok(bs:List Int):It->Prop
 | .iV q=>q.ok bs
 | _=>True
def It.told:It->Bool
 | .iV _=>true
 | _=>false
def cK:List Str:=["out","keep","way","in"]
theorem sX(x:It):decide (x.sj.w∈cK)=!x.told:=by
 cases x with
 | iV q=>
   cases q with
   | put x b m=>show decide (("put":Str)∈cK)=false;decide +kernel
   | call s=>show decide (("call":Str)∈cK)=false;decide +kernel
   | say s b m=>show decide (("say":Str)∈cK)=false;decide +kernel
 | out m=>show decide (("out":Str)∈cK)=true;decide +kernel
 | keep m p q=>show decide (("keep":Str)∈cK)=true;decide +kernel
 | way i=>show decide (("way":Str)∈cK)=true;decide +kernel
 | yq m=>show decide (("in":Str)∈cK)=true;decide +kernel
theorem aa1(x:It):x.d.gA=true:=by
 cases x with
 | iV q=>exact sV q
 | _=>rfl
def trB(m:Nat)(p:Int):Int:=p % ((m:Int)+1)-1
def trC(m:Nat)(p:Int):Int:=p / ((m:Int)+1) / 3
def trM(m:Nat)(p:Int):Int:=if p / ((m:Int)+1) % 3=0 then trC m p % (2*10 ^ (9:Int).toNat+1)-10 ^ (9:Int).toNat else trC m p % 7-3
def trP(m:Nat)(p:Int):Int:=if p / ((m:Int)+1) % 3=0 then trC m p / (2*10 ^ (9:Int).toNat+1) else trC m p / 7
def wN(k:Int):Str:=("w":Str)++(toString k:Str)
def pcI(m:Nat)(hs:List Str)(p:Int):It:=
 if p % 9<4 then([.out 1,.keep 0 (-1) 2,.way (p / 9 % 5),.yq 2]:List It).getD (p % 9).toNat (.out 1)
 else if p % 9<6/\0<m then .iV (.put (p / 9 % (m:Int)) (trB m (p / 9 / (m:Int))) (trM m (p / 9 / (m:Int))))
 else if p % 9<8 then .iV (.say (wN (p / 9 % 3)) (trB m (p / 9 / 3)) (trM m (p / 9 / 3)))
 else .iV (.call (hs.getD (p / 9 % (hs.length:Int)).toNat Str.empty))
def pcP(m:Nat)(hs:List Str)(p:Int):Int:=
 if p % 9<4 then p / 9 / 5
 else if p % 9<6/\0<m then trP m (p / 9 / (m:Int))
 else if p % 9<8 then trP m (p / 9 / 3)
 else p / 9 / (hs.length:Int)
def scR(m:Nat)(hs:List Str)(p:Int):Nat->Int
 | 0=>p
 | j+1=>pcP m hs (scR m hs p j)
def scI(m:Nat)(hs:List Str)(p:Int):List It:=(List.range (p % 4).toNat).map fun j=>pcI m hs (scR m hs (p / 4) j)
def scP(m:Nat)(hs:List Str)(p:Int):Int:=scR m hs (p / 4) (p % 4).toNat
abbrev aa2:=Str×Int×Int×Int×Int
def mkL:List Str:=["<","<=","=","!="]
def akO(m:Nat)(p:Int):aa2:=(mkL.getD (p % 4).toNat Str.empty,trB m (p / 4),trM m (p / 4),trB m (trP m (p / 4)),trM m (trP m (p / 4)))
def akP(m:Nat)(p:Int):Int:=trP m (trP m (p / 4))
def akR(m:Nat)(p:Int):Nat->Int
 | 0=>p
 | j+1=>akP m (akR m p j)
def akL(m:Nat)(p:Int)(n:Nat):List aa2:=(List.range n).map fun j=>akO m (akR m p j)
abbrev Gn:=List aa2×List It×Int
def rwN(p:Int):Nat:=(1+p % 2).toNat
def rwQ(m:Nat)(p:Int):Int:=akR m (p / 2) (rwN p)
def rwO(m:Nat)(hs:List Str)(f:Nat)(p:Int):Gn:=(akL m (p / 2) (rwN p),scI m hs (rwQ m p),scP m hs (rwQ m p) % (f:Int))
def rwP(m:Nat)(hs:List Str)(f:Nat)(p:Int):Int:=scP m hs (rwQ m p) / (f:Int)
def rwR(m:Nat)(hs:List Str)(f:Nat)(p:Int):Nat->Int
 | 0=>p
 | j+1=>rwP m hs f (rwR m hs f p j)
def rwL(m:Nat)(hs:List Str)(f:Nat)(p:Int)(n:Nat):List Gn:=(List.range n).map fun j=>rwO m hs f (rwR m hs f p j)
def rwE(m:Nat)(hs:List Str)(f:Nat)(p:Int):Gn:=([],scI m hs p,scP m hs p % (f:Int))
def tbR(m:Nat)(hs:List Str)(f:Nat)(c:Int):List Gn:=
 rwL m hs f (c % 10 ^ (64:Int).toNat / 3) (c % 10 ^ (64:Int).toNat % 3).toNat++[rwE m hs f (rwR m hs f (c % 10 ^ (64:Int).toNat / 3) (c % 10 ^ (64:Int).toNat % 3).toNat)]
abbrev bS:=List Key
def kyR(hs:List Str)(a k:Nat):bS:=[.inl (a:Int),.inr (hs.getD k Str.empty)]
def dcR(s:List Int)(m:Nat)(hs:List Str)(f a k:Nat):List Gn:=tbR m hs f (bF s (4+2*(a:Int)+(k:Int)))
def dcI(s:List Int)(m:Nat)(hs:List Str)(f a n:Nat):List (bS×List Gn):=(List.range n).map fun k=>(kyR hs a k,dcR s m hs f a k)
def dcO(s:List Int)(m:Nat)(hs:List Str)(f n:Nat):List (bS×List Gn):=(List.range n).flatMap fun a=>dcI s m hs f a hs.length
variable{s:List Int}{m f a:Nat}{hs:List Str}
theorem VD:(dcI s m hs f a n).length=n:=by unfold dcI;rw[al8,amv]
theorem Qa:dcO s m hs f (n+1)=dcO s m hs f n++dcI s m hs f n hs.length:=by
 unfold dcO
 rw[ane,aom]
 simp
theorem VF{s:List Int}{m:Nat}{hs:List Str}{f:Nat}:∀n,(dcO s m hs f n).length=n*hs.length
 | 0=>by simp[dcO]
 | n+1=>by rw[Qa,amn,VD,VF n,Nat.succ_mul]
def isLt(c:Nat):Bool:=decide (97<=c)&&decide (c<=122)
def aeP(c:Nat):Bool:=decide (48<=c)&&decide (c<=57)
theorem agf(c:Nat):Yq ⟨#[c]⟩ "abcdefghijklmnopqrstuvwxyz0123456789" = (isLt c || aeP c):=by
 unfold Yq
 rw[PySem.StrLaws.found_one]
 have e:("abcdefghijklmnopqrstuvwxyz0123456789":Str).cps.toList=(List.range 26).map (· + 97)++(List.range 10).map (· + 48):=by decide +kernel
 rw[e]
 apply aoP.mpr
 simp only[isLt,aeP,decide_eq_true_eq,amI,Bool.or_eq_true,amr,amj,amH]
 constructor
 . rintro(⟨a,h,rfl⟩|⟨a,h,rfl⟩)<;>omega
 . intro h
   rcases h with h|h
   . exact .inl ⟨c-97,by omega,by omega⟩
   . exact .inr ⟨c-48,by omega,by omega⟩
inductive LkA
 | ahY (x:Str) (m:Int)
 | num (mk:Str) (a1 c1 a2 c2:Int)
def ahZ:LkA->Prop
 | .ahY x _=>x∈(["open","shut"]:List Str)
 | .num mk _ _ _ _=>¬ mk∈(["open","shut"]:List Str)
def alc:L3.D->L3.D
 | .tup [_,_,_,d,_,_]=>d
 | d=>d
inductive DdG
 | put (i a c:Int)
 | say (w x:Str) (a c:Int)
 | call (x:Str)
structure LgW where
 src:Int
 sign:Str
 al:List LkA
 dl:List DdG
 tgt:Int
 mode:Str
def LgW.ok(w:LgW):Prop:=w.sign.length<=1000/\∀q∈w.al,ahZ q
variable{bs hs bg pr:List L3.D}{R:L3.D}{TR:T}
def wo(bs hs bg pr:List L3.D)(R:L3.D):List (Str×L3.D):=[("boxes",.lst bs),("signs",.lst hs),("begin",.tup bg),("flats",.lst pr),("rows",R)]
def qB(bs hs bg pr:List L3.D)(t:T):List (Str×T):=[("boxes",.lst (bs.map T.sh)),("signs",.lst (hs.map T.sh)),("begin",.sh (.tup bg)),("flats",.lst (pr.map T.sh)),("rows",t)]
theorem oV:List.lookup ("boxes":Str) (wo bs hs bg pr R)=some (.lst bs):=by
 unfold wo
 rw[pP]
theorem eO:List.lookup ("signs":Str) (wo bs hs bg pr R)=some (.lst hs):=by
 unfold wo
 rw[fW (by decide +kernel),pP]
theorem oW:List.lookup ("begin":Str) (wo bs hs bg pr R)=some (.tup bg):=by
 unfold wo
 rw[fW (by decide +kernel),fW (by decide +kernel),pP]
theorem gq:List.lookup ("flats":Str) (wo bs hs bg pr R)=some (.lst pr):=by
 unfold wo
 rw[fW (by decide +kernel),fW (by decide +kernel),fW (by decide +kernel),pP]
theorem gX:List.lookup ("rows":Str) (wo bs hs bg pr R)=some R:=by
 unfold wo
 rw[fW (by decide +kernel),fW (by decide +kernel),fW (by decide +kernel),fW (by decide +kernel),pP]
theorem uS:List.lookup ("rows":Str) (qB bs hs bg pr TR)=some TR:=by
 unfold qB
 rw[fW (by decide +kernel),fW (by decide +kernel),fW (by decide +kernel),fW (by decide +kernel),pP]
theorem Qc{t2:T}:oi "rows" t2 (qB bs hs bg pr TR)=qB bs hs bg pr t2:=by
 unfold qB
 rw[dB (by decide +kernel),dB (by decide +kernel),dB (by decide +kernel),dB (by decide +kernel),K5]
theorem Lz{y:Addr}{l:List (bS×T)}{t2:T}:T.yy [.fld "rows"] t2 (.pin y (.ins "Table" (qB bs hs bg pr (.dct l))))=.pin y (.ins "Table" (qB bs hs bg pr t2)):=by
 have hk:(T.core (.pin y (.ins "Table" (qB bs hs bg pr (.dct l))))).Vc (.fld "rows")=some (.dct l):=uS (bs:=bs) (hs:=hs) (bg:=bg) (pr:=pr)
 rw[T.yy,hk]
 show T.pin y (.ins "Table" (oi "rows" t2 (qB bs hs bg pr (.dct l))))=_
 rw[Qc]
def bZ(kvs:List (bS×List L3.D)):List (bS×T):=kvs.map fun q=>(q.1,T.lst (q.2.map T.sh))
def dX(kvs:List (bS×List L3.D)):List (bS×L3.D):=kvs.map fun q=>(q.1,L3.D.lst q.2)
def qC(bs hs bg pr:List L3.D)(kvs:List (bS×List L3.D)):List (Str×T):=qB bs hs bg pr (.dct (bZ kvs))
def f6(bs hs bg pr:List L3.D)(kvs:List (bS×List L3.D)):L3.D:=.ins "Table" (wo bs hs bg pr (.dct (dX kvs)))
theorem pQ(kvs:List (bS×List L3.D)):T.qT (bZ kvs)=dX kvs:=by
 induction kvs with
 | nil=>show T.qT []=[];rw[T.qT]
 | cons q r ih=>
   show T.qT ((q.1,T.lst (q.2.map T.sh))::bZ r)=(q.1,L3.D.lst q.2)::dX r
   rw[T.qT,gD,ih]
theorem Ex(bs hs bg pr:List L3.D)(kvs:List (bS×List L3.D)):T.bP (.ins "Table" (qC bs hs bg pr kvs))=f6 bs hs bg pr kvs:=by
 unfold qC qB f6 wo
 rw[T.bP,T.ye,T.ye,T.ye,T.ye,T.ye,T.ye,gD,gD,gD,T.bP,T.bP,pQ]
theorem vS{kvs:List (bS×List L3.D)}(h:∀q∈kvs,D.aY q.2=true):T.ia (bZ kvs)=true:=by
 induction kvs with
 | nil=>show T.ia []=true;rw[T.ia]
 | cons q r ih=>
   show T.ia ((q.1,T.lst (q.2.map T.sh))::bZ r)=true
   rw[T.ia,aS (h q ama),ih fun p hp=>h p (ame _ hp)]
   rfl
theorem mP{kvs:List (bS×List L3.D)}(h1:D.aY bs=true)(h2:D.aY hs=true)(h3:D.aY bg=true)(h4:D.aY pr=true)(h5:∀q∈kvs,D.aY q.2=true):T.iQ (qC bs hs bg pr kvs)=true:=by
 unfold qC qB
 rw[T.iQ,T.iQ,T.iQ,T.iQ,T.iQ,T.iQ,aS h1,aS h2,aS h4,T.clean,T.clean,D.gA,h3,vS h5]
 rfl
variable{α:Type}{j:Nat}{k:bS}
theorem B3{l:List (bS×α)}(nd:(l.map (·.1)).Nodup){x:α}(h:l[j]? = some (k,x)):iU l k=some x:=by
 induction l generalizing j with
 | nil=>simp at h
 | cons p l ih=>
   rw[amB,ana]at nd
   cases j with
   | zero=>
     simp at h
     subst h
     exact kr rfl
   | succ j=>
     have h:l[j]? = some (k,x):=h
     rw[ku (p:=p) fun e=>nd.1 (by rw[e];exact amj.mpr ⟨(k,x),amt h,rfl⟩)]
     exact ih nd.2 h
theorem Gp(kvs:List (bS×List L3.D)):(dX kvs).map (·.1)=kvs.map (·.1):=by
 unfold dX
 rw[amy]
 rfl
theorem mQ(kvs:List (bS×List L3.D)):(bZ kvs).map (·.1)=kvs.map (·.1):=by
 unfold bZ
 rw[amy]
 rfl
abbrev Nd:=Nat×Nat×L3.D
theorem yG:∀{n:Nat} {l:List Nat},l.Nodup->(∀p∈l,p<n)->l.length<=n
 | 0,[],_,_=>aml _
 | 0,x::l,_,h=>by have:=h x ama;omega
 | n+1,l,nd,h=>by
   have h1:(l.filter (· ≠ n)).length<=n:=yG (nd.filter _) fun p hp=>by
     obtain⟨a,b⟩:=anU.mp hp
     have:=h p a
     have b:p≠n:=amO b
     omega
   have h2:l.length=(l.filter (· ≠ n)).length+l.count n:=by
     clear h h1 nd
     induction l with
     | nil=>rfl
     | cons x l ih=>
       rw[am8,ih,List.count_cons]
       by_cases e:x=n
       . subst e
         rw[ao3 (by simp)]
         simp
         omega
       . rw[List.filter_cons_of_pos (by simpa using e)]
         simp[e]
         omega
   have h3:l.count n<=1:=List.nodup_iff_count.mp nd n
   omega
def ky(W:List Nd):List Nat:=W.map (·.1)
def e9(W:List Nd)(j:Nat):Nat:=(ky W).getD j 0
def fz(i:Nat)(W:List Nd)(e:L3.D×Nat):List Nd:=if e.2∈ky W then W else W++[(e.2,i,e.1)]
def Ey(st:Nat->List (L3.D×Nat))(W:List Nd)(i:Nat):List Nd:=(st (e9 W i)).foldl (fz i) W
def aH(st:Nat->List (L3.D×Nat)):Nat->List Nd
 | 0=>[(0,0,.non)]
 | i+1=>if i<(aH st i).length then Ey st (aH st i) i else aH st i
structure BfN(st:Nat->List (L3.D×Nat))(i:Nat)(W:List Nd):Prop where
 hd:∃r,W=(0,0,.non)::r
 nd:(ky W).Nodup
 par:∀(j p k:Nat) (s:L3.D),W[j]? = some (p,k,s)->0<j->k<j/\k<i/\(s,p)∈st (e9 W k)
 mono:∀(j1 j2:Nat) (x y:Nd),j1<=j2->W[j1]? = some x->W[j2]? = some y->x.2.1<=y.2.1
 cov:∀k,k<i->k<W.length->∀e∈st (e9 W k),∃(j:Nat) (x:Nd),W[j]? = some x/\x.1=e.2/\(j=0\/x.2.1<=k)
section
variable{st:Nat->List (L3.D×Nat)}
theorem kU{W V:List Nd}(h:j<W.length):e9 (W++V) j=e9 W j:=by
 unfold e9 ky
 rw[ams,amb,amb,amF (by rw[al8];exact h)]
theorem Qd{W:List Nd}{x:Nd}(h:W[j]? = some x):e9 W j=x.1:=by
 unfold e9 ky
 rw[amb,amg,h]
 rfl
theorem Ez(i:Nat)(W:List Nd)(e:L3.D×Nat):∃V,fz i W e=W++V:=by
 unfold fz
 split
 . exact⟨[],(amQ _).symm⟩
 . exact⟨_,rfl⟩
theorem oX(i:Nat):∀(l:List (L3.D×Nat)) (W:List Nd),∃V,l.foldl (fz i) W=W++V
 | [],W=>⟨[],(amQ _).symm⟩
 | e::l,W=>by
   obtain⟨V,h⟩:=Ez i W e
   obtain⟨V2,h2⟩:=oX i l (fz i W e)
   exact⟨V++V2,by rw[List.foldl_cons,h2,h,amm]⟩
theorem aa4{i:Nat}{W:List Nd}(hi:i<W.length){l:List (L3.D×Nat)}{e:L3.D×Nat}(he:e∈st (e9 W i))(hd:∃r,W=(0,0,.non)::r)(nd:(ky W).Nodup)
   (par:∀(j p k:Nat) (s:L3.D),W[j]? = some (p,k,s)->0<j->k<j/\k<i+1/\(s,p)∈st (e9 W k)) (mono:∀(j1 j2:Nat) (x y:Nd),j1<=j2->W[j1]? = some x->W[j2]? = some y->x.2.1<=y.2.1) :
   (∃r,fz i W e=(0,0,.non)::r)/\(ky (fz i W e)).Nodup/\(∀(j p k:Nat) (s:L3.D),(fz i W e)[j]? = some (p,k,s)->0<j->k<j/\k<i+1/\(s,p)∈st (e9 (fz i W e) k))/\(∀(j1 j2:Nat) (x y:Nd),j1<=j2->(fz i W e)[j1]? = some x->(fz i W e)[j2]? = some y->x.2.1<=y.2.1)/\∃(j:Nat) (x:Nd),(fz i W e)[j]? = some x/\x.1=e.2/\(j=0\/x.2.1<=i):=by
 have hle:∀(j:Nat) (x:Nd),W[j]? = some x->x.2.1<=i:=fun j x hx=>by
   rcases aot j with z|z
   . subst z
     obtain⟨r,er⟩:=hd
     subst er
     cases hx
     exact amR _
   . have:=(par j x.1 x.2.1 x.2.2 hx z).2.1
     omega
 unfold fz
 split
 . rename_i hm
   refine⟨hd,nd,par,mono,?_⟩
   obtain⟨x,hx,ex⟩:=amj.mp hm
   obtain⟨j,hj⟩:=anj.mp hx
   exact⟨j,x,hj,ex,.inr (hle j x hj)⟩
 . rename_i hm
   have last:∀(j:Nat) (x:Nd),(W++[(e.2,i,e.1)])[j]? = some x->W[j]? = some x\/(j=W.length/\x=(e.2,i,e.1)):=fun j x hx=>by
     by_cases hj:j<W.length
     . rw[amF hj]at hx
       exact .inl hx
     . rw[an0 (by omega)]at hx
       cases q:j-W.length with
       | zero=>
         rw[q]at hx
         cases hx
         exact .inr ⟨by omega,rfl⟩
       | succ n=>rw[q]at hx;simp at hx
   refine⟨?_,?_,fun j p k s hx hj=>?_,fun j1 j2 x y h12 hx hy=>?_,W.length,(e.2,i,e.1),by rw[an0 (aml _),Nat.sub_self];rfl,rfl,.inr (aml _)⟩
   . obtain⟨r,e'⟩:=hd
     exact⟨r++[(e.2,i,e.1)],by rw[e',am5]⟩
   . show((W++[(e.2,i,e.1)]).map (·.1)).Nodup
     rw[ams,amK]
     refine⟨nd,aob _ _,fun a ha b hb z=>?_⟩
     rw[amM.mp hb]at z
     subst z
     exact hm ha
   . rcases last j _ hx with h|⟨h,q⟩
     . obtain⟨a1,a2,a3⟩:=par j p k s h hj
       have:k<W.length:=by
         have:=(amf.mp h).1
         omega
       rw[kU this]
       exact⟨a1,a2,a3⟩
     . cases q
       rw[kU hi]
       exact⟨by omega,Nat.lt_succ_self _,he⟩
   . rcases last j2 y hy with h2|⟨h2,q2⟩
     . have:=(amf.mp h2).1
       rcases last j1 x hx with h1|⟨h1,_⟩
       . exact mono j1 j2 x y h12 h1 h2
       . omega
     . subst q2
       rcases last j1 x hx with h1|⟨_,q1⟩
       . exact hle j1 x h1
       . subst q1;exact aml _
theorem B4{i:Nat}:∀{l:List (L3.D×Nat)} {W:List Nd},i<W.length->(∀e∈l,e∈st (e9 W i))->(∃r,W=(0,0,.non)::r)->(ky W).Nodup->(∀(j p k:Nat) (s:L3.D),W[j]? = some (p,k,s)->0<j->k<j/\k<i+1/\(s,p)∈st (e9 W k))->(∀(j1 j2:Nat) (x y:Nd),j1<=j2->W[j1]? = some x->W[j2]? = some y->x.2.1<=y.2.1) →
   (∃r,l.foldl (fz i) W=(0,0,.non)::r)/\(ky (l.foldl (fz i) W)).Nodup/\(∀(j p k:Nat) (s:L3.D),(l.foldl (fz i) W)[j]? = some (p,k,s)->0<j->k<j/\k<i+1/\(s,p)∈st (e9 (l.foldl (fz i) W) k))/\(∀(j1 j2:Nat) (x y:Nd),j1<=j2->(l.foldl (fz i) W)[j1]? = some x->(l.foldl (fz i) W)[j2]? = some y->x.2.1<=y.2.1)/\∀e∈l,∃(j:Nat) (x:Nd),(l.foldl (fz i) W)[j]? = some x/\x.1=e.2/\(j=0\/x.2.1<=i)
 | [],W,_,_,hd,nd,par,mono=>⟨hd,nd,par,mono,fun e he=>by cases he⟩
 | e::l,W,hi,hl,hd,nd,par,mono=>by
   obtain⟨h1,h2,h3,h4,j,x,h5,h6,h7⟩:=aa4 (l:=l) hi (hl e ama) hd nd par mono
   obtain⟨V,hV⟩:=Ez i W e
   have hi2:i<(fz i W e).length:=by rw[hV,amn];omega
   have ek:e9 (fz i W e) i=e9 W i:=by rw[hV,kU hi]
   obtain⟨g1,g2,g3,g4,g5⟩:=B4 (l:=l) hi2 (fun e' VG=>by rw[ek];exact hl e' (ame _ VG)) h1 h2 h3 h4
   refine⟨g1,g2,g3,g4,fun e' VG=>?_⟩
   rcases ami.mp VG with rfl|VG
   . obtain⟨V2,hV2⟩:=oX i l (fz i W e')
     refine⟨j,x,?_,h6,h7⟩
     rw[List.foldl_cons,hV2,amF (amf.mp h5).1]
     exact h5
   . exact g5 e' VG
theorem i9:∀i,BfN st i (aH st i)
 | 0=>⟨⟨[],rfl⟩,aob _ _,fun j p k s h hj=>by
     obtain⟨h1,_⟩:=amf.mp h
     have:j<1:=h1
     omega,fun j1 j2 x y _ h1 h2=>by
     have a:=(amf.mp h1).1
     have b:=(amf.mp h2).1
     have a:j1<1:=a
     have b:j2<1:=b
     have e1:j1=0:=by omega
     have e2:j2=0:=by omega
     subst e1 e2
     cases h1
     cases h2
     exact aml _,fun k hk=>by omega⟩
 | i+1=>by
   have b:=i9 i
   rw[aH]
   split
   . rename_i hi
     obtain⟨V,hV⟩:=oX i (st (e9 (aH st i) i)) (aH st i)
     obtain⟨h1,h2,h3,h4,h5⟩:=B4 (st:=st) (l:=st (e9 (aH st i) i)) hi (fun e he=>he) b.hd b.nd (fun j p k s h hj=>by
       obtain⟨a1,a2,a3⟩:=b.par j p k s h hj
       exact⟨a1,by omega,a3⟩) b.mono
     refine⟨h1,h2,h3,h4,fun k hk AU e he=>?_⟩
     have VH:k<(aH st i).length:=by omega
     have he2:e∈st (e9 (aH st i) k):=by
       have:e9 (Ey st (aH st i) i) k=e9 (aH st i) k:=by
         unfold Ey
         rw[hV,kU VH]
       rwa [this]at he
     by_cases hki:k=i
     . subst hki
       exact h5 e he2
     . obtain⟨j,x,q1,q2,q3⟩:=b.cov k (by omega) VH e he2
       refine⟨j,x,?_,q2,q3⟩
       unfold Ey
       rw[hV,amF (amf.mp q1).1]
       exact q1
   . rename_i hi
     refine⟨b.hd,b.nd,fun j p k s h hj=>?_,b.mono,fun k hk AU e he=>b.cov k (by omega) AU e he⟩
     obtain⟨a1,a2,a3⟩:=b.par j p k s h hj
     exact⟨a1,by omega,a3⟩
theorem EA(i:Nat):∀d,∃V,aH st (i+d)=aH st i++V
 | 0=>⟨[],(amQ _).symm⟩
 | d+1=>by
   obtain⟨V,h⟩:=EA i d
   rw[← Nat.add_assoc,aH]
   split
   . obtain⟨V2,h2⟩:=oX (i+d) (st (e9 (aH st (i+d)) (i+d))) (aH st (i+d))
     exact⟨V++V2,by unfold Ey;rw[h2,h,amm]⟩
   . exact⟨V,h⟩
def dpN(W:List Nd):Nat->Nat->Nat
 | 0,_=>0
 | f+1,j=>if j=0 then 0 else dpN W f (((W[j]?).map (·.2.1)).getD 0)+1
def kC(W:List Nd):Nat->Nat->List L3.D
 | 0,_=>[]
 | f+1,j=>if j=0 then [] else kC W f (((W[j]?).map (·.2.1)).getD 0)++[((W[j]?).map (·.2.2)).getD .non]
theorem VJ(W:List Nd):∀f j,(kC W f j).length=dpN W f j
 | 0,_=>rfl
 | f+1,j=>by
   rw[kC,dpN]
   split
   . rfl
   . rw[amn,VJ W f];rfl
theorem EB{i:Nat}{W:List Nd}(b:BfN st i W):∀f j,j<W.length->j<=f->∀g,j<=g->kC W f j=kC W g j
 | f,0,_,_,g,_=>by cases f<;>cases g<;>rfl
 | 0,j+1,_,hf,_,_=>by omega
 | f+1,j+1,hj,hf,g,hg=>by
   cases g with
   | zero=>omega
   | succ g=>
     rw[kC,kC,amq (by omega),amq (by omega),al9 hj]
     have:=(b.par (j+1) W[j+1].1 W[j+1].2.1 W[j+1].2.2 (al9 hj) (by omega)).1
     show kC W f W[j+1].2.1++_=kC W g W[j+1].2.1++_
     rw[EB b f W[j+1].2.1 (by omega) (by omega) g (by omega)]
def jn(W:List Nd)(j:Nat):List L3.D:=kC W j j
theorem AX{i:Nat}{W:List Nd}(b:BfN st i W){x:Nd}(h:W[j]? = some x)(hj:0<j):jn W j=jn W x.2.1++[x.2.2]/\x.2.1<j:=by
 obtain⟨a1,_,_⟩:=b.par j x.1 x.2.1 x.2.2 h hj
 have hl:=(amf.mp h).1
 refine⟨?_,a1⟩
 unfold jn
 obtain⟨m,rfl⟩:∃m,j=m+1:=⟨j-1,by omega⟩
 rw[kC,amq (by omega),h]
 show kC W m x.2.1++[x.2.2]=_
 rw[EB b m x.2.1 (by omega) (by omega) x.2.1 (aml _)]
theorem LC(W:List Nd):jn W 0=[]:=rfl
inductive WalkN(st:Nat->List (L3.D×Nat)):Nat->List L3.D->Nat->Prop
 | nil (p:Nat):WalkN st p [] p
 | snoc {p q r:Nat} {l:List L3.D} {s:L3.D}:WalkN st p l q->(s,r)∈st q->WalkN st p (l++[s]) r
theorem uT{i:Nat}{W:List Nd}(b:BfN st i W):∀n j,j<=n->j<W.length->WalkN st 0 (jn W j) (e9 W j)
 | n,0,_,_=>by
   obtain⟨r,e⟩:=b.hd
   rw[e]
   exact .nil 0
 | 0,j+1,h,_=>by omega
 | n+1,j+1,h,hl=>by
   obtain⟨p,q⟩:=AX b (al9 hl) (by omega)
   obtain⟨_,_,a3⟩:=b.par (j+1) _ _ _ (al9 hl) (by omega)
   rw[p,Qd (al9 hl)]
   exact .snoc (uT b n _ (by omega) (by omega)) a3
end
def paN(W:List Nd)(j:Nat):Nat:=((W[j]?).map (·.2.1)).getD 0
theorem xg(W:List Nd)(x:Nd):ky (W++[x])=ky W++[x.1]:=by unfold ky;rw[ams];rfl
theorem mR(W:List Nd):(ky W).length=W.length:=by unfold ky;rw[al8]
theorem Ji{st:Nat->List (L3.D×Nat)}{i:Nat}{W V:List Nd}(b:BfN st i W):∀f j,j<W.length->kC (W++V) f j=kC W f j
 | 0,_,_=>rfl
 | f+1,j,hj=>by
   rw[kC,kC]
   split
   . rfl
   . rename_i hz
     have:=(b.par j W[j].1 W[j].2.1 W[j].2.2 (al9 hj) (by omega)).1
     rw[amF hj,al9 hj]
     show kC (W++V) f W[j].2.1++_=kC W f W[j].2.1++_
     rw[Ji b f _ (by omega)]
variable{st:Nat->List (L3.D×Nat)}{i:Nat}
theorem pR(h:i<=n)(hj:j<(aH st i).length):jn (aH st n) j=jn (aH st i) j/\e9 (aH st n) j=e9 (aH st i) j/\(aH st i).length<=(aH st n).length:=by
 obtain⟨V,e⟩:=EA (st:=st) i (n-i)
 rw[show i+(n-i)=n by omega]at e
 rw[e]
 exact⟨Ji (i9 i) j j hj,kU hj,by rw[amn];omega⟩
theorem sY(h0:0<n)(h:∀p,p<n->∀e∈st p,e.2<n)(i:Nat):(∀p∈ky (aH st i),p<n)/\(aH st i).length<=n:=by
 have all:∀i,∀p∈ky (aH st i),p<n:=by
   intro i
   induction i with
   | zero=>
     intro p hp
     rw[amM.mp (show p∈[0] from hp)]
     exact h0
   | succ i ih=>
     rw[aH]
     split
     . rename_i hi
       have gen:∀(l:List (L3.D×Nat)) (W:List Nd),(∀e∈l,e.2<n)->(∀p∈ky W,p<n)->∀p∈ky (l.foldl (fz i) W),p<n:=by
         intro l
         induction l with
         | nil=>exact fun W _ h=>h
         | cons e l ih2=>
           intro W hl hW
           refine ih2 _ (fun e' VG=>hl e' (ame _ VG)) fun p hp=>?_
           unfold fz at hp
           split at hp
           . exact hW p hp
           . rw[xg]at hp
             rcases amr.mp hp with z|z
             . exact hW p z
             . rw[amM.mp z]
               exact hl e ama
       refine gen _ _ (h _ (ih _ ?_)) ih
       unfold e9
       have hk:i<(ky (aH st i)).length:=by rw[mR];exact hi
       rw[amb,al9 hk]
       exact ano hk
     . exact ih
 refine⟨all i,?_⟩
 rw[← mR]
 exact yG (i9 i).nd (all i)
inductive sZ(st:Nat->List (L3.D×Nat)):Nat->List L3.D->Nat->Prop
 | nil (p:Nat):sZ st p [] p
 | cons {p q r:Nat} {l:List L3.D} {s:L3.D}:(s,q)∈st p->sZ st q l r->sZ st p (s::l) r
variable{p q:Nat}{l:List L3.D}
theorem sZ.snoc{r:Nat}{s:L3.D}(h:sZ st p l q)(hs:(s,r)∈st q):sZ st p (l++[s]) r:=by
 induction h with
 | nil=>exact .cons hs (.nil _)
 | cons a _ ih=>exact .cons a (ih hs)
theorem WalkN.fwd(h:WalkN st p l q):sZ st p l q:=by
 induction h with
 | nil=>exact .nil _
 | snoc _ hs ih=>exact ih.snoc hs
def kO(pl:Nat->List L3.D)(p:Nat):L3.D:=.tup (pl p)
def yH(pl:Nat->List L3.D)(W:List Nd):List L3.D:=(ky W).map (kO pl)
def VL(pl:Nat->List L3.D)(W:List Nd)(j:Nat):L3.D:=if j=0 then .non else .tup [kO pl (e9 W (paN W j)),((W[j]?).map (·.2.2)).getD .non]
def Qe(pl:Nat->List L3.D)(W:List Nd):List L3.D:=(List.range W.length).map (VL pl W)
def sPP(pl:Nat->List L3.D)(e:L3.D×Nat):L3.D:=.tup [e.1,kO pl e.2]
structure EC(pl:Nat->List L3.D)(n:Nat):Prop where
 inj:∀p q,p<n->q<n->pl p=pl q->p=q
 nst:∀p,p<n->iN 8 (kO pl p)
 gA:∀p,D.aY (pl p)=true
 hw:∀p w w',(kO pl p).sG w=(kO pl p).sG w'
variable{pl:Nat->List L3.D}{W:List Nd}
theorem Jj(h:EC pl n)(hW:∀p∈ky W,p<n)(hp:p<n):kO pl p∈yH pl W↔p∈ky W:=by
 constructor
 . intro hm
   obtain⟨q,hq,e⟩:=amj.mp hm
   unfold kO at e
   injection e with e
   rw[← h.inj q p (hW q hq) hp e]
   exact hq
 . exact fun hm=>amj.mpr ⟨p,hm,rfl⟩
theorem Qf(h:EC pl n)(hW:∀p∈ky W,p<n)(nd:(ky W).Nodup):(yH pl W).Nodup:=by
 unfold yH
 generalize ky W=l at hW nd
 induction l with
 | nil=>exact ang
 | cons p l ih=>
   rw[ana]at nd
   rw[amB,ana]
   refine⟨fun hm=>?_,ih (fun q hq=>hW q (ame _ hq)) nd.2⟩
   obtain⟨q,hq,e⟩:=amj.mp hm
   unfold kO at e
   injection e with e
   rw[h.inj q p (hW q (ame _ hq)) (hW p ama) e]at hq
   exact nd.1 hq
theorem VM:(yH pl W).length=W.length:=by unfold yH ky;rw[al8,al8]
theorem Qg(h:EC pl n)(hW:∀p∈ky W,p<n)(nd:(ky W).Nodup)(hl:W.length<=1000):Gm (yH pl W) where
 n:=fun d hd=>by
   obtain⟨p,hp,rfl⟩:=amj.mp hd
   exact h.nst p (hW p hp)
 d:=Qf h hW nd
 l:=by rw[VM];omega
theorem B5(h:EC pl n)(hW:∀p∈ky W,p<n)(nd:(ky W).Nodup)(hj:j<W.length):kO pl (e9 W j)∈yH pl W/\(Qe pl W)[(yH pl W).idxOf (kO pl (e9 W j))]? = some (VL pl W j):=by
 have hk:j<(ky W).length:=by rw[mR];exact hj
 have zX:(yH pl W)[j]? = some (kO pl (e9 W j)):=by
   unfold yH e9
   rw[amg,amb,al9 hk]
   rfl
 have hm:=amt zX
 refine⟨hm,?_⟩
 have iS:=amT.mpr hm
 have e:(yH pl W).idxOf (kO pl (e9 W j))=j:=by
   refine(ao6 iS (Qf h hW nd)).mp ?_
   rw[al9 iS,anO iS,zX]
 rw[e]
 unfold Qe
 rw[amg,amZ hj]
 rfl
theorem Qh(hd:∃r,W=(0,0,.non)::r)(par:∀(j p k:Nat) (s:L3.D),W[j]? = some (p,k,s)->0<j->k<j/\k<i+1/\(s,p)∈st (e9 W k)){k:Nat}{s:L3.D}(hk:k<W.length):Qe pl (W++[(p,k,s)])=Qe pl W++[.tup [kO pl (e9 W k),s]]:=by
 have h0:0<W.length:=by
   obtain⟨r,e⟩:=hd
   rw[e]
   exact Nat.succ_pos _
 unfold Qe
 rw[amn,aoz,ane,ams,aou]
 congr 1
 . refine amL fun j hj=>?_
   have hj:=amH.mp hj
   have e1:(W++[(p,k,s)])[j]? = W[j]?:=amF hj
   unfold VL paN
   rw[e1]
   split
   . rfl
   . rename_i hz
     have:=(par j W[j].1 W[j].2.1 W[j].2.2 (al9 hj) (by omega)).1
     rw[al9 hj]
     show L3.D.tup [kO pl (e9 (W++[(p,k,s)]) W[j].2.1),_]=_
     rw[kU (by omega)]
     rfl
 . have e1:(W++[(p,k,s)])[W.length]? = some (p,k,s):=by rw[an0 (aml _),Nat.sub_self];rfl
   unfold VL paN
   rw[amq (by omega),e1]
   show [L3.D.tup [kO pl (e9 (W++[(p,k,s)]) k),s]]=_
   rw[kU hk]
theorem Qi(hp:EC pl n)(h:∀x∈W,x.2.2.gA=true)(j:Nat):(VL pl W j).gA=true:=by
 unfold VL
 split
 . rfl
 . show(D.aY (pl _)&&(_&&true))=true
   rw[hp.gA]
   cases e:W[j]? with
   | none=>rfl
   | some x=>
     show(true&&(x.2.2.gA&&true))=true
     rw[h x (amt e)]
     rfl
def yI(st:Nat->List (L3.D×Nat))(en:Nat->Bool)(n:Nat):Option Nat:=(List.range (aH st n).length).find? fun j=>en (e9 (aH st n) j)
def B6(pl:Nat->List L3.D)(st:Nat->List (L3.D×Nat))(en:Nat->Bool)(n:Nat):T:=match yI st en n with
 | none=>.sh .non
 | some j=>.tup [.lst ((jn (aH st n) j).map T.sh),.sh (kO pl (e9 (aH st n) j))]
theorem AY{st:Nat->List (L3.D×Nat)}{i:Nat}(h:(aH st i).length<=i):∀d,aH st (i+d)=aH st i
 | 0=>rfl
 | d+1=>by
   rw[← Nat.add_assoc,aH,AY h d,amq (by omega)]
theorem yJ(h0:0<n)(h:∀p,p<n->∀e∈st p,e.2<n/\e.1.gA=true)(i:Nat):∀x∈aH st i,x.2.2.gA=true:=fun x hx=>by
 obtain⟨j,hj⟩:=anj.mp hx
 have b:=i9 (st:=st) i
 rcases aot j with z|z
 . subst z
   obtain⟨r,e⟩:=b.hd
   rw[e]at hj
   cases hj
   rfl
 . obtain⟨a1,_,a3⟩:=b.par j x.1 x.2.1 x.2.2 hj z
   have hl:=(amf.mp hj).1
   have hk:x.2.1<(ky (aH st i)).length:=by rw[mR];omega
   have:e9 (aH st i) x.2.1<n:=by
     refine(sY h0 (fun p hp e he=>(h p hp e he).1) i).1 _ ?_
     unfold e9
     rw[amb,al9 hk]
     exact ano hk
   exact(h _ this _ a3).2
theorem Qj{en:Nat->Bool}(hi:i<=n)(hl:i<(aH st i).length)(sy:∀j,j<i->en (e9 (aH st i) j)=false)(he:en (e9 (aH st i) i)=true):B6 pl st en n=.tup [.lst ((jn (aH st i) i).map T.sh),.sh (kO pl (e9 (aH st i) i))]:=by
 obtain⟨p1,p2,p3⟩:=pR (st:=st) hi hl
 have:yI st en n=some i:=by
   unfold yI
   refine List.find?_eq_some_iff_getElem.mpr ⟨by rw[p2];exact he,i,by rw[amv];omega,by rw[aov],fun j hj=>?_⟩
   rw[aov,(pR (st:=st) hi (j:=j) (by omega)).2.1,sy j hj]
   rfl
 unfold B6
 rw[this]
 show T.tup [.lst ((jn (aH st n) i).map T.sh),.sh (kO pl (e9 (aH st n) i))]=_
 rw[p1,p2]
theorem Qk{en:Nat->Bool}(hi:i<=n)(hl:(aH st i).length<=i)(sy:∀j,j<i->en (e9 (aH st i) j)=false):B6 pl st en n=.sh .non:=by
 have e:aH st n=aH st i:=by
   have:=AY hl (n-i)
   rwa [show i+(n-i)=n by omega]at this
 have:yI st en n=none:=by
   unfold yI
   rw[e]
   refine List.find?_eq_none.mpr fun j hj=>?_
   have:=amH.mp hj
   rw[sy j (by omega)]
   decide
 unfold B6
 rw[this]
theorem yK{V:List Nd}(b:BfN st i V)(h:∀x∈V,x.2.2.gA=true):∀j,j<V.length->D.aY (jn V j)=true:=fun j hj=>by
 have all:∀f j,D.aY (kC V f j)=true:=by
   intro f
   induction f with
   | zero=>intro j;rfl
   | succ f ih=>
     intro j
     rw[kC]
     split
     . rfl
     . refine iZ fun d hd=>?_
       rcases amr.mp hd with z|z
       . exact oK (ih _) d z
       . rw[amM.mp z]
         cases e:V[j]? with
         | none=>rfl
         | some x=>exact h x (amt e)
 exact all j j
theorem LD{f:α->L3.D}{l:List α}(h:∀x∈l,(f x).gA=true):D.aY (l.map f)=true:=iZ fun d hd=>by
 obtain⟨x,hx,rfl⟩:=amj.mp hd
 exact h x hx
theorem Jk{i n:Nat}:∀{l:List (L3.D×Nat)} {W:List Nd},(∀e∈l,e.2<n)->(∀p∈ky W,p<n)->∀p∈ky (l.foldl (fz i) W),p<n
 | [],W,_,h=>h
 | e::l,W,hl,hW=>Jk (l:=l) (W:=fz i W e) (fun e' VG=>hl e' (ame _ VG)) fun p hp=>by
   unfold fz at hp
   split at hp
   . exact hW p hp
   . rw[xg]at hp
     rcases amr.mp hp with z|z
     . exact hW p z
     . rw[amM.mp z]
       exact hl e ama
def mx1(c s:Int):Int:=(c % 2147483647+s)*48271 % 2147483647
def rA(c s:Int):Int:=mx1 c s*mx1 c s % 2147483629
theorem aeS(c s:Int):0<=mx1 c s/\mx1 c s<2147483647:=⟨amU _ (by decide),amW _ (by decide)⟩
def iy(c:Int):Int:=if c % 2=0 then c / 2 % 9-4 else if c % 4=1 then c / 4*48271 % (10 ^ 30-1) else -(c / 4*48271 % (10 ^ 30-1))
theorem aeT(c:Int):(gK c).length<=13:=by
 have hb:=Jh c
 have h0:("0":Str).length=1:=by decide +kernel
 unfold gK
 split
 . rw[str_len];omega
 . split
   . rw[str_len];omega
   . omega
def VN:List Str:=["<","<=","=","!="]
def tbG(c:Int)(m:Nat):Int:=c % ((m:Int)+1)-1
def tmG(c:Int)(m:Nat):Int:=iy (c / ((m:Int)+1))
def akG(c:Int)(m:Nat):L3.D:=.tup [.str (VN.getD (rA c 31 % 4).toNat Str.empty),.tup [.int (tbG (c / 3) m),.int (tmG (c / 3) m)],.tup [.int (tbG (c / 7+2) m),.int (tmG (c / 7+2) m)]]
def wu(c:Int)(m:Nat)(hh:List Str):sU:=if c % 5=1 then .call ((hh++[gK (c / 5)]).getD (c / 5 % ((hh.length:Int)+1)).toNat Str.empty) else if c % 5=2\/m=0 then .say (gK (c / 5)) (tbG (c / 5 / 7) m) (tmG (c / 5 / 7) m) else .put (c / 5 % m) (tbG (c / 5 / m) m) (tmG (c / 5 / m) m)
def wA(s:List Int):Str:=Txt.slice (gK (bF s 0 / 2)) none (some 10)
def YG(s:List Int):Int:=rA (bF s 0) 37
def rB(s:List Int):List Str:=[wA s++"1",wA s++"12",wA s++"2"]
def nn7(s:List Int):Nat:=[2,3,1,3,2,3,1,0].getD (YG s % 8).toNat 0
def Ql(s:List Int):Nat:=(YG s / 8 % 3).toNat
def jF(s:List Int):List Str:=((rB s).drop (Ql s)++(rB s).take (Ql s)).take (nn7 s)
theorem uU{l:List α}{k:Nat}{z:Int}(hz:z=(k:Int)):cutD l none (some z)=l.take k:=by
 subst hz
 unfold cutD
 have e1:HT.f7 l.length 0 none=0:=rfl
 have e2:HT.f7 l.length l.length (some (k:Int))=min k l.length:=by
   unfold HT.f7
   simp
   intro hk
   omega
 rw[e1,e2]
 simp[List.take_eq_take_iff]
theorem tu{l:List α}{k:Nat}{z:Int}(hz:z=(k:Int)):cutD l (some z) none=l.drop k:=by
 subst hz
 unfold cutD
 have e1:HT.f7 l.length l.length none=l.length:=rfl
 have e2:HT.f7 l.length 0 (some (k:Int))=min k l.length:=by
   unfold HT.f7
   simp
   intro hk
   omega
 rw[e1,e2]
 rcases Nat.le_total k l.length with z|z
 . rw[Nat.min_eq_left z]
   exact List.take_of_length_le (by rw[aod];omega)
 . rw[Nat.min_eq_right z,List.drop_of_length_le z,List.drop_of_length_le (aml _),List.take_nil]
abbrev F7:=List L3.D×List It
def uV(r:F7):L3.D:=.tup [.tup r.1,.tup (r.2.map It.d)]
def LJ(s:List Int):Int:=if (s.length:Int) > 1 then(s.length:Int) else 1
theorem aa8(s:List Int):1<=LJ s:=by unfold LJ;split<;>omega
def TX(s:List Int)(p t:Nat):Int:=bF s (((p:Int)*3+(t:Int)) % LJ s)
def ED(s:List Int)(p t:Nat):Int:=rA (TX s p t) (41+(p:Int)*7+(t:Int))
def asG(c x:Int)(m k:Nat):List L3.D:=(List.range (1+x / 4 % 2).toNat).map fun(a:Nat)=>akG (c / ((a:Int)+2)+5*(k:Int)) m
def dsG(c x:Int)(p m:Nat)(hh:List Str)(k:Nat):List It:=(List.range (x / 8 % 3).toNat).map fun(a:Nat)=>.iV (wu (c / ((a:Int)+1)+3*(k:Int)+(p:Int)) m hh)
def fr1(s:List Int)(p t m:Nat)(hh:List Str)(n:Nat):List F7:=(List.range n).map fun(k:Nat)=>(asG (TX s p t) (ED s p t) m k,dsG (TX s p t) (ED s p t) p m hh k)
def fr2(s:List Int)(p t m:Nat)(hh:List Str)(cl:Bool):List F7:=if (cl || decide (ED s p t / 24 % 2=0))=true then [([],[It.iV (wu (TX s p t+(p:Int)) m hh)].take (ED s p t / 48 % 2).toNat)] else []
def LK(s:List Int)(p t m:Nat)(hh:List Str)(cl:Bool):List F7:=fr1 s p t m hh (ED s p t % 4).toNat++fr2 s p t m hh cl
theorem Jl(s:List Int)(p t m:Nat)(hh:List Str)(cl:Bool):(LK s p t m hh cl).length<=4:=by
 unfold LK fr1 fr2
 have h0:=amU (ED s p t) (b:=4) (by decide)
 have h1:=amW (ED s p t) (b:=4) (by decide)
 rw[amn,al8,amv]
 split
 . show _+1<=4
   omega
 . show _+0<=4
   omega
theorem xh(s:List Int)(p t m:Nat)(hh:List Str):0<(LK s p t m hh true).length:=by
 unfold LK fr2
 rw[amx (by simp),amn]
 show 0<_+1
 omega
theorem Jm(c x:Int)(m k:Nat):D.aY (asG c x m k)=true:=jm (fun _=>rfl) _
theorem cG(l:List It):D.aY (l.map It.d)=true:=jm aa1 _
theorem Qm(r:F7)(h:D.aY r.1=true):(uV r).gA=true:=by
 show(D.aY r.1&&(D.aY (r.2.map It.d)&&true))=true
 rw[h,cG]
 rfl
theorem iW{f:Nat->L3.D}{g:L3.D->T}(n:Int)(hg:∀k:Nat,g (.int (0+(k:Int)))=T.sh (f k)):((ck 0 n.toNat).filter fun _=>true).map g=((List.range n.toNat).map f).map T.sh:=by
 rw[gk]
 unfold ck
 rw[amy,amy]
 exact amL fun k _=>hg k
variable{d:L3.D}
theorem iz(h:d∈ck 0 n):∃k:Nat,k<n/\d=.int (k:Int):=by
 obtain⟨k,hk,rfl⟩:=amj.mp h
 exact⟨k,amH.mp hk,by rw[am0]⟩
theorem VP{f:Nat->F7}(n:Nat):(((List.range (n+1)).map f).map uV).map T.sh=(((List.range n).map f).map uV).map T.sh++[T.sh (uV (f n))]:=by rw[ane,ams,ams,ams];rfl
variable{t:Nat}{hh:List Str}
theorem xj{cl:Bool}:∀r∈LK s p t m hh cl,D.aY r.1=true:=fun r hr=>by
 rcases amr.mp hr with z|z
 . obtain⟨k,_,rfl⟩:=amj.mp z
   exact Jm ..
 . unfold fr2 at z
   split at z
   . rw[amM.mp z];rfl
   . cases z
def B7(s:List Int):Bool:=decide (rA (bF s 0) 47 % 2=0)
def LN(t:Nat):It:=.iV (.say "odd0" (-1) (t:Nat))
def rC(t:Nat):L3.D:=.tup [.str "!=",.tup [.int (-1),.int (t:Nat)],.tup [.int (-1),.int (t:Nat)]]
def oz:F7:=([],[])
def LQ(t:Nat)(r:List F7):List F7:=r.set (r.length-1) ((r.getD (r.length-1) oz).1,(r.getD (r.length-1) oz).2++[LN t])
def wB(t:Nat)(r:List F7):List F7:=if 1<r.length then r.set 0 (rC t::(r.getD 0 oz).1,(r.getD 0 oz).2) else([rC t],[])::r
def mS(s:List Int)(p t m:Nat)(hh:List Str)(cl:Bool):List F7:=if B7 s=true then LK s 0 t m hh true else LK s p t m hh cl
def vU(s:List Int)(p t m:Nat)(hh:List Str)(cl:Bool):List F7:=if (B7 s&&decide (p=0))=true then LQ t (mS s p t m hh cl) else mS s p t m hh cl
def AZ(s:List Int)(p t m:Nat)(hh:List Str)(cl:Bool):List F7:=if (B7 s&&decide (p=1))=true then wB t (vU s p t m hh cl) else vU s p t m hh cl
def Fj(s:List Int)(m:Nat)(hh:List Str)(cl:Bool)(n:Nat):List (List F7):=(List.range n).map fun(i:Nat)=>AZ s (i / 3) (i % 3) m hh cl
def vV(r:List F7):T:=.lst ((r.map uV).map T.sh)
theorem xm{cl:Bool}:∀r∈mS s p t m hh cl,D.aY r.1=true:=by
 unfold mS
 split
 . exact xj
 . exact xj
theorem B8(s:List Int)(p t m:Nat)(hh:List Str)(cl:Bool):(mS s p t m hh cl).length<=4:=by
 unfold mS
 split
 . exact Jl ..
 . exact Jl ..
theorem tD{cl:Bool}:∀r∈vU s p t m hh cl,D.aY r.1=true:=fun r hr=>by
 unfold vU at hr
 split at hr
 . rename_i ha
   have ha:=(amI _ _▸ha).1
   rcases anI hr with z|z
   . exact xm r z
   . rw[z]
     have hp:0<(mS s p t m hh cl).length:=by unfold mS;rw[amx ha];exact xh ..
     show D.aY ((mS s p t m hh cl).getD ((mS s p t m hh cl).length-1) oz).1=true
     rw[amb,al9 (by omega)]
     exact xm _ (ano _)
 . exact xm r hr
theorem Jo(s:List Int)(p t m:Nat)(hh:List Str)(cl:Bool):(vU s p t m hh cl).length<=4:=by
 unfold vU LQ
 split
 . rw[aoQ];exact B8 ..
 . exact B8 ..
theorem Jp(s:List Int)(p t m:Nat)(hh:List Str)(cl:Bool):(AZ s p t m hh cl).length<=5:=by
 have:=Jo s p t m hh cl
 unfold AZ wB
 split
 . split
   . rw[aoQ];omega
   . rw[am8];omega
 . omega
theorem B9{cl:Bool}:∀r∈AZ s p t m hh cl,D.aY r.1=true:=fun r hr=>by
 unfold AZ wB at hr
 split at hr
 . split at hr
   . rename_i hl
     rcases anI hr with z|z
     . exact tD r z
     . rw[z]
       show(true&&D.aY ((vU s p t m hh cl).getD 0 oz).1)=true
       rw[amb,al9 (by omega)]
       rw[Bool.true_and]
       exact tD _ (ano _)
   . rcases ami.mp hr with z|z
     . rw[z];rfl
     . exact tD r z
 . exact tD r hr
theorem Qn(s:List Int)(m:Nat)(hh:List Str)(cl:Bool)(p t:Nat)(ht:t<3):(Fj s m hh cl (3*p+t+1)).map vV=(Fj s m hh cl (3*p+t)).map vV++[vV (AZ s p t m hh cl)]:=by
 unfold Fj
 rw[ane,ams,ams]
 show _++[vV (AZ s ((3*p+t) / 3) ((3*p+t) % 3) m hh cl)]=_
 rw[show(3*p+t) / 3=p by omega,show(3*p+t) % 3=t by omega]
theorem vW{f:α->L3.D}{l:List α}(h:∀x∈l,(f x).gA=true):D.aY (l.map f)=true:=iZ fun d hd=>by
 obtain⟨x,hx,rfl⟩:=amj.mp hd
 exact h x hx
theorem Jq(h:0<n):Iv n (-1)=some (n-1):=by
 unfold Iv
 simp only[show ¬ (0:Int) <= -1 by decide,an1]
 rw[amx (by omega)]
 congr 1
 omega
theorem abe{l:List α}(h:0<l.length):rW l (-1)=l[l.length-1]?:=by
 unfold rW
 rw[Jq h]
 rfl
theorem uW{r:List F7}(h:∀q∈r,D.aY q.1=true):(vV r).clean=true:=aS (vW fun q hq=>Qm q (h q hq))
theorem Qo(r:List F7):T.bP (vV r)=.lst (r.map uV):=gD _
def VQ(n:Nat)(r:F7):Prop:=r.1.length<=n/\r.2.length<=n
theorem Qp{cl:Bool}:∀r∈LK s p t m hh cl,VQ 2 r:=fun r hr=>by
 have a0:=amU (ED s p t / 4) (b:=2) (by decide)
 have a1:=amW (ED s p t / 4) (b:=2) (by decide)
 have d0:=amU (ED s p t / 8) (b:=3) (by decide)
 have d1:=amW (ED s p t / 8) (b:=3) (by decide)
 rcases amr.mp hr with z|z
 . obtain⟨k,_,rfl⟩:=amj.mp z
   refine⟨?_,?_⟩
   . show(asG _ _ _ _).length<=2
     unfold asG
     rw[al8,amv]
     omega
   . show(dsG _ _ _ _ _ _).length<=2
     unfold dsG
     rw[al8,amv]
     omega
 . unfold fr2 at z
   split at z
   . rw[amM.mp z]
     refine⟨amR _,?_⟩
     show(List.take _ _).length<=2
     rw[amY]
     show min _ 1<=2
     omega
   . cases z
theorem jB{l:List α}{k:Nat}{z:α}(h:k<l.length):l.getD k z∈l:=by
 rw[amb,al9 h]
 exact ano _
theorem Gq{cl:Bool}:∀r∈mS s p t m hh cl,VQ 2 r:=by
 unfold mS
 split
 . exact Qp
 . exact Qp
theorem Gr{cl:Bool}:∀r∈vU s p t m hh cl,VQ 3 r:=fun r hr=>by
 have up:∀r∈mS s p t m hh cl,VQ 3 r:=fun r hr=>by
   obtain⟨a,b⟩:=Gq r hr
   exact⟨by omega,by omega⟩
 unfold vU at hr
 split at hr
 . rename_i ha
   have ha:=(amI _ _▸ha).1
   rcases anI hr with z|z
   . exact up r z
   . rw[z]
     have hp:0<(mS s p t m hh cl).length:=by unfold mS;rw[amx ha];exact xh ..
     obtain⟨a,b⟩:VQ 2 ((mS s p t m hh cl).getD ((mS s p t m hh cl).length-1) oz):=Gq (s:=s) (p:=p) (t:=t) (m:=m) (hh:=hh) (cl:=cl) _ (jB (l:=mS s p t m hh cl) (k:=(mS s p t m hh cl).length-1) (z:=oz) (by omega))
     refine⟨by show((mS s p t m hh cl).getD ((mS s p t m hh cl).length-1) oz).1.length<=3;omega,?_⟩
     show(((mS s p t m hh cl).getD ((mS s p t m hh cl).length-1) oz).2++[LN t]).length<=3
     rw[amn]
     show _+1<=3
     omega
 . exact up r hr
theorem Qq{cl:Bool}:∀r∈AZ s p t m hh cl,VQ 4 r:=fun r hr=>by
 have up:∀r∈vU s p t m hh cl,VQ 4 r:=fun r hr=>by
   obtain⟨a,b⟩:=Gr r hr
   exact⟨by omega,by omega⟩
 unfold AZ wB at hr
 split at hr
 . split at hr
   . rename_i hl
     rcases anI hr with z|z
     . exact up r z
     . rw[z]
       obtain⟨a,b⟩:VQ 3 ((vU s p t m hh cl).getD 0 oz):=Gr (s:=s) (p:=p) (t:=t) (m:=m) (hh:=hh) (cl:=cl) _ (jB (l:=vU s p t m hh cl) (k:=0) (z:=oz) (by omega))
       refine⟨?_,by show((vU s p t m hh cl).getD 0 oz).2.length<=4;omega⟩
       show(rC t::((vU s p t m hh cl).getD 0 oz).1).length<=4
       rw[am8]
       omega
   . rcases ami.mp hr with z|z
     . rw[z];exact⟨by show 1<=4;decide,by show 0<=4;decide⟩
     . exact up r z
 . exact up r hr
def dF(ks:List Nat):List Int:=ks.map fun(k:Nat)=>(k:Int)
def qD(ks:List Nat):Nat:=ks.foldr max 0
variable{ks:List Nat}
theorem Jr{x:Nat}(h:x∈ks):x<=qD ks:=by
 induction ks with
 | nil=>cases h
 | cons y ks ih=>
   show x<=max y (qD ks)
   rcases ami.mp h with rfl|h
   . omega
   . have:=ih h;omega
theorem EE(h:ks≠[]):qD ks∈ks:=by
 induction ks with
 | nil=>exact absurd rfl h
 | cons y ks ih=>
   show max y (qD ks)∈_
   by_cases e:ks=[]
   . subst e
     rw[show qD []=0 from rfl,Nat.max_zero]
     exact ama
   . rcases Nat.le_total y (qD ks) with z|z
     . rw[Nat.max_eq_right z];exact ame _ (ih e)
     . rw[Nat.max_eq_left z];exact ama
theorem ah3(h:ks≠[]):((qD ks:Nat):Int)∈dF ks/\∀x∈dF ks,x<=((qD ks:Nat):Int):=
 ⟨amj.mpr ⟨_,EE h,rfl⟩,fun x hx=>by
   obtain⟨k,hk,rfl⟩:=amj.mp hx
   have:=Jr hk
   omega⟩
theorem lC(h:f<ks.length):rW ((dF ks).map L3.D.int) (f:Nat)=some (.int (ks.getD f 0:Nat)):=by
 refine aG (j:=f) ?_
 unfold dF
 rw[amg,amg,al9 h,amb,al9 h]
 rfl
def YH(s:List Int)(ks:List Nat)(f t r:Nat):Int:=if B7 s=true then(((ks.getD f 0:Nat):Int)+([1,0,2]:List Int).getD (((t:Int)+(r:Int)) % 3).toNat 0) % (((qD ks:Nat):Int)+1) else rA (bF s (((ks.getD f 0:Nat):Int)+(t:Int)+(r:Int))) 53 % (((qD ks:Nat):Int)+1)
def TY(ks:List Nat)(w:Int):List Nat:=(List.range ks.length).filter fun(k:Nat)=>decide (((ks.getD k 0:Nat):Int)=w)
def LR(ks:List Nat)(w:Int):List Nat:=if TY ks w=[] then List.range ks.length else TY ks w
theorem Js(ks:List Nat)(w:Int)(h:0<ks.length):0<(LR ks w).length:=by
 unfold LR
 split
 . rw[amv];exact h
 . rename_i e
   exact List.length_pos_iff.mpr e
theorem abf(ks:List Nat)(w:Int):∀k∈LR ks w,k<ks.length:=fun k hk=>by
 unfold LR at hk
 split at hk
 . exact amH.mp hk
 . exact amH.mp (anU.mp hk).1
def LV(s:List Int)(ks:List Nat)(f t r:Nat):Nat:=(LR ks (YH s ks f t r)).getD (rA (bF s (f:Nat)) (59+(t:Int)*5+(r:Int)) % ((LR ks (YH s ks f t r)).length:Int)).toNat 0
theorem Qs{x:Int}(h:0<n):0<=x % (n:Int)/\(x % (n:Int)).toNat<n:=by
 have h0:=amU x (b:=(n:Int)) (by omega)
 have h1:=amW x (b:=(n:Int)) (by omega)
 exact⟨h0,by omega⟩
theorem abg(s:List Int)(ks:List Nat)(f t r:Nat)(h:0<ks.length):LV s ks f t r<ks.length:=abf ks (YH s ks f t r) _ (jB (Qs (Js ks _ h)).2)
abbrev R7:=List L3.D×List It×Nat
def qE(r:R7):L3.D:=.tup [.tup r.1,.tup (r.2.1.map It.d),.int (r.2.2:Nat)]
def M6(l:List It)(f n to:Nat):List It:=if f % 3=0 then l else [It.out ((f:Int)+1),.keep 0 (-1) ((f:Int)+1)]++l.take 1++[It.way (n:Nat)]++l.drop 1++[It.yq ((to:Int)+1)]
def VR(s:List Int)(a:Nat):Nat:=if rA (bF s 0) 71 % 4=0 then a % 3 else a
def mm7(s:List Int)(a m:Nat):Int:=rA (bF s (VR s a:Nat)) 73 % ((m:Int)+1)-1
def Qt(s:List Int)(a m:Nat):L3.D:=.tup [if VR s a % 3=1 then .tup [.int 0,.int ((VR s a:Int)+1),.int ((m:Int)+1)] else .tup [.int 0,.int ((VR s a:Int)+1)],.tup (.int (mm7 s a m)::List.replicate m (.int (-1)))]
variable{x:Str}
theorem yL{y z:Str}(h:x++y=x++z):y=z:=by
 have h1:x.cps++y.cps=x.cps++z.cps:=congrArg Str.cps h
 have h2:y.cps=z.cps:=by
   apply Array.ext'
   have:=congrArg Array.toList h1
   rw[aoN,aoN]at this
   exact List.append_cancel_left this
 cases y
 cases z
 cases h2
 rfl
theorem VW(s:List Int):(rB s).Nodup:=by
 unfold rB
 have e1:wA s++"1" ≠ wA s++"12":=fun z=>absurd (yL z) (by decide +kernel)
 have e2:wA s++"1" ≠ wA s++"2":=fun z=>absurd (yL z) (by decide +kernel)
 have e3:wA s++"12" ≠ wA s++"2":=fun z=>absurd (yL z) (by decide +kernel)
 simp[e1,e2,e3]
theorem Gs(s:List Int):(jF s).Nodup:=by
 unfold jF
 refine List.Nodup.sublist (List.take_sublist _ _) ?_
 have h:=VW s
 rw[← anp (Ql s) (rB s)]at h
 exact(am2.nodup_iff).mp h
theorem Jt(s:List Int):(jF s).length<=3:=by
 unfold jF
 have h3:(rB s).length=3:=rfl
 rw[amY,amn,aod,amY,h3]
 omega
def j6(a:Nat)(x:Str):bS:=[.inl (a:Int),.inr x]
variable{c:Nat}
theorem pS{y:Str}(h:j6 a x=j6 c y):a=c/\x=y:=by
 unfold j6 at h
 injection h with h1 h2
 injection h1 with h1
 injection h2 with h2 _
 injection h2 with h2
 exact⟨by omega,h2⟩
def fj(R:List (bS×List R7)):List (bS×List L3.D):=R.map fun q=>(q.1,q.2.map qE)
theorem tE(R:List (bS×List R7)):(fj R).map (·.1)=R.map (·.1):=by
 unfold fj
 rw[amy]
 rfl
def T3(s:List Int)(ks:List Nat)(f t:Nat)(fs:List F7)(n:Nat):List R7:=(List.range n).map fun(i:Nat)=>((fs.getD i oz).1,M6 (fs.getD i oz).2 f i (LV s ks f t i),LV s ks f t i)
def Tz(s:List Int)(ks:List Nat)(f t:Nat)(fs:List F7):List R7:=T3 s ks f t fs fs.length
theorem Qu(s:List Int)(ks:List Nat)(f t:Nat)(fs:List F7)(n:Nat):((T3 s ks f t fs (n+1)).map qE).map T.sh=((T3 s ks f t fs n).map qE).map T.sh++[T.sh (qE ((fs.getD n oz).1,M6 (fs.getD n oz).2 f n (LV s ks f t n),LV s ks f t n))]:=by
 unfold T3
 rw[ane,ams,ams,ams]
 rfl
def Ca(s:List Int)(ks:List Nat)(hs:List Str)(FF:List (List F7))(n:Nat):List (bS×List R7):=(List.range n).map fun(i:Nat)=>(j6 (i / hs.length) (hs.getD (i % hs.length) Str.empty),Tz s ks (i / hs.length) (i % hs.length) (FF.getD (ks.getD (i / hs.length) 0*3+i % hs.length) []))
theorem Ju{H:Nat}(h:t<H):(j*H+t) / H=j/\(j*H+t) % H=t:=by
 have hp:0<H:=by omega
 constructor
 . rw[aoV,Nat.mul_add_div hp,Nat.div_eq_of_lt h,Nat.add_zero]
 . rw[aoV,Nat.mul_add_mod,aoD h]
theorem Qv(s:List Int)(ks:List Nat)(hs:List Str)(FF:List (List F7))(h:t<hs.length):Ca s ks hs FF (j*hs.length+t+1)=Ca s ks hs FF (j*hs.length+t)++[(j6 j (hs.getD t Str.empty),Tz s ks j t (FF.getD (ks.getD j 0*3+t) []))]:=by
 unfold Ca
 rw[ane,ams,aou,(Ju h).1,(Ju h).2]
theorem getD_inj{hs:List Str}(nd:hs.Nodup)(hi:i<hs.length)(hj:j<hs.length)(e:hs.getD i Str.empty=hs.getD j Str.empty):i=j:=by
 rw[amb,amb,al9 hi,al9 hj]at e
 exact(ao6 hi nd).mp (by rw[al9 hi,al9 hj];exact congrArg some e)
theorem VX(s:List Int)(ks:List Nat){hs:List Str}(FF:List (List F7))(nd:hs.Nodup)(h:t<hs.length):j6 j (hs.getD t Str.empty)∉(Ca s ks hs FF (j*hs.length+t)).map (·.1):=fun hm=>by
 unfold Ca at hm
 rw[amy]at hm
 obtain⟨i,hi,e⟩:=amj.mp hm
 have hi:=amH.mp hi
 obtain⟨e1,e2⟩:=pS e
 have e3:=getD_inj nd (aow i (by omega)) h e2
 have e1:i / hs.length=j:=e1
 have e3:i % hs.length=t:=e3
 have:=anB i hs.length
 rw[e1,e3,aoV]at this
 omega
def n7(s:List Int)(q:Nat):Nat:=max 1 (min s.length q)
def YJ(k:Nat):Str:=("box":Str)++(toString (k:Int):Str)
def xo(s:List Int):List (Str×Int):=(List.range (s.length % 4)).map fun(k:Nat)=>(YJ k,iy (bF s ((k:Int)+2)))
def dR(x:Str×Int):L3.D:=.tup [.str x.1,.int x.2]
theorem VY(s:List Int):(xo s).length=s.length % 4:=by unfold xo;rw[al8,amv]
theorem Jv:∀k:Nat,k<4->((YJ k).length=4/\PyData.strOk (YJ k)=true)/\((toString (k:Int):Str).length=1/\(k:Int).natAbs.log2<1920):=by decide +kernel
def zM(s:List Int):Nat:=(1+rA (bF s 0) 43 % 6).toNat
theorem Qw(s:List Int):1<=zM s/\zM s<=6/\((zM s:Nat):Int)=1+rA (bF s 0) 43 % 6:=by
 unfold zM
 have h0:=amU (rA (bF s 0) 43) (b:=6) (by decide)
 have h1:=amW (rA (bF s 0) 43) (b:=6) (by decide)
 omega
def uC(s:List Int)(q:Nat):List Nat:=(List.range (n7 s q)).map fun(k:Nat)=>(rA (bF s (k:Nat)) 61 % ((zM s:Nat):Int)).toNat
theorem Jw(s:List Int)(q:Nat):(uC s q).length=n7 s q:=by unfold uC;rw[al8,amv]
theorem Qx(s:List Int)(q:Nat):∀k∈uC s q,k<zM s:=fun k hk=>by
 obtain⟨i,_,rfl⟩:=amj.mp hk
 exact(Qs (by have:=Qw s;omega)).2
def Fl(s:List Int)(cl:Bool):List (List F7):=Fj s (xo s).length (jF s) cl (3*zM s)
def M7(s:List Int)(q:Nat)(cl:Bool):List (bS×List R7):=Ca s (uC s q) (jF s) (Fl s cl) (n7 s q*(jF s).length)
def VZ(s:List Int)(q:Nat):List L3.D:=(List.range (n7 s q)).map fun(k:Nat)=>Qt s k (n7 s q)
def V0(s:List Int):List It:=[.yq 0,.yq 1,.iV (wu (bF s 1) (xo s).length (jF s))]
def pt7(bs:List (Str×Int))(hs:List Str)(bg:List It)(pr:List L3.D)(R:List (bS×List R7)):T:=.lst [.lst ((bs.map dR).map T.sh),.lst ((hs.map .str).map T.sh),.sh (.tup (bg.map It.d)),.lst (pr.map T.sh),.dct (bZ (fj R))]
def T4(bs:List (Str×Int))(hs:List Str)(bg:List It)(pr:List L3.D)(R:List (bS×List R7)):L3.D:=.lst [.lst (bs.map dR),.lst (hs.map .str),.tup (bg.map It.d),.lst pr,.dct (dX (fj R))]
theorem V1(bs:List (Str×Int))(hs:List Str)(bg:List It)(pr:List L3.D)(R:List (bS×List R7)):(pt7 bs hs bg pr R).bP=T4 bs hs bg pr R:=by
 unfold pt7 T4
 rw[T.bP,T.dM,T.dM,T.dM,T.dM,T.dM,T.dM,gD,gD,gD,T.bP,T.bP,pQ]
theorem Qy{cl:Bool}{k:Nat}(h:k<3*zM s):(Fl s cl)[k]? = some (AZ s (k / 3) (k % 3) (xo s).length (jF s) cl):=by
 unfold Fl Fj
 rw[amg,al9 (by rw[amv];exact h),aov]
 rfl
def V3(FF:List (List F7)):List L3.D:=FF.map fun r=>.lst (r.map uV)
theorem V4(FF:List (List F7)):(T.lst (FF.map vV)).bP=.lst (V3 FF):=by
 rw[T.bP]
 congr 1
 induction FF with
 | nil=>show T.dM []=[];rw[T.dM]
 | cons r FF ih=>show T.dM (vV r::FF.map vV)=.lst (r.map uV)::V3 FF;rw[T.dM,Qo,ih]
theorem Cb:∀{ts:List T},(∀t∈ts,t.clean=true)->T.cR ts=true
 | [],_=>by rw[T.cR]
 | t::ts,h=>by rw[T.cR,h t ama,Cb fun u hu=>h u (ame _ hu)];rfl
theorem Jx(s:List Int)(a m:Nat):(Qt s a m).gA=true:=by
 unfold Qt
 have h2:D.aY (L3.D.int (mm7 s a m)::List.replicate m (.int (-1)))=true:=iZ fun d hd=>by
   rcases ami.mp hd with rfl|hd
   . rfl
   . rw[aoX hd];rfl
 rw[D.gA,D.aY,D.aY,D.aY,D.gA,h2]
 split<;>rfl
section
variable{β:Type}[DecidableEq α][DecidableEq β]
def unq(l:List α):List α:=l.foldl (fun acc d=>if d∈acc then acc else acc++[d]) []
def cE(l:List α):List Nat:=l.map fun d=>(unq l).idxOf d
theorem dS(l:List α)(d:α):unq (l++[d])=if d∈unq l then unq l else unq l++[d]:=by
 unfold unq
 rw[List.foldl_append]
 rfl
theorem snoc_ind{P:List α->Prop}(h0:P [])(h1:∀l d,P l->P (l++[d]))(l:List α):P l:=by
 rw[← List.reverse_reverse l]
 induction l.reverse with
 | nil=>exact h0
 | cons d l ih=>rw[anl];exact h1 _ _ ih
theorem cU{d:α}{l:List α}:d∈unq l↔d∈l:=by
 induction l using snoc_ind with
 | h0=>exact Iff.rfl
 | h1 l e ih=>
   rw[dS]
   by_cases he:e∈unq l
   . rw[amx he,amr,amM]
     constructor
     . exact fun z=>.inl (ih.mp z)
     . rintro(z|rfl)
       . exact ih.mpr z
       . exact he
   . rw[amq he,amr,amr,ih]
theorem Qz(l:List α):(unq l).Nodup:=by
 induction l using snoc_ind with
 | h0=>exact ang
 | h1 l e ih=>
   rw[dS]
   split
   . exact ih
   . rename_i he
     rw[amK]
     refine⟨ih,aob _ _,fun x hx y hy z=>he ?_⟩
     rw[← amM.mp hy,← z]
     exact hx
theorem Jy(l:List α):(unq l).length<=l.length:=by
 induction l using snoc_ind with
 | h0=>exact aml _
 | h1 l e ih=>
   rw[dS]
   split
   . rw[amn];omega
   . rw[amn,amn];show _+1<=_+1;omega
theorem V5(l m:List α):∃r,unq (l++m)=unq l++r:=by
 induction m using snoc_ind with
 | h0=>exact⟨[],by rw[amQ,amQ]⟩
 | h1 m e ih=>
   obtain⟨r,hr⟩:=ih
   rw[← amm,dS]
   split
   . exact⟨r,hr⟩
   . exact⟨r++[e],by rw[hr,amm]⟩
theorem QB{l m:List α}{d:α}(h:d∈l):(unq (l++m)).idxOf d=(unq l).idxOf d:=by
 obtain⟨r,hr⟩:=V5 l m
 rw[hr]
 rw[anT,amx (cU.mpr h)]
theorem Jz{l:List α}(h:l≠[]):0<(unq l).length:=by
 cases l with
 | nil=>exact absurd rfl h
 | cons d l=>exact List.length_pos_of_mem (cU.mpr ama)
def wC(l:List α)(m:List β):Prop:=l.length=m.length/\∀(i j:Nat) (a b:α) (c d:β),l[i]? = some a->l[j]? = some b->m[i]? = some c->m[j]? = some d->a=b->c=d
theorem wC.pre{l:List α}{m:List β}{x:α}{y:β}(h:wC (l++[x]) (m++[y])):wC l m:=by
 obtain⟨h1,h2⟩:=h
 have hl:l.length=m.length:=by simpa using h1
 refine⟨hl,fun i j a b c d ha hb hc hd e=>h2 i j a b c d ?_ ?_ ?_ ?_ e⟩
 . rw[amF (amf.mp ha).1];exact ha
 . rw[amF (amf.mp hb).1];exact hb
 . rw[amF (amf.mp hc).1];exact hc
 . rw[amF (amf.mp hd).1];exact hd
theorem wC.last{l:List α}{m:List β}{x:α}{y:β}(h:wC (l++[x]) (m++[y]))(hx:x∈l):y∈m:=by
 have hl:l.length=m.length:=by simpa using h.1
 obtain⟨i,hi⟩:=anj.mp hx
 have il:=(amf.mp hi).1
 obtain⟨c,hc⟩:∃c,m[i]? = some c:=⟨_,al9 (by omega)⟩
 have:=h.2 i l.length x x c y (by rw[amF il];exact hi) (by simp) (by rw[amF (by omega)];exact hc) (by rw[hl];simp) rfl
 subst this
 exact amt hc
theorem A0{P:List α->List β->Prop}(h0:P [] [])(h1:∀l m d e,l.length=m.length->P l m->P (l++[d]) (m++[e])):∀(l:List α) (m:List β),l.length=m.length->P l m:=by
 intro l
 induction l using snoc_ind with
 | h0=>
   intro m hm
   cases m with
   | nil=>exact h0
   | cons _ _=>simp at hm
 | h1 l d ih=>
   intro m hm
   rcases List.eq_nil_or_concat m with rfl|⟨m,e,rfl⟩
   . simp at hm
   . rw[List.concat_eq_append]at hm ⊢
     have hl:l.length=m.length:=by simpa using hm
     exact h1 l m d e hl (ih m hl)
theorem wC.cnt{l:List α}{m:List β}(h:wC l m):(unq m).length<=(unq l).length/\((unq m).length=(unq l).length->wC m l):=by
 have hl:=h.1
 revert h
 refine A0 (P:=fun(l:List α) (m:List β)=>wC l m->(unq m).length<=(unq l).length/\((unq m).length=(unq l).length->wC m l)) (fun _=>⟨aml _,fun _=>⟨rfl,fun i j a b c d ha=>by simp at ha⟩⟩) (fun l m x y hl ih h=>?_) l m hl
 obtain⟨c1,c2⟩:=ih h.pre
 rw[dS,dS]
 have ext:wC m l->(y∈m->x∈l/\∀(i:Nat) b c,m[i]? = some b->l[i]? = some c->b=y->c=x)->wC (m++[y]) (l++[x]):=fun p q=>by
   have at_:∀{γ:Type} {n:List γ} {z w:γ} {i:Nat},(n++[z])[i]? = some w->(i<n.length/\n[i]? = some w)\/(i=n.length/\w=z):=fun {γ n z w i} e=>by
     rcases Nat.lt_trichotomy i n.length with k|k|k
     . rw[amF k]at e;exact .inl ⟨k,e⟩
     . subst k;simp at e;exact .inr ⟨rfl,e.symm⟩
     . rw[am3 (by rw[amn];show n.length+1<=i;omega)]at e;cases e
   refine⟨by simp[hl],fun i j a b c d ha hb hc hd e=>?_⟩
   rcases at_ ha with⟨i1,pa⟩|⟨i1,pa⟩<;>rcases at_ hb with⟨j1,pb⟩|⟨j1,pb⟩<;>rcases at_ hc with⟨i2,pc⟩|⟨i2,pc⟩<;>rcases at_ hd with⟨j2,pd⟩|⟨j2,pd⟩<;>try omega
   . exact p.2 i j a b c d pa pb pc pd e
   . rw[pd]
     exact(q ((e.trans pb)▸amt pa)).2 i a c pa pc (e.trans pb)
   . rw[pc]
     exact((q ((e.symm.trans pa)▸amt pb)).2 j b d pb pd (e.symm.trans pa)).symm
   . rw[pc,pd]
 by_cases hx:x∈l
 . have hy:=h.last hx
   rw[amx (cU.mpr hx),amx (cU.mpr hy)]
   refine⟨c1,fun e=>ext (c2 e) fun _=>⟨hx,fun i b c hb hc eb=>?_⟩⟩
   obtain⟨k,hk⟩:=anj.mp hx
   have kl:=(amf.mp hk).1
   have hm:m[k]? = some y:=by
     obtain⟨z,hz⟩:∃z,m[k]? = some z:=⟨_,al9 (by omega)⟩
     have:=h.2 k l.length x x z y (by rw[amF kl];exact hk) (by simp) (by rw[amF (by omega)];exact hz) (by rw[hl];simp) rfl
     rw[hz,this]
   exact(c2 e).2 i k b y c x hb hm hc hk eb
 . rw[amq fun z=>hx (cU.mp z)]
   by_cases hy:y∈m
   . rw[amx (cU.mpr hy),amn]
     exact⟨by omega,fun e=>by have:(unq m).length=(unq l).length+1:=e;omega⟩
   . rw[amq fun z=>hy (cU.mp z),amn,amn]
     exact⟨by show _+1<=_+1;omega,fun e=>ext (c2 (by have:(unq m).length+1=(unq l).length+1:=e;omega)) fun z=>absurd z hy⟩
theorem wC.num{l:List α}{m:List β}(h:wC l m)(g:wC m l):cE l=cE m/\(unq l).length=(unq m).length:=by
 have hl:=h.1
 revert h g
 refine A0 (P:=fun(l:List α) (m:List β)=>wC l m->wC m l->cE l=cE m/\(unq l).length=(unq m).length) (fun _ _=>⟨rfl,rfl⟩) (fun l m x y hl ih h g=>?_) l m hl
 obtain⟨e1,e2⟩:=ih h.pre g.pre
 have en:∀{γ:Type} [DecidableEq γ] (n:List γ) (z:γ),cE (n++[z])=cE n++[(unq (n++[z])).idxOf z]:=fun n z=>by
   unfold cE
   rw[ams]
   congr 1
   exact amL fun d hd=>QB hd
 have hin:x∈l↔y∈m:=⟨h.last,g.last⟩
 rw[en,en,e1,dS,dS]
 by_cases hx:x∈l
 . have hy:=hin.mp hx
   rw[amx (cU.mpr hx),amx (cU.mpr hy)]
   refine⟨?_,e2⟩
   obtain⟨k,hk⟩:=anj.mp hx
   have kl:=(amf.mp hk).1
   have hm:m[k]? = some y:=by
     obtain⟨z,hz⟩:∃z,m[k]? = some z:=⟨_,al9 (by omega)⟩
     have:=h.2 k l.length x x z y (by rw[amF kl];exact hk) (by simp) (by rw[amF (by omega)];exact hz) (by rw[hl];simp) rfl
     rw[hz,this]
   have e3:(cE l)[k]? = (cE m)[k]?:=by rw[e1]
   unfold cE at e3
   rw[amg,amg,hk,hm]at e3
   have e4:(unq l).idxOf x=(unq m).idxOf y:=amA e3
   rw[e4]
 . have hy:y∉m:=fun z=>hx (hin.mpr z)
   rw[amq fun z=>hx (cU.mp z),amq fun z=>hy (cU.mp z)]
   refine⟨?_,by rw[amn,amn,e2];rfl⟩
   rw[anT,anT,amq fun z=>hx (cU.mp z),amq fun z=>hy (cU.mp z),e2,aoE,aoE]
theorem Cd(l:List α):wC l (cE l)/\wC (cE l) l:=by
 have key:∀{i:Nat} {a:α} {c:Nat},l[i]? = some a->(cE l)[i]? = some c->c=(unq l).idxOf a:=fun {i a c} ha hc=>by
   unfold cE at hc
   rw[amg,ha]at hc
   exact(amA hc).symm
 have hl:l.length=(cE l).length:=by unfold cE;rw[al8]
 refine⟨⟨hl,fun i j a b c d ha hb hc hd e=>?_⟩,⟨hl.symm,fun i j a b c d ha hb hc hd e=>?_⟩⟩
 . rw[key ha hc,key hb hd,e]
 . rw[key hc ha,key hd hb]at e
   have Kp:=cU.mpr (amt hc)
   have zQ:=cU.mpr (amt hd)
   have g1:(unq l)[(unq l).idxOf c]? = some c:=by rw[al9 (amT.mpr Kp)];exact congrArg some (anO _)
   have g2:(unq l)[(unq l).idxOf d]? = some d:=by rw[al9 (amT.mpr zQ)];exact congrArg some (anO _)
   rw[e,g2]at g1
   exact(amA g1).symm
theorem QC{l:List α}(h:c∈cE l):c<(unq l).length:=by
 unfold cE at h
 obtain⟨d,hd,rfl⟩:=amj.mp h
 exact amT.mpr (cU.mpr hd)
theorem JA{l:List α}(h:c<(unq l).length):c∈cE l:=by
 unfold cE
 refine amj.mpr ⟨(unq l)[c],cU.mp (ano h),?_⟩
 exact(List.getElem_inj (Qz l)).mp (anO (amT.mpr (ano h)))
theorem pT(l:List α):cE (cE l)=cE l/\(unq (cE l)).length=(unq l).length:=(Cd l).2.num (Cd l).1
theorem xq(l:List α):(cE l).length=l.length:=by unfold cE;rw[al8]
end
variable{β:Type}
theorem Ce{f:Nat->α}{g:Nat->β}(h:∀a,a<n->∀b,b<n->f a=f b->g a=g b):wC ((List.range n).map f) ((List.range n).map g):=by
 have at_:∀{γ:Type} {k:Nat->γ} {i:Nat} {c:γ},((List.range n).map k)[i]? = some c->i<n/\c=k i:=fun {γ k i c} e=>by
   have hi:=(amf.mp e).1
   rw[al8,amv]at hi
   rw[amg,amZ hi]at e
   exact⟨hi,(amA e).symm⟩
 refine⟨by rw[al8,al8],fun i j a b c d ha hb hc hd e=>?_⟩
 obtain⟨i1,rfl⟩:=at_ ha
 obtain⟨j1,rfl⟩:=at_ hb
 obtain⟨_,rfl⟩:=at_ hc
 obtain⟨_,rfl⟩:=at_ hd
 exact h i i1 j j1 e
variable{b:Nat}
theorem wC.map{f:Nat->α}{g:Nat->β}(h:wC ((List.range n).map f) ((List.range n).map g))(ha:a<n)(hb:b<n)(e:f a=f b):g a=g b:=by
 have at_:∀{γ:Type} (k:Nat->γ) {i:Nat},i<n->((List.range n).map k)[i]? = some (k i):=fun k i hi=>by rw[amg,amZ hi];rfl
 exact h.2 a b _ _ _ _ (at_ f ha) (at_ f hb) (at_ g ha) (at_ g hb) e
variable{F:List Nat}
theorem yM(h:F.length=n):F=(List.range n).map fun a=>F.getD a 0:=by
 apply an8
 intro i
 by_cases hi:i<n
 . rw[amg,amZ hi]
   show F[i]? = some (F.getD i 0)
   rw[amb,al9 (by omega)]
   rfl
 . rw[am3 (by omega),am3 (by rw[al8,amv];omega)]
def cn(F:List Nat):Nat:=(unq F).length
section
variable[DecidableEq α][DecidableEq β]{f:Nat->α}{g:Nat->β}
theorem mU(ha:a<n)(hb:b<n):(cE ((List.range n).map f)).getD a 0=(cE ((List.range n).map f)).getD b 0↔f a=f b:=by
 have h:=Cd ((List.range n).map f)
 have e:=yM (F:=cE ((List.range n).map f)) (n:=n) (by rw[xq,al8,amv])
 have h1:=h.1
 have h2:=h.2
 rw[e]at h1 h2
 exact⟨fun z=>h2.map ha hb z,fun z=>h1.map ha hb z⟩
theorem LW(h:∀a,a<n->∀b,b<n->(f a=f b↔g a=g b)):cE ((List.range n).map f)=cE ((List.range n).map g):=
 ((Ce fun a ha b hb=>(h a ha b hb).mp).num (Ce fun a ha b hb=>(h a ha b hb).mpr)).1
theorem QD(hF:F.length=n)(hn:cE F=F)(h:∀a,a<n->∀b,b<n->f a=f b->F.getD a 0=F.getD b 0):cn F<=cn (cE ((List.range n).map f))/\(cn F=cn (cE ((List.range n).map f))->cE ((List.range n).map f)=F):=by
 have p:wC ((List.range n).map f) F:=by rw[yM hF];exact Ce h
 unfold cn
 rw[(pT _).2]
 refine⟨p.cnt.1,fun e=>?_⟩
 rw[(p.num (p.cnt.2 e)).1,hn]
theorem A1(l:List α)(h:l.length<=n):cn (cE l)<=n:=by
 unfold cn
 rw[(pT l).2]
 exact am9 (Jy l) h
theorem QF{l:List α}(h:l≠[]):0<cn (cE l):=by
 unfold cn
 rw[(pT l).2]
 exact Jz h
theorem QG{l:List α}(h:l≠[]):qD (cE l)+1=cn (cE l):=by
 have hp:=Jz h
 unfold cn
 rw[(pT l).2]
 have h1:qD (cE l)∈cE l:=EE fun z=>by
   have:=xq l
   rw[z]at this
   exact h (ao2.mp this.symm)
 have h2:=QC h1
 have h3:=Jr (JA (l:=l) (c:=(unq l).length-1) (by omega))
 omega
end
section
variable(R:List (bS×List R7))(hs:List Str)
def cV(a:Nat)(x:Str):List R7:=(iU R (j6 a x)).getD []
def A2(r:R7):L3.D:=.tup [.tup r.1,.tup ((r.2.1.filter It.told).map It.d)]
def tF(a:Nat)(x:Str):L3.D:=.tup ((cV R a x).map A2)
def kD(a:Nat):List L3.D:=hs.map (tF R a)
def tG(F:List Nat)(a:Nat):List Nat:=hs.flatMap fun x=>(cV R a x).map fun r=>F.getD r.2.2 0
def Cg(F:List Nat)(a:Nat):List L3.D:=[.int (F.getD a 0:Nat),.tup ((dF (tG R hs F a)).map .int)]
def kLt(F:List Nat)(a:Nat):List L3.D:=[.int (F.getD a 0:Nat),.tup (kD R hs a),.tup ((dF (tG R hs F a)).map .int)]
variable(n:Nat)
def dU:Nat->List Nat
 | 0=>cE ((List.range n).map fun(a:Nat)=>L3.D.tup (kD R hs a))
 | k+1=>cE ((List.range n).map fun(a:Nat)=>L3.D.tup (Cg R hs (dU k) a))
def lit:Nat->List Nat
 | 0=>List.replicate n 0
 | k+1=>cE ((List.range n).map fun(a:Nat)=>L3.D.tup (kLt R hs (lit k) a))
variable{R hs n}
theorem mV(k:Nat):(dU R hs n k).length=n:=by
 cases k with
 | zero=>rw[dU,xq,al8,amv]
 | succ k=>rw[dU,xq,al8,amv]
theorem pU(k:Nat):cE (dU R hs n k)=dU R hs n k:=by
 cases k with
 | zero=>rw[dU];exact(pT _).1
 | succ k=>rw[dU];exact(pT _).1
theorem V6{a b:List Nat}(h:(dF a).map L3.D.int=(dF b).map L3.D.int):a=b:=by
 unfold dF at h
 rw[amy,amy]at h
 refine List.map_inj_right (fun x y e=>?_) |>.mp h
 have e:L3.D.int (x:Int)=.int (y:Int):=e
 injection e with e
 omega
theorem tH(h:L3.D.tup (Cg R hs F a)=.tup (Cg R hs F b)):F.getD a 0=F.getD b 0/\tG R hs F a=tG R hs F b:=by
 unfold Cg at h
 injection h with h
 injection h with h1 h
 injection h with h2 _
 injection h1 with h1
 injection h2 with h2
 exact⟨by omega,V6 h2⟩
theorem yN(k:Nat)(ha:a<n)(hb:b<n)(h:(dU R hs n k).getD a 0=(dU R hs n k).getD b 0):kD R hs a=kD R hs b:=by
 induction k with
 | zero=>
   rw[dU]at h
   have:=(mU ha hb).mp h
   injection this
 | succ k ih=>
   rw[dU]at h
   exact ih (tH ((mU ha hb).mp h)).1
theorem mW(h:kD R hs a=kD R hs b):∀x∈hs,(cV R a x).map A2=(cV R b x).map A2:=fun x hx=>by
 unfold kD at h
 have:=List.map_inj_left.mp h x hx
 unfold tF at this
 injection this
theorem yO(k:Nat):cn (dU R hs n k)<=cn (dU R hs n (k+1))/\(cn (dU R hs n k)=cn (dU R hs n (k+1))->dU R hs n (k+1)=dU R hs n k):=by
 rw[dU]
 exact QD (mV k) (pU k) fun a _ b _ h=>(tH h).1
theorem tK{k:Nat}(h:dU R hs n (k+1)=dU R hs n k)(m:Nat):dU R hs n (k+m)=dU R hs n k:=by
 induction m with
 | zero=>rfl
 | succ m ih=>rw[show k+(m+1)=(k+m)+1 by omega,dU,ih,← dU,h]
theorem QH(hn:1<=n)(k:Nat):1<=cn (dU R hs n k)/\cn (dU R hs n k)<=n/\qD (dU R hs n k)+1=cn (dU R hs n k):=by
 have ne:∀{γ:Type} (f:Nat->γ),(List.range n).map f≠[]:=fun f z=>by
   have:=congrArg List.length z
   rw[al8,amv]at this
   have:n=0:=this
   omega
 cases k with
 | zero=>rw[dU];exact⟨QF (ne _),A1 _ (by rw[al8,amv];exact aml _),QG (ne _)⟩
 | succ k=>rw[dU];exact⟨QF (ne _),A1 _ (by rw[al8,amv];exact aml _),QG (ne _)⟩
def gu(R:List (bS×List R7))(hs:List Str)(n:Nat):List Nat:=dU R hs n n
theorem abi{k:Nat}(hk:k+1<=n)(h:cn (dU R hs n (k+1))<=cn (dU R hs n k)):dU R hs n (k+1)=gu R hs n:=by
 have h1:=yO (R:=R) (hs:=hs) (n:=n) k
 have e:=h1.2 (by omega)
 have h2:=tK e (n-k)
 unfold gu
 rw[e,← h2,show k+(n-k)=n by omega]
theorem yP(hn:1<=n):dU R hs n (n+1)=gu R hs n:=by
 have key:∀j,(∃k,k<j/\cn (dU R hs n (k+1))<=cn (dU R hs n k))\/j+1<=cn (dU R hs n j):=by
   intro j
   induction j with
   | zero=>exact .inr (QH hn 0).1
   | succ j ih=>
     rcases ih with⟨k,h1,h2⟩|h
     . exact .inl ⟨k,by omega,h2⟩
     . by_cases e:cn (dU R hs n (j+1))<=cn (dU R hs n j)
       . exact .inl ⟨j,by omega,e⟩
       . exact .inr (by omega)
 rcases key n with⟨k,h1,h2⟩|h
 . have e:=(yO (R:=R) (hs:=hs) (n:=n) k).2 (by have:=(yO (R:=R) (hs:=hs) (n:=n) k).1;omega)
   unfold gu
   rw[← show k+(n+1-k)=n+1 by omega,tK e,← tK e (n-k),show k+(n-k)=n by omega]
 . have:=(QH (R:=R) (hs:=hs) hn n).2.1
   omega
theorem fin_same(hn:1<=n)(ha:a<n)(hb:b<n)(h:(gu R hs n).getD a 0=(gu R hs n).getD b 0):kD R hs a=kD R hs b/\tG R hs (gu R hs n) a=tG R hs (gu R hs n) b:=by
 refine⟨yN n ha hb h,?_⟩
 have e:=yP (R:=R) (hs:=hs) hn
 rw[← e,dU]at h
 exact(tH ((mU ha hb).mp h)).2
end
structure LX(n:Nat)(r:R7):Prop where
 a:r.2.2<n
 b:D.aY r.1=true
 c:∀d∈r.1,iN 2 d
 d:∀x∈r.2.1,iN 2 x.d
 e:r.2.1.length<=1000
structure oj(R:List (bS×List R7))(hs:List Str)(n:Nat):Prop where
 a:∀i,i<n->∀x∈hs,∃l,iU R (j6 i x)=some l
 b:∀q∈R,q.2.length<=100/\∀r∈q.2,LX n r
 c:(R.map (·.1)).Nodup
 d:R.length<=1000
 e:hs.length<=3
 f:1<=n/\n<=100
 g:∀x∈hs,PyData.strOk x=true
theorem V7{R:List (bS×α)}{l:α}(h:iU R k=some l):(k,l)∈R:=by
 induction R with
 | nil=>cases h
 | cons p R ih=>
   by_cases e:p.1=k
   . rw[kr e]at h
     cases h
     rw[← e]
     exact ama
   . rw[ku e]at h
     exact ame _ (ih h)
variable{R:List (bS×List R7)}{hs:List Str}
theorem oj.row(h:oj R hs n)(hi:i<n)(hx:x∈hs):iU R (j6 i x)=some (cV R i x)/\(cV R i x).length<=100/\∀r∈cV R i x,LX n r:=by
 obtain⟨l,hl⟩:=h.a i hi x hx
 have e:cV R i x=l:=by unfold cV;rw[hl];rfl
 rw[e]
 exact⟨hl,h.b _ (V7 hl)⟩
theorem kW{l:List R7}(h:iU R k=some l):iU (dX (fj R)) k=some (.lst (l.map qE)):=by
 induction R with
 | nil=>cases h
 | cons p R ih=>
   by_cases e:p.1=k
   . rw[kr e]at h
     cases h
     exact kr (p:=(p.1,L3.D.lst (p.2.map qE))) e
   . rw[ku e]at h
     exact(ku (p:=(p.1,L3.D.lst (p.2.map qE))) e).trans (ih h)
variable{r:R7}
theorem V8(h:LX n r):iN 4 (A2 r):=by
 refine .tup fun d hd=>?_
 simp only[ami,amw,ani]at hd
 rcases hd with rfl|rfl
 . exact .tup h.c
 . refine .tup fun d hd=>?_
   obtain⟨x,hx,rfl⟩:=amj.mp hd
   exact h.d x (anU.mp hx).1
theorem V9(h:LX n r):(A2 r).gA=true:=by
 show(D.aY r.1&&(D.aY ((r.2.1.filter It.told).map It.d)&&true))=true
 rw[h.b,cG]
 rfl
theorem gE{l:List R7}(h:∀r∈l,LX n r):iN 5 (.tup (l.map A2))/\D.aY (l.map A2)=true:=by
 refine⟨.tup fun d hd=>?_,iZ fun d hd=>?_⟩
 . obtain⟨r,hr,rfl⟩:=amj.mp hd
   exact V8 (h r hr)
 . obtain⟨r,hr,rfl⟩:=amj.mp hd
   exact V9 (h r hr)
theorem oY{k:Nat}(h:iN k d)(hm:k<=m):iN m d:=by
 induction h generalizing m with
 | int _ i=>exact .int _ i
 | str _ x hx=>exact .str _ x hx
 | @tup j ds _ ih=>
   obtain⟨m,rfl⟩:∃m',m=m'+1:=⟨m-1,by omega⟩
   exact .tup fun d hd=>ih d hd (by omega)
theorem oj.look(h:oj R hs n)(hi:i<n):iN 6 (.tup (kD R hs i))/\D.aY (kD R hs i)=true:=by
 refine⟨.tup fun d hd=>?_,iZ fun d hd=>?_⟩
 . obtain⟨x,hx,rfl⟩:=amj.mp hd
   exact(gE (h.row hi hx).2.2).1
 . obtain⟨x,hx,rfl⟩:=amj.mp hd
   exact(gE (h.row hi hx).2.2).2
theorem QI(l:List Nat):iN 1 (.tup ((dF l).map .int)):=.tup fun d hd=>by
 obtain⟨i,_,rfl⟩:=amj.mp hd
 exact .int 0 i
theorem Wa(F:List Nat)(i:Nat):iN 8 (.tup (Cg R hs F i)):=.tup fun d hd=>by
 unfold Cg at hd
 simp only[ami,amw,ani]at hd
 rcases hd with rfl|rfl
 . exact .int _ _
 . exact oY (QI _) (by decide)
def fcO:L3.D->L3.D
 | .tup [a,.tup ds,_]=>.tup [a,.tup (ds.filter fun d=>!decide (d.BK.toS∈cK))]
 | d=>d
theorem QJ(r:R7):fcO (qE r)=A2 r:=by
 show L3.D.tup [.tup r.1,.tup ((r.2.1.map It.d).filter fun d=>!decide (d.BK.toS∈cK))]=_
 have e:((fun d:L3.D=>!decide (d.BK.toS∈cK))∘It.d)=It.told:=by
   funext x
   show(!decide (x.sj.w∈cK))=x.told
   rw[sX,Bool.not_not]
 rw[an6,e]
 rfl
theorem abj(h:oj R hs n)(hi:i<n)(hx:x∈hs)(hF:F.length=n):∀r∈cV R i x,rW ((dF F).map L3.D.int) (r.2.2:Nat)=some (.int (F.getD r.2.2 0:Nat)):=fun r hr=>lC (by rw[hF];exact((h.row hi hx).2.2 r hr).a)
theorem Wb(a b:List Nat):dF (a++b)=dF a++dF b:=by unfold dF;rw[ams]
theorem gO(a:List Nat):(dF a).length=a.length:=by unfold dF;rw[al8]
theorem mX(l:List Nat):D.aY ((dF l).map .int)=true:=D6 _
theorem ah6{ks:List L3.D}(h:∀d∈ks,iN 8 d)(hl:ks.length<=1000):Gm (unq (ks.take j)) where
 n:=fun d hd=>h d (anD (cU.mp hd))
 d:=Qz _
 l:=am9 (Jy _) (by rw[amY];omega)
theorem tL(f:Nat->Int):∀k,PyProof.Rows.firstMet f k=unq ((List.range k).map f)
 | 0=>rfl
 | k+1=>by
   rw[PyProof.Rows.firstMet_succ,tL f k,ane,ams,aou,dS]
   unfold PyProof.Rows.step_dedup
   by_cases h:f k∈unq ((List.range k).map f)
   . rw[if_pos h,if_pos (by simpa using h)]
   . rw[if_neg h,if_neg (by simpa using h)]
theorem Gu(F:List Nat):(PyProof.Rows.firstMet (fun i=>(dF F).getD i 0) (dF F).length).length=cn F:=by
 rw[tL,gO]
 have e:(List.range F.length).map (fun i=>(dF F).getD i 0)=dF F:=by
   apply an8
   intro i
   by_cases hi:i<F.length
   . rw[amg,amZ hi]
     show some ((dF F).getD i 0)=_
     rw[amb,al9 (by rw[gO];exact hi)]
     rfl
   . rw[am3 (by rw[al8,amv];omega),am3 (by rw[gO];omega)]
 rw[e]
 unfold cn
 have p:wC (dF F) F/\wC F (dF F):=by
   have at_:∀{i:Nat} {c:Int},(dF F)[i]? = some c->∃d,F[i]? = some d/\c=(d:Int):=fun {i c} h=>by
     unfold dF at h
     rw[amg]at h
     obtain⟨d,h1,h2⟩:=amG.mp h
     exact⟨d,h1,h2.symm⟩
   refine⟨⟨gO F,fun i j a b c d ha hb hc hd e=>?_⟩,⟨(gO F).symm,fun i j a b c d ha hb hc hd e=>?_⟩⟩
   . obtain⟨a',h1,rfl⟩:=at_ ha
     obtain⟨b',h2,rfl⟩:=at_ hb
     rw[hc]at h1
     rw[hd]at h2
     cases h1
     cases h2
     omega
   . obtain⟨c',h1,rfl⟩:=at_ hc
     obtain⟨d',h2,rfl⟩:=at_ hd
     rw[ha]at h1
     rw[hb]at h2
     cases h1
     cases h2
     rw[e]
 exact(p.1.num p.2).2
theorem Wc(R:List (bS×List R7))(hs:List Str)(F:List Nat)(a:Nat):D.aY (Cg R hs F a)=true:=by
 show(true&&(D.aY ((dF (tG R hs F a)).map L3.D.int)&&true))=true
 rw[mX]
 rfl
theorem Gv(h:D.aY r.1=true):(qE r).gA=true:=by
 show(D.aY r.1&&(D.aY (r.2.1.map It.d)&&(true&&true)))=true
 rw[h,cG]
 rfl
def Wd(r:R7):T:=.tup [.sh (.tup r.1),.lst (((r.2.1.filter It.told).map It.d).map T.sh)]
def A3(r:R7):L3.D:=.tup [.tup r.1,.lst ((r.2.1.filter It.told).map It.d)]
def fgO:L3.D->T
 | .tup [a,.tup ds,_]=>.tup [.sh a,.lst ((ds.filter fun d=>!decide (d.BK.toS∈cK)).map T.sh)]
 | d=>.sh d
theorem QK(r:R7):fgO (qE r)=Wd r:=by
 show T.tup [.sh (.tup r.1),.lst (((r.2.1.map It.d).filter fun d=>!decide (d.BK.toS∈cK)).map T.sh)]=_
 have e:((fun d:L3.D=>!decide (d.BK.toS∈cK))∘It.d)=It.told:=by
   funext x
   show(!decide (x.sj.w∈cK))=x.told
   rw[sX,Bool.not_not]
 rw[an6,e]
 rfl
theorem JB(l:List R7):(T.lst (l.map Wd)).bP=.lst (l.map A3):=by
 rw[T.bP]
 congr 1
 induction l with
 | nil=>show T.dM []=[];rw[T.dM]
 | cons r l ih=>show T.dM (Wd r::l.map Wd)=A3 r::l.map A3;rw[T.dM,ih];unfold Wd A3;rw[T.bP,T.dM,T.dM,T.dM,gD,T.bP]
theorem A4{l:List R7}(h:∀r∈l,LX n r):(T.lst (l.map Wd)).clean=true:=by
 rw[T.clean]
 refine Cb fun t ht=>?_
 obtain⟨r,hr,rfl⟩:=amj.mp ht
 unfold Wd
 rw[T.clean,T.cR,T.cR,T.cR,T.clean,aS (cG _)]
 show(D.aY r.1&&(true&&true))=true
 rw[(h r hr).b]
 rfl
structure Gw(bs:List (Str×Int))(hs:List Str)(bg:List It)(pr:List L3.D)(R:List (bS×List R7)):Prop where
 t:oj R hs pr.length
 b:∀q∈bs,PyData.strOk q.1=true
 g:∀x∈bg,iN 2 x.d
 p:∀d∈pr,iN 3 d
 i:D.aY pr=true
theorem Wf{k:Nat}(h:iN k d)(hk:k<=59):jH 59 d:=(oY h hk).dep
theorem abk(h:LX n r):iN 4 (qE r):=by
 refine .tup fun d hd=>?_
 simp only[ami,amw,ani]at hd
 rcases hd with rfl|rfl|rfl
 . exact .tup h.c
 . refine .tup fun d hd=>?_
   obtain⟨x,hx,rfl⟩:=amj.mp hd
   exact h.d x hx
 . exact .int _ _
variable{bs:List (Str×Int)}{bg:List It}
theorem Gw.d0(h:Gw bs hs bg pr R):jH 60 (.lst (bs.map dR)):=.lst fun d hd=>by
 obtain⟨q,hq,rfl⟩:=amj.mp hd
 refine Wf (k:=1) (.tup fun d hd=>?_) (by decide)
 simp only[ami,amw,ani]at hd
 rcases hd with rfl|rfl
 . exact .str _ _ (h.b q hq)
 . exact .int _ _
theorem Gw.d1(h:Gw bs hs bg pr R):jH 60 (.lst (hs.map .str)):=.lst fun d hd=>by
 obtain⟨q,hq,rfl⟩:=amj.mp hd
 exact .str _ _ (h.t.g q hq)
theorem Gw.d2(h:Gw bs hs bg pr R):jH 60 (.tup (bg.map It.d)):=.tup fun d hd=>by
 obtain⟨x,hx,rfl⟩:=amj.mp hd
 exact Wf (h.g x hx) (by decide)
theorem Gw.d3(h:Gw bs hs bg pr R):jH 60 (.lst pr):=.lst fun d hd=>Wf (h.p d hd) (by decide)
theorem Gw.d4(h:Gw bs hs bg pr R):∀q∈dX (fj R),jH 60 q.2:=fun q hq=>by
 obtain⟨p,hp,rfl⟩:=amj.mp hq
 obtain⟨z,hz,rfl⟩:=amj.mp hp
 refine .lst fun d hd=>?_
 obtain⟨r,hr,rfl⟩:=amj.mp hd
 exact Wf (abk ((h.t.b z hz).2 r hr)) (by decide)
theorem aeV{a c:L3.D}(h:jH 60 a)(g:jH 60 c)(k:jH 60 d):¬ (!rY a a || (!rY c c || !rY d d))=true:=by rw[lR h,lR g,lR k];decide
theorem Wg(h:cE F=F)(hc:F[j]? = some c):c<=(unq (F.take j)).length/\max (unq (F.take j)).length (c+1)=(unq (F.take (j+1))).length:=by
 have e0:(unq F).idxOf c=c:=by
   have e:=congrArg (·[j]?) h
   simp only[cE,amg,hc]at e
   exact amA e
 have e1:F.take (j+1)=F.take j++[c]:=by rw[anh,hc];rfl
 have e2:(unq (F.take (j+1))).idxOf c=c:=by
   rw[← QB (m:=F.drop (j+1)) (by rw[e1];simp),anp]
   exact e0
 rw[e1,dS]at e2 ⊢
 by_cases hm:c∈unq (F.take j)
 . rw[amx hm]at e2 ⊢
   have:=amT.mpr hm
   rw[e2]at this
   omega
 . rw[amq hm]at e2 ⊢
   rw[anT,amq hm,aoE]at e2
   rw[amn]
   show c<=_/\max _ (c+1)=_+1
   omega
theorem kE{α β:Type}{f g:α->List β}:∀{l:List α},(∀x∈l,(f x).length=(g x).length)->l.flatMap f=l.flatMap g->∀x∈l,f x=g x
 | [],_,_,_,h=>by cases h
 | y::l,hl,e,x,hx=>by
   rw[List.flatMap_cons,List.flatMap_cons]at e
   obtain⟨e1,e2⟩:=List.append_inj e (hl y ama)
   rcases ami.mp hx with rfl|hx
   . exact e1
   . exact kE (fun z hz=>hl z (ame _ hz)) e2 x hx
theorem QL(h1:kD R hs a=kD R hs c)(h2:tG R hs F a=tG R hs F c)(hx:x∈hs):(cV R a x).map A3=(cV R c x).map A3/\((cV R a x).map fun r=>F.getD r.2.2 0)=(cV R c x).map fun r=>F.getD r.2.2 0:=by
 have hr:=mW h1
 refine⟨?_,kE (fun y hy=>by have:=congrArg List.length (hr y hy);simpa using this) h2 x hx⟩
 have key:∀l m:List R7,l.map A2=m.map A2->l.map A3=m.map A3:=by
   intro l
   induction l with
   | nil=>intro m e;cases m with
     | nil=>rfl
     | cons _ _=>cases e
   | cons r l ih=>intro m e;cases m with
     | nil=>cases e
     | cons q m=>
       injection e with e1 e2
       unfold A2 at e1
       injection e1 with e1
       injection e1 with e3 e1
       injection e1 with e4 _
       injection e4 with e4
       show A3 r::l.map A3=A3 q::m.map A3
       rw[ih m e2]
       unfold A3
       rw[e3,e4]
 exact key _ _ (hr x hx)
theorem QM(h:LX n r):jH 59 (A3 r):=by
 refine .tup fun d hd=>?_
 simp only[ami,amw,ani]at hd
 rcases hd with rfl|rfl
 . exact .tup fun d hd=>(oY (h.c d hd) (by decide:2<=57)).dep
 . refine .lst fun d hd=>?_
   obtain⟨x,hx,rfl⟩:=amj.mp hd
   exact(oY (h.d x (anU.mp hx).1) (by decide:2<=57)).dep
def nums(ds:List L3.D):List L3.D:=(List.range ds.length).map fun(i:Nat)=>L3.D.int (i:Nat)
theorem LY(ds:List L3.D)(k:L3.D):nums (ds++[k])=nums ds++[.int (ds.length:Nat)]:=by
 unfold nums
 rw[amn,aoz,ane,ams]
 rfl
theorem Wh{ds:List L3.D}{k:L3.D}(h:k∈ds):(nums ds)[ds.idxOf k]? = some (.int (ds.idxOf k:Nat)):=by
 unfold nums
 rw[amg,amZ (amT.mpr h)]
 rfl
theorem Wi(h:PyData.strOk x=true)(l k:Option Int):PyData.strOk (Txt.slice x l k)=true:=by
 unfold Txt.slice
 split
 . exact h
 . unfold PyData.strOk at *
   rw[List.all_toArray,aok]
   intro c hc
   obtain⟨i,_,hi⟩:=List.mem_filterMap.mp hc
   rw[← Array.all_toList,aok]at h
   exact h c (by rw[← aog]at hi;exact amt hi)
theorem QN{y:Str}(h:PyData.strOk x=true)(g:PyData.strOk y=true):PyData.strOk (x++y)=true:=by
 unfold PyData.strOk at *
 show(x.cps++y.cps).all _=true
 rw[Array.all_append,h,g]
 rfl
theorem YK{l:List Str}(h:∀x∈l,PyData.strOk x=true)(k:Nat):PyData.strOk (l.getD k Str.empty)=true:=by
 rw[amb]
 cases e:l[k]? with
 | none=>show PyData.strOk Str.empty=true;decide +kernel
 | some x=>exact h x (amt e)
theorem Gy(s:List Int):∀x∈jF s,PyData.strOk x=true:=fun x hx=>by
 have hb:PyData.strOk (wA s)=true:=Wi (BZ _) _ _
 have h:x∈rB s:=by
   unfold jF at hx
   rcases amr.mp (anD hx) with z|z
   . exact List.mem_of_mem_drop z
   . exact anD z
 unfold rB at h
 simp only[ami,amw,ani]at h
 rcases h with rfl|rfl|rfl
 . exact QN hb (by decide +kernel)
 . exact QN hb (by decide +kernel)
 . exact QN hb (by decide +kernel)
def DeS:sU->Prop
 | .call x=>PyData.strOk x=true
 | .say x _ _=>PyData.strOk x=true
 | .put _ _ _=>True
def ItS:It->Prop
 | .iV q=>DeS q
 | _=>True
theorem uX{a c:Int}:iN (n+1) (.tup [.int a,.int c]):=.tup fun d hd=>by
 simp only[ami,amw,ani]at hd
 rcases hd with rfl|rfl
 . exact .int _ _
 . exact .int _ _
theorem Ci{x:It}(h:ItS x):iN 2 x.d:=by
 cases x with
 | out m=>
   show iN 2 (.tup [.str "out",.int m])
   refine .tup fun d hd=>?_
   simp only[ami,amw,ani]at hd
   rcases hd with rfl|rfl
   . exact .str _ _ (by decide +kernel)
   . exact .int _ _
 | keep m p q=>
   show iN 2 (.tup [.str "keep",.int m,.int p,.int q])
   refine .tup fun d hd=>?_
   simp only[ami,amw,ani]at hd
   rcases hd with rfl|rfl|rfl|rfl
   . exact .str _ _ (by decide +kernel)
   . exact .int _ _
   . exact .int _ _
   . exact .int _ _
 | way i=>
   show iN 2 (.tup [.str "way",.int i])
   refine .tup fun d hd=>?_
   simp only[ami,amw,ani]at hd
   rcases hd with rfl|rfl
   . exact .str _ _ (by decide +kernel)
   . exact .int _ _
 | yq m=>
   show iN 2 (.tup [.str "in",.int m])
   refine .tup fun d hd=>?_
   simp only[ami,amw,ani]at hd
   rcases hd with rfl|rfl
   . exact .str _ _ (by decide +kernel)
   . exact .int _ _
 | iV q=>
   cases q with
   | put x c m=>
     show iN 2 (.tup [.str "put",.int x,.tup [.int c,.int m]])
     refine .tup fun d hd=>?_
     simp only[ami,amw,ani]at hd
     rcases hd with rfl|rfl|rfl
     . exact .str _ _ (by decide +kernel)
     . exact .int _ _
     . exact uX
   | call y=>
     show iN 2 (.tup [.str "call",.str y])
     refine .tup fun d hd=>?_
     simp only[ami,amw,ani]at hd
     rcases hd with rfl|rfl
     . exact .str _ _ (by decide +kernel)
     . exact .str _ _ h
   | say y c m=>
     show iN 2 (.tup [.str "say",.str y,.tup [.int c,.int m]])
     refine .tup fun d hd=>?_
     simp only[ami,amw,ani]at hd
     rcases hd with rfl|rfl|rfl
     . exact .str _ _ (by decide +kernel)
     . exact .str _ _ h
     . exact uX
theorem QO{c:Int}(h:∀x∈hh,PyData.strOk x=true):DeS (wu c m hh):=by
 unfold wu
 split
 . refine YK (fun x hx=>?_) _
   rcases amr.mp hx with z|z
   . exact h x z
   . rw[amM.mp z];exact BZ _
 . split
   . exact BZ _
   . exact trivial
theorem JC{w:Str}{a c d e:Int}(h:PyData.strOk w=true):iN 2 (.tup [.str w,.tup [.int a,.int c],.tup [.int d,.int e]]):=.tup fun x hx=>by
 simp only[ami,amw,ani]at hx
 rcases hx with rfl|rfl|rfl
 . exact .str _ _ h
 . exact uX
 . exact uX
theorem Wj:∀x∈VN,PyData.strOk x=true:=by decide +kernel
def Fs7(r:F7):Prop:=(∀d∈r.1,iN 2 d)/\∀x∈r.2,ItS x
section
variable{cl:Bool}
theorem YL(h:∀x∈hh,PyData.strOk x=true):∀r∈LK s p t m hh cl,Fs7 r:=fun r hr=>by
 rcases amr.mp hr with z|z
 . obtain⟨k,_,rfl⟩:=amj.mp z
   refine⟨fun d hd=>?_,fun x hx=>?_⟩
   . obtain⟨a,_,rfl⟩:=amj.mp hd
     exact JC (YK Wj _)
   . obtain⟨a,_,rfl⟩:=amj.mp hx
     exact QO h
 . unfold fr2 at z
   split at z
   . rw[amM.mp z]
     refine⟨(fun d hd=>by cases hd),fun x hx=>?_⟩
     rw[amM.mp (anD hx)]
     exact QO h
   . cases z
theorem QS(h:∀x∈hh,PyData.strOk x=true):∀r∈mS s p t m hh cl,Fs7 r:=by
 unfold mS
 split
 . exact YL h
 . exact YL h
theorem JD(h:∀x∈hh,PyData.strOk x=true):∀r∈vU s p t m hh cl,Fs7 r:=fun r hr=>by
 unfold vU at hr
 split at hr
 . rename_i ha
   have ha:=(amI _ _▸ha).1
   rcases anI hr with z|z
   . exact QS h r z
   . rw[z]
     have hp:0<(mS s p t m hh cl).length:=by unfold mS;rw[amx ha];exact xh ..
     obtain⟨a,c⟩:Fs7 ((mS s p t m hh cl).getD ((mS s p t m hh cl).length-1) oz):=QS h _ (jB (l:=mS s p t m hh cl) (by omega))
     refine⟨a,fun x hx=>?_⟩
     rcases amr.mp hx with z|z
     . exact c x z
     . rw[amM.mp z]
       show PyData.strOk "odd0" = true
       decide +kernel
 . exact QS h r hr
theorem JF:iN 2 (rC t):=JC (by decide +kernel)
theorem aeW(h:∀x∈hh,PyData.strOk x=true):∀r∈AZ s p t m hh cl,Fs7 r:=fun r hr=>by
 unfold AZ wB at hr
 split at hr
 . split at hr
   . rename_i hl
     rcases anI hr with z|z
     . exact JD h r z
     . rw[z]
       obtain⟨a,c⟩:Fs7 ((vU s p t m hh cl).getD 0 oz):=JD h _ (jB (l:=vU s p t m hh cl) (by omega))
       refine⟨fun d hd=>?_,c⟩
       rcases ami.mp hd with rfl|hd
       . exact JF
       . exact a d hd
   . rcases ami.mp hr with z|z
     . rw[z]
       refine⟨fun d hd=>?_,fun x hx=>by cases hx⟩
       rw[amM.mp hd]
       exact JF
     . exact JD h r z
 . exact JD h r hr
end
theorem aeX{l:List It}{to:Nat}(h:∀x∈l,ItS x):∀x∈M6 l f n to,ItS x:=fun x hx=>by
 unfold M6 at hx
 split at hx
 . exact h x hx
 . simp only[amr,ami,amw,ani]at hx
   rcases hx with((((rfl|rfl)|z)|rfl)|z)|rfl
   . exact trivial
   . exact trivial
   . exact h x (anD z)
   . exact trivial
   . exact h x (List.mem_of_mem_drop z)
   . exact trivial
theorem Wk{l:List It}{to:Nat}(h:l.length<=4):(M6 l f n to).length<=1000:=by
 unfold M6
 split
 . omega
 . rw[amn,amn,amn,amn,amY,aod]
   show 2+_+1+_+1<=1000
   omega
theorem Cj{β:Type}{f:Nat->β}:∀{n:Nat},(∀i,i<n->∀j,j<n->f i=f j->i=j)->((List.range n).map f).Nodup
 | 0,_=>ang
 | n+1,h=>by
   rw[ane,ams,amK]
   refine⟨Cj fun i hi j hj=>h i (by omega) j (by omega),aob _ _,fun x hx y hy e=>?_⟩
   obtain⟨i,hi,rfl⟩:=amj.mp hx
   have hi:=amH.mp hi
   have ey:y=f n:=amM.mp hy
   rw[ey]at e
   have:=h i (by omega) n (by omega) e
   omega
theorem Wm{R:List (bS×α)}(h:k∈R.map (·.1)):∃l,iU R k=some l:=by
 induction R with
 | nil=>cases h
 | cons p R ih=>
   by_cases e:p.1=k
   . exact⟨_,kr e⟩
   . rw[ku e]
     rw[amB]at h
     rcases ami.mp h with z|z
     . exact absurd z.symm e
     . exact ih z
theorem ah7(s:List Int)(h:q<=100):1<=n7 s q/\n7 s q<=100:=by unfold n7;omega
theorem abl(s:List Int)(hq:q<=100)(cl:Bool):oj (M7 s q cl) (jF s) (n7 s q):=by
 have hb:=ah7 s hq
 have hl:=Jt s
 have Yi:=Gs s
 have hml:n7 s q*(jF s).length<=100*3:=aoj hb.2 hl
 have hbn:=Qw s
 have dm:∀i,i<n7 s q*(jF s).length->i / (jF s).length<n7 s q/\i % (jF s).length<(jF s).length:=fun i hi=>by
   have hp:0<(jF s).length:=by
     rcases aot (jF s).length with z|z
     . rw[z,Nat.mul_zero]at hi;omega
     . exact z
   exact⟨(Nat.div_lt_iff_lt_mul hp).mpr hi,aow _ hp⟩
 refine⟨fun i hi x hx=>?_,fun z hz=>?_,?_,?_,hl,hb,Gy s⟩
 . obtain⟨t,ht⟩:=anj.mp hx
   have Wn:=(amf.mp ht).1
   have ex:(jF s).getD t Str.empty=x:=by rw[amb,ht];rfl
   refine Wm ?_
   unfold M7 Ca
   rw[amy]
   refine amj.mpr ⟨i*(jF s).length+t,amH.mpr ?_,?_⟩
   . have:(i+1)*(jF s).length<=n7 s q*(jF s).length:=aoF _ hi
     rw[aoK,aoL]at this
     omega
   . show j6 _ _=_
     rw[(Ju Wn).1,(Ju Wn).2,ex]
 . unfold M7 Ca at hz
   obtain⟨i,hi,rfl⟩:=amj.mp hz
   obtain⟨d1,d2⟩:=dm i (amH.mp hi)
   generalize i / (jF s).length=f at d1 ⊢
   generalize i % (jF s).length=t at d2 ⊢
   have AU:=Jw s q
   have hk:(uC s q).getD f 0<zM s:=Qx s q _ (jB (by omega))
   have hix:(uC s q).getD f 0*3+t<3*zM s:=by omega
   have zX:=Qy (cl:=cl) hix
   have eF:(Fl s cl).getD ((uC s q).getD f 0*3+t) []=AZ s (((uC s q).getD f 0*3+t) / 3) (((uC s q).getD f 0*3+t) % 3) (xo s).length (jF s) cl:=by rw[amb,zX];rfl
   show(Tz s (uC s q) f t ((Fl s cl).getD ((uC s q).getD f 0*3+t) [])).length<=100/\∀r∈Tz s (uC s q) f t ((Fl s cl).getD ((uC s q).getD f 0*3+t) []),LX (n7 s q) r
   rw[eF]
   have g1:=Jp s (((uC s q).getD f 0*3+t) / 3) (((uC s q).getD f 0*3+t) % 3) (xo s).length (jF s) cl
   have g2:=aeW (s:=s) (p:=((uC s q).getD f 0*3+t) / 3) (t:=((uC s q).getD f 0*3+t) % 3) (m:=(xo s).length) (hh:=jF s) (cl:=cl) (Gy s)
   have g3:=Qq (s:=s) (p:=((uC s q).getD f 0*3+t) / 3) (t:=((uC s q).getD f 0*3+t) % 3) (m:=(xo s).length) (hh:=jF s) (cl:=cl)
   have g4:=B9 (s:=s) (p:=((uC s q).getD f 0*3+t) / 3) (t:=((uC s q).getD f 0*3+t) % 3) (m:=(xo s).length) (hh:=jF s) (cl:=cl)
   generalize AZ s (((uC s q).getD f 0*3+t) / 3) (((uC s q).getD f 0*3+t) % 3) (xo s).length (jF s) cl=fs at g1 g2 g3 g4 ⊢
   unfold Tz T3
   refine⟨by rw[al8,amv];omega,fun r hr=>?_⟩
   obtain⟨i,hi,rfl⟩:=amj.mp hr
   have hm:fs.getD i oz∈fs:=jB (amH.mp hi)
   exact⟨by rw[← AU];exact abg _ _ _ _ _ (by omega),g4 _ hm,(g2 _ hm).1,fun x hx=>Ci (aeX (g2 _ hm).2 x hx),Wk (g3 _ hm).2⟩
 . unfold M7 Ca
   rw[amy]
   refine Cj fun i hi j hj e=>?_
   have hi:=dm i hi
   have hj:=dm j hj
   obtain⟨e1,e2⟩:=pS e
   have e3:=getD_inj Yi hi.2 hj.2 e2
   rw[← anB i (jF s).length,← anB j (jF s).length,e1,e3]
 . unfold M7 Ca
   rw[al8,amv]
   omega
theorem Wo(s:List Int)(a m:Nat):iN 3 (Qt s a m):=by
 unfold Qt
 refine .tup fun d hd=>?_
 simp only[ami,amw,ani]at hd
 rcases hd with rfl|rfl
 . split
   . refine .tup fun d hd=>?_
     simp only[ami,amw,ani]at hd
     rcases hd with rfl|rfl|rfl
     . exact .int _ _
     . exact .int _ _
     . exact .int _ _
   . exact uX
 . refine .tup fun d hd=>?_
   rcases ami.mp hd with rfl|hd
   . exact .int _ _
   . rw[aoX hd];exact .int _ _
theorem JG(s:List Int)(q:Nat):(VZ s q).length=n7 s q:=by unfold VZ;rw[al8,amv]
theorem abm(s:List Int)(hq:q<=100)(cl:Bool):Gw (xo s) (jF s) (V0 s) (VZ s q) (M7 s q cl) where
 t:=by rw[JG];exact abl s hq cl
 b:=fun z hz=>by
   obtain⟨k,hk,rfl⟩:=amj.mp hz
   have hk:=amH.mp hk
   exact(Jv k (by omega)).1.2
 g:=fun x hx=>by
   unfold V0 at hx
   simp only[ami,amw,ani]at hx
   rcases hx with rfl|rfl|rfl
   . exact Ci trivial
   . exact Ci trivial
   . exact Ci (QO (Gy s))
 p:=fun d hd=>by
   obtain⟨k,_,rfl⟩:=amj.mp hd
   exact Wo _ _ _
 i:=vW fun k _=>Jx _ _ _
theorem kF(h:oj R hs n):∀q∈fj R,D.aY q.2=true:=fun q hq=>by
 obtain⟨p,hp,rfl⟩:=amj.mp hq
 exact vW fun r hr=>Gv ((h.b p hp).2 r hr).b
theorem LZ(h:Gw bs hs bg pr R):(pt7 bs hs bg pr R).clean=true:=by
 unfold pt7
 rw[T.clean,T.cR,T.cR,T.cR,T.cR,T.cR,T.cR,aS (jm (fun _=>rfl) _),aS (dg _),aS h.i,T.clean,T.clean,vS (kF h.t),D.gA,cG]
 rfl
theorem L1(h:Gw bs hs bg pr R):(T.ins "Table" (qC (bs.map dR) (hs.map .str) (bg.map It.d) pr (fj R))).clean=true:=by
 rw[T.clean]
 exact mP (jm (fun _=>rfl) _) (dg _) (cG _) h.i (kF h.t)
theorem A5{F:List Nat}(h:cE F=F):∀j,j<=F.length->(List.range j).filter (fun i=>decide (F.idxOf (F.getD i 0)=i))=(List.range (unq (F.take j)).length).map fun c=>F.idxOf c
 | 0,_=>rfl
 | j+1,hj=>by
   have hc:F[j]? = some (F.getD j 0):=by rw[amb,al9 (by omega)];rfl
   obtain⟨r1,r2⟩:=Wg h hc
   have ih:=A5 h j (by omega)
   rw[ane,List.filter_append,ih]
   have e1:F.take (j+1)=F.take j++[F.getD j 0]:=by rw[anh,hc];rfl
   by_cases hm:F.getD j 0∈F.take j
   . have hl:F.idxOf (F.getD j 0)<j:=by
       have:F.idxOf (F.getD j 0)=(F.take j).idxOf (F.getD j 0):=by
         conv=>lhs;rw[← anp j F]
         rw[anT,amx (by rw[anp];exact hm),anp]
       rw[this]
       have:=amT.mpr hm
       rw[amY]at this
       omega
     rw[e1,dS,amx (cU.mpr hm),ao3 (by rw[decide_eq_true_iff];omega),List.filter_nil,amQ]
   . have hx:F.idxOf (F.getD j 0)=j:=by
       have h1:(F.take (j+1)).idxOf (F.getD j 0)=j:=by
         rw[e1,anT,amq hm,aoE,amY]
         omega
       conv=>lhs;rw[← anp (j+1) F]
       rw[anT,amx (by rw[anp,e1];simp),anp]
       exact h1
     have hu:F.getD j 0∉unq (F.take j):=fun z=>hm (cU.mp z)
     have hv:F.getD j 0=(unq (F.take j)).length:=by
       rw[e1,dS,amq hu,amn]at r2
       have r2:max (unq (F.take j)).length (F.getD j 0+1)=(unq (F.take j)).length+1:=r2
       omega
     rw[e1,dS,amq hu,amn]
     show _=(List.range ((unq (F.take j)).length+1)).map _
     rw[ane,ams,← hv,List.filter_cons_of_pos (by rw[decide_eq_true_iff];exact hx),List.filter_nil]
     show _=_++[F.idxOf (F.getD j 0)]
     rw[hx]
section
variable(h:cE F=F)
include h
theorem Gz:(List.range F.length).filter (fun i=>decide (F.idxOf (F.getD i 0)=i))=(List.range (cn F)).map fun c=>F.idxOf c:=by
 rw[A5 h F.length (aml _),anE]
 rfl
theorem Ck(ha:a<F.length):F.getD a 0<cn F:=by
 have hm:F.getD a 0∈F:=jB ha
 have hm:F.getD a 0∈cE F:=h.symm▸hm
 exact QC hm
theorem uY(hc:c<cn F):F.idxOf c<F.length/\F.getD (F.idxOf c) 0=c:=by
 have hm:c∈F:=by
   rw[← h]
   exact JA hc
 have hl:=amT.mpr hm
 refine⟨hl,?_⟩
 rw[amb,al9 hl]
 exact anO hl
end
def L4(F:List Nat)(l:List R7):List R7:=l.map fun r=>(r.1,r.2.1.filter It.told,F.getD r.2.2 0)
def kP(R:List (bS×List R7))(hs:List Str)(F:List Nat)(n:Nat):List (bS×List R7):=(List.range n).map fun(i:Nat)=>(j6 (i / hs.length) (hs.getD (i % hs.length) Str.empty),L4 F (cV R (F.idxOf (i / hs.length)) (hs.getD (i % hs.length) Str.empty)))
def GA(pr:List L3.D)(F:List Nat):List L3.D:=(List.range (cn F)).map fun(c:Nat)=>pr.getD (F.idxOf c) .non
theorem QT(R:List (bS×List R7))(hs:List Str)(F:List Nat)(h:t<hs.length):kP R hs F (j*hs.length+t+1)=kP R hs F (j*hs.length+t)++[(j6 j (hs.getD t Str.empty),L4 F (cV R (F.idxOf j) (hs.getD t Str.empty)))]:=by
 unfold kP
 rw[ane,ams,aou,(Ju h).1,(Ju h).2]
theorem Wq(R:List (bS×List R7))(F:List Nat)(nd:hs.Nodup)(h:t<hs.length):j6 j (hs.getD t Str.empty)∉(kP R hs F (j*hs.length+t)).map (·.1):=fun hm=>by
 unfold kP at hm
 rw[amy]at hm
 obtain⟨i,hi,e⟩:=amj.mp hm
 have hi:=amH.mp hi
 obtain⟨e1,e2⟩:=pS e
 have e3:=getD_inj nd (aow i (by omega)) h e2
 have e1:i / hs.length=j:=e1
 have e3:i % hs.length=t:=e3
 have:=anB i hs.length
 rw[e1,e3,aoV]at this
 omega
theorem dm7{k H:Nat}:∀i,i<k*H->i / H<k/\i % H<H:=fun i hi=>by
 have hp:0<H:=by
   rcases aot H with z|z
   . rw[z,Nat.mul_zero]at hi;omega
   . exact z
 exact⟨(Nat.div_lt_iff_lt_mul hp).mpr hi,aow _ hp⟩
theorem QV(nd:hs.Nodup)(k:Nat):((kP R hs F (k*hs.length)).map (·.1)).Nodup:=by
 unfold kP
 rw[amy]
 refine Cj fun i hi j hj e=>?_
 have hi:=dm7 i hi
 have hj:=dm7 j hj
 obtain⟨e1,e2⟩:=pS e
 have e3:=getD_inj nd hi.2 hj.2 e2
 rw[← anB i hs.length,← anB j hs.length,e1,e3]
theorem JH(nd:hs.Nodup){k:Nat}(hc:c<k)(ht:t<hs.length):iU (kP R hs F (k*hs.length)) (j6 c (hs.getD t Str.empty))=some (L4 F (cV R (F.idxOf c) (hs.getD t Str.empty))):=by
 refine B3 (QV nd k) (j:=c*hs.length+t) ?_
 have hi:c*hs.length+t<k*hs.length:=by
   have:(c+1)*hs.length<=k*hs.length:=aoF _ hc
   rw[aoK,aoL]at this
   omega
 unfold kP
 rw[amg,amZ hi]
 show some (j6 ((c*hs.length+t) / hs.length) _,L4 F (cV R (F.idxOf ((c*hs.length+t) / hs.length)) _))=_
 rw[(Ju ht).1,(Ju ht).2]
theorem QW(hx:x∈hs):∃t,t<hs.length/\hs.getD t Str.empty=x:=by
 obtain⟨t,ht⟩:=anj.mp hx
 exact⟨t,(amf.mp ht).1,by rw[amb,ht];rfl⟩
theorem JK(nd:hs.Nodup){k:Nat}(hc:c<k)(hx:x∈hs):cV (kP R hs F (k*hs.length)) c x=L4 F (cV R (F.idxOf c) x):=by
 obtain⟨t,ht,rfl⟩:=QW hx
 unfold cV
 rw[JH nd hc ht]
 rfl
theorem QX(l:List It):(l.filter It.told).filter It.told=l.filter It.told:=by
 rw[List.filter_filter]
 congr 1
 funext x
 exact Bool.and_self _
theorem oj.least(h:oj R hs n)(nd:hs.Nodup)(hF:cE F=F)(hl:F.length=n):oj (kP R hs F (cn F*hs.length)) hs (cn F):=by
 have f1:=h.f
 have c1:1<=cn F:=by
   have:=Ck hF (a:=0) (by omega)
   omega
 have c2:cn F<=n:=by
   have:=A1 (n:=n) F (by omega)
   rw[hF]at this
   exact this
 refine⟨fun i hi x hx=>?_,fun q hq=>?_,QV nd _,?_,h.e,⟨c1,by omega⟩,h.g⟩
 . obtain⟨t,ht,rfl⟩:=QW hx
   exact⟨_,JH nd hi ht⟩
 . unfold kP at hq
   obtain⟨i,hi,rfl⟩:=amj.mp hq
   obtain⟨d1,d2⟩:=dm7 i (amH.mp hi)
   obtain⟨a1,_⟩:=uY hF d1
   have hx:hs.getD (i % hs.length) Str.empty∈hs:=jB d2
   obtain⟨_,q2,q3⟩:=h.row (by rw[← hl];exact a1) hx
   refine⟨by show(L4 _ _).length<=100;unfold L4;rw[al8];exact q2,fun r hr=>?_⟩
   obtain⟨r0,hr0,rfl⟩:=amj.mp hr
   have w:=q3 r0 hr0
   exact⟨Ck hF (by rw[hl];exact w.a),w.b,w.c,fun x hx=>w.d x (anU.mp hx).1,am9 (List.length_filter_le _ _) w.e⟩
 . unfold kP
   rw[al8,amv]
   have:cn F*hs.length<=100*3:=aoj (by omega) h.e
   omega
theorem QY(nd:hs.Nodup){k:Nat}(hc:c<k):kD (kP R hs F (k*hs.length)) hs c=kD R hs (F.idxOf c):=by
 unfold kD
 refine amL fun x hx=>?_
 unfold tF
 rw[JK nd hc hx]
 unfold L4
 rw[amy]
 congr 1
 refine amL fun r _=>?_
 show L3.D.tup [.tup r.1,.tup (((r.2.1.filter It.told).filter It.told).map It.d)]=_
 rw[QX]
 rfl
theorem L5(h:oj R hs n)(nd:hs.Nodup)(hF:F=gu R hs n)(j:Nat):∀{a c:Nat},a<n->c<n->((dU (kP R hs F (cn F*hs.length)) hs (cn F) j).getD (F.getD a 0) 0=(dU (kP R hs F (cn F*hs.length)) hs (cn F) j).getD (F.getD c 0) 0↔(dU R hs n j).getD a 0=(dU R hs n j).getD c 0):=by
 have hn:=h.f.1
 have hl:F.length=n:=by rw[hF];exact mV n
 have hN:cE F=F:=by rw[hF];exact pU n
 have cl:∀{a:Nat},a<n->F.getD a 0<cn F:=fun ha=>Ck hN (by rw[hl];exact ha)
 have same:∀{a c:Nat},a<n->c<n->F.getD a 0=F.getD c 0->kD R hs a=kD R hs c/\tG R hs F a=tG R hs F c:=fun ha hc e=>by
   rw[hF]at e ⊢
   exact fin_same hn ha hc e
 have rep:∀{a:Nat},a<n->F.idxOf (F.getD a 0)<n/\F.getD (F.idxOf (F.getD a 0)) 0=F.getD a 0:=fun ha=>by
   have:=uY hN (cl ha)
   exact⟨by rw[← hl];exact this.1,this.2⟩
 have lkA:∀{a:Nat},a<n->kD (kP R hs F (cn F*hs.length)) hs (F.getD a 0)=kD R hs a:=fun ha=>by
   rw[QY nd (cl ha)]
   exact(same (rep ha).1 ha (rep ha).2).1
 induction j with
 | zero=>
   intro a c ha hc
   rw[dU,dU,mU (cl ha) (cl hc),mU ha hc,lkA ha,lkA hc]
 | succ j ih=>
   intro a c ha hc
   rw[dU,dU,mU (cl ha) (cl hc),mU ha hc]
   generalize hG:dU (kP R hs F (cn F*hs.length)) hs (cn F) j=G at ih ⊢
   generalize hP:dU R hs n j=P at ih ⊢
   have led:∀{a:Nat},a<n->tG (kP R hs F (cn F*hs.length)) hs G (F.getD a 0)=hs.flatMap fun x=>(cV R (F.idxOf (F.getD a 0)) x).map fun r=>G.getD (F.getD r.2.2 0) 0:=fun ha=>by
     unfold tG
     rw[anF,anF]
     congr 1
     refine amL fun x hx=>?_
     rw[JK nd (cl ha) hx]
     unfold L4
     rw[amy]
     rfl
   have cmp:∀{a c:Nat},a<n->c<n->kD R hs a=kD R hs c->((hs.flatMap fun x=>(cV R a x).map fun r=>G.getD (F.getD r.2.2 0) 0)=(hs.flatMap fun x=>(cV R c x).map fun r=>G.getD (F.getD r.2.2 0) 0)↔tG R hs P a=tG R hs P c):=fun {a c} ha hc GB=>by
     have Wr:=mW GB
     have hlen:∀x∈hs,(cV R a x).length=(cV R c x).length:=fun x hx=>by
       have:=congrArg List.length (Wr x hx)
       simpa using this
     have xr:∀x∈hs,(((cV R a x).map fun r=>G.getD (F.getD r.2.2 0) 0)=((cV R c x).map fun r=>G.getD (F.getD r.2.2 0) 0)↔((cV R a x).map fun r=>P.getD r.2.2 0)=(cV R c x).map fun r=>P.getD r.2.2 0):=fun x hx=>by
       have ra:=(h.row ha hx).2.2
       have rc:=(h.row hc hx).2.2
       have Ws:=hlen x hx
       generalize cV R a x=la at ra Ws ⊢
       generalize cV R c x=lc at rc Ws ⊢
       clear Wr hlen GB
       induction la generalizing lc with
       | nil=>cases lc with
         | nil=>exact⟨fun _=>rfl,fun _=>rfl⟩
         | cons _ _=>cases Ws
       | cons r la ih2=>cases lc with
         | nil=>cases Ws
         | cons q lc=>
           have e:=ih (ra r ama).a (rc q ama).a
           have e2:=ih2 (fun z hz=>ra z (List.mem_cons_of_mem _ hz)) lc (fun z hz=>rc z (List.mem_cons_of_mem _ hz)) (by simpa using Ws)
           rw[amB,amB,amB,amB,List.cons.injEq,List.cons.injEq]
           exact⟨fun⟨x,y⟩=>⟨e.mp x,e2.mp y⟩,fun⟨x,y⟩=>⟨e.mpr x,e2.mpr y⟩⟩
     constructor
     . intro e
       have:=kE (fun x hx=>by rw[al8,al8];exact hlen x hx) e
       unfold tG
       rw[anF,anF]
       congr 1
       exact amL fun x hx=>(xr x hx).mp (this x hx)
     . intro e
       have:=kE (fun x hx=>by rw[al8,al8];exact hlen x hx) e
       rw[anF,anF]
       congr 1
       exact amL fun x hx=>(xr x hx).mpr (this x hx)
   have own:∀{a:Nat},a<n->tG (kP R hs F (cn F*hs.length)) hs G (F.getD a 0)=hs.flatMap fun x=>(cV R a x).map fun r=>G.getD (F.getD r.2.2 0) 0:=fun {a} ha=>by
     rw[led ha]
     obtain⟨s1,s2⟩:=same (rep ha).1 ha (rep ha).2
     have hlen:∀x∈hs,(cV R (F.idxOf (F.getD a 0)) x).length=(cV R a x).length:=fun x hx=>by
       have:=congrArg List.length (mW s1 x hx)
       simpa using this
     rw[anF,anF]
     congr 1
     refine amL fun x hx=>?_
     have e:=kE (fun x hx=>by rw[al8,al8];exact hlen x hx) s2 x hx
     have:=congrArg (List.map fun v=>G.getD v 0) e
     rw[amy,amy]at this
     exact this
   constructor
   . intro e
     obtain⟨e1,e2⟩:=tH e
     have e3:=(ih ha hc).mp e1
     have GB:kD R hs a=kD R hs c:=by rw[← hP]at e3;exact yN j ha hc e3
     rw[own ha,own hc]at e2
     unfold Cg
     rw[e3,(cmp ha hc GB).mp e2]
   . intro e
     obtain⟨e1,e2⟩:=tH e
     have GB:kD R hs a=kD R hs c:=by rw[← hP]at e1;exact yN j ha hc e1
     have e3:=(ih ha hc).mpr e1
     unfold Cg
     rw[e3,own ha,own hc,(cmp ha hc GB).mpr e2]
theorem L6(h:oj R hs n)(nd:hs.Nodup)(hF:F=gu R hs n):gu (kP R hs F (cn F*hs.length)) hs (cn F)=List.range (cn F):=by
 have hn:=h.f.1
 have hl:F.length=n:=by rw[hF];exact mV n
 have hN:cE F=F:=by rw[hF];exact pU n
 have c2:cn F<=n:=by
   have:=A1 (n:=n) F (by omega)
   rw[hN]at this
   exact this
 have c1:1<=cn F:=by
   have:=Ck hN (a:=0) (by omega)
   omega
 have st:dU (kP R hs F (cn F*hs.length)) hs (cn F) n=gu (kP R hs F (cn F*hs.length)) hs (cn F):=by
   have e:=yP (R:=kP R hs F (cn F*hs.length)) (hs:=hs) c1
   have:=tK (k:=cn F) e (n-cn F)
   rw[show cn F+(n-cn F)=n by omega]at this
   exact this
 have inj:∀a,a<cn F->∀c,c<cn F->(gu (kP R hs F (cn F*hs.length)) hs (cn F)).getD a 0=(gu (kP R hs F (cn F*hs.length)) hs (cn F)).getD c 0->a=c:=fun a ha c hc e=>by
   obtain⟨a1,a2⟩:=uY hN ha
   obtain⟨b1,b2⟩:=uY hN hc
   have:=(L5 h nd hF n (a:=F.idxOf a) (c:=F.idxOf c) (by omega) (by omega)).mp (by rw[a2,b2,st];exact e)
   rw[show dU R hs n n=F from hF.symm,a2,b2]at this
   exact this
 have hfl:=mV (R:=kP R hs F (cn F*hs.length)) (hs:=hs) (n:=cn F) (cn F)
 have Ko:=pU (R:=kP R hs F (cn F*hs.length)) (hs:=hs) (n:=cn F) (cn F)
 show dU _ _ _ _=_
 generalize hG:dU (kP R hs F (cn F*hs.length)) hs (cn F) (cn F)=G at hfl Ko ⊢
 have inj:∀a,a<cn F->∀c,c<cn F->G.getD a 0=G.getD c 0->a=c:=fun a ha c hc e=>inj a ha c hc (by show(dU _ _ _ _).getD a 0=(dU _ _ _ _).getD c 0;rw[hG];exact e)
 rw[← Ko,yM hfl]
 have e1:cE ((List.range (cn F)).map fun a=>G.getD a 0)=cE ((List.range (cn F)).map fun(a:Nat)=>a):=LW fun a ha c hc=>⟨inj a ha c hc,fun e=>by rw[e]⟩
 rw[e1,List.map_id']
 have idn:∀m,unq (List.range m)=List.range m:=by
   intro m
   induction m with
   | zero=>rfl
   | succ m ih=>
     rw[ane,dS,ih,amq (by simp)]
 unfold cE
 rw[idn]
 apply an8
 intro i
 by_cases hi:i<cn F
 . rw[amg,amZ hi]
   show some ((List.range (cn F)).idxOf i)=some i
   congr 1
   have hm:i∈List.range (cn F):=amH.mpr hi
   have:=anO (amT.mpr hm)
   rw[aov]at this
   exact this
 . rw[am3 (by rw[al8,amv];omega),am3 (by rw[amv];omega)]
theorem QZ{y:Nat}(h:y∈F):(dF F)[F.idxOf y]? = some (y:Int)/\∀i,i<F.idxOf y->(dF F)[i]? ≠ some (y:Int):=by
 have hz:∀k,(dF F)[k]? = (F[k]?).map fun(x:Nat)=>(x:Int):=fun k=>by unfold dF;rw[amg]
 have hl:=amT.mpr h
 refine⟨by rw[hz,al9 hl,anO hl];rfl,fun i hi e=>?_⟩
 rw[hz]at e
 obtain⟨x,h1,h2⟩:=amG.mp e
 have h2:(x:Int)=(y:Int):=h2
 have hx:x=y:=by omega
 rw[hx]at h1
 have:F.idxOf y<=i:=by
   have hil:=(amf.mp h1).1
   have hy:=(amf.mp h1).2
   rcases aoW i (F.idxOf y) with z|z
   . exfalso
     have hm:y∈F.take (i+1):=by rw[anh,h1];simp
     have e2:F.idxOf y=(F.take (i+1)).idxOf y:=by
       conv=>lhs;rw[← anp (i+1) F]
       rw[anT,amx hm]
     have h3:=amT.mpr hm
     rw[amY]at h3
     omega
   . exact z
 omega
theorem Cm(h:D.aY pr=true)(F:List Nat):D.aY (GA pr F)=true:=vW fun c _=>by
 rw[amb]
 cases e:pr[F.idxOf c]? with
 | none=>rfl
 | some d=>exact oK h d (amt e)
theorem abn{l:List R7}(h:∀r∈l,LX n r):D.aY ((L4 F l).map qE)=true:=vW fun r hr=>by
 obtain⟨q,hq,rfl⟩:=amj.mp hr
 exact Gv (h q hq).b
section
variable(R:List (bS×List R7))(hs:List Str)
def Fo(n:Nat):List (bS×L3.D):=(List.range n).map fun(i:Nat)=>(j6 (i / hs.length) (hs.getD (i % hs.length) Str.empty),tF R (i / hs.length) (hs.getD (i % hs.length) Str.empty))
def L7(n:Nat):List (bS×T):=(Fo R hs n).map fun q=>(q.1,T.sh q.2)
def L8(a c:Nat):List Str:=hs.filter fun x=>!rY (tF R a x) (tF R c x)
def rZ:R7:=([],[],0)
def JL(a c:Nat)(x:Str)(m:Nat):List (L3.D×Nat×Nat):=(List.range m).map fun(k:Nat)=>(.tup [.str x,.int (k:Nat)],((cV R a x).getD k rZ).2.2,((cV R c x).getD k rZ).2.2)
def EF(a c:Nat):List (L3.D×Nat×Nat):=hs.flatMap fun x=>JL R a c x (cV R a x).length
def Q0(e:L3.D×Nat×Nat):L3.D:=.tup [e.1,.tup [.int (e.2.1:Nat),.int (e.2.2:Nat)]]
variable{R hs}
theorem Wt(n:Nat):T.qT (L7 R hs n)=Fo R hs n:=by
 unfold L7
 generalize Fo R hs n=l
 induction l with
 | nil=>show T.qT []=[];rw[T.qT]
 | cons q r ih=>
   show T.qT ((q.1,T.sh q.2)::r.map fun q=>(q.1,T.sh q.2))=q::r
   rw[T.qT,ih,T.bP]
theorem Q5(h:t<hs.length):Fo R hs (j*hs.length+t+1)=Fo R hs (j*hs.length+t)++[(j6 j (hs.getD t Str.empty),tF R j (hs.getD t Str.empty))]:=by
 unfold Fo
 rw[ane,ams,aou,(Ju h).1,(Ju h).2]
theorem Wu(nd:hs.Nodup)(h:t<hs.length):j6 j (hs.getD t Str.empty)∉(Fo R hs (j*hs.length+t)).map (·.1):=fun hm=>by
 unfold Fo at hm
 rw[amy]at hm
 obtain⟨i,hi,e⟩:=amj.mp hm
 have hi:=amH.mp hi
 obtain⟨e1,e2⟩:=pS e
 have e3:=getD_inj nd (aow i (by omega)) h e2
 have e1:i / hs.length=j:=e1
 have e3:i % hs.length=t:=e3
 have:=anB i hs.length
 rw[e1,e3,aoV]at this
 omega
theorem JM(nd:hs.Nodup)(ha:a<n)(hx:x∈hs):iU (Fo R hs (n*hs.length)) (j6 a x)=some (tF R a x):=by
 obtain⟨t,ht,rfl⟩:=QW hx
 refine B3 ?_ (j:=a*hs.length+t) ?_
 . unfold Fo
   rw[amy]
   refine Cj fun i hi j hj e=>?_
   have hi:=dm7 i hi
   have hj:=dm7 j hj
   obtain⟨e1,e2⟩:=pS e
   have e3:=getD_inj nd hi.2 hj.2 e2
   rw[← anB i hs.length,← anB j hs.length,e1,e3]
 . have hi:a*hs.length+t<n*hs.length:=by
     have:(a+1)*hs.length<=n*hs.length:=aoF _ ha
     rw[aoK,aoL]at this
     omega
   unfold Fo
   rw[amg,amZ hi]
   show some (j6 ((a*hs.length+t) / hs.length) _,tF R ((a*hs.length+t) / hs.length) _)=_
   rw[(Ju ht).1,(Ju ht).2]
theorem abo(h:oj R hs n)(ha:a<n)(hc:c<n):L8 R hs a c=[]↔kD R hs a=kD R hs c:=by
 have key:∀x∈hs,rY (tF R a x) (tF R c x)=decide (tF R a x=tF R c x):=fun x hx=>BV (gE (h.row ha hx).2.2).1 5 (gE (h.row hc hx).2.2).1
 unfold L8 kD
 rw[List.filter_eq_nil_iff,List.map_inj_left]
 constructor
 . intro z x hx
   have:=z x hx
   rw[key x hx]at this
   simpa using this
 . intro z x hx
   rw[key x hx,am6 (z x hx)]
   decide
theorem Q6{l:List (bS×L3.D)}(h:∀q∈l,q.2.gA=true):T.ia (l.map fun q=>(q.1,T.sh q.2))=true:=by
 induction l with
 | nil=>show T.ia []=true;rw[T.ia]
 | cons q r ih=>
   show T.ia ((q.1,T.sh q.2)::r.map fun q=>(q.1,T.sh q.2))=true
   rw[T.ia,T.clean,h q ama,ih fun p hp=>h p (ame _ hp)]
   rfl
end
def M8(n s p:Nat):Nat:=(s+p) % (n*n)
def lN(n s p:Nat):Nat:=M8 n s p / n
def lW(n s p:Nat):Nat:=M8 n s p % n
def GC(n s p:Nat):List L3.D:=[.int (lN n s p:Nat),.int (lW n s p:Nat)]
def uA(n s a c:Nat):Nat:=(a*n+c+(n*n-s)) % (n*n)
theorem md2{N s:Nat}(hs:s<N)(hp:p<N):(s+p) % N=if s+p<N then s+p else s+p-N:=by
 split
 . exact aoD (by omega)
 . rw[Nat.mod_eq_sub_mod (by omega)]
   exact aoD (by omega)
theorem A6(ha:a<n)(hc:c<n):a*n+c<n*n:=by
 have:(a+1)*n<=n*n:=aoF _ ha
 rw[aoK,aoL]at this
 omega
theorem abp{s:Nat}(h:0<n):uA n s a c<n*n:=aow _ (aoM h h)
theorem Cp{s:Nat}(hs:s<n*n)(ha:a<n)(hc:c<n):lN n s (uA n s a c)=a/\lW n s (uA n s a c)=c:=by
 have hx:=A6 ha hc
 have e:M8 n s (uA n s a c)=a*n+c:=by
   unfold M8 uA
   rw[Nat.add_mod_mod,show s+(a*n+c+(n*n-s))=(a*n+c)+n*n by omega,Nat.add_mod_right]
   exact aoD hx
 unfold lN lW
 rw[e]
 exact Ju hc
theorem nY{s:Nat}(h:0<n):lN n s p<n/\lW n s p<n:=by
 have:M8 n s p<n*n:=aow _ (aoM h h)
 exact⟨(Nat.div_lt_iff_lt_mul h).mpr this,aow _ h⟩
theorem JN(ha:a<n)(hc:c<n):lN n (a*n+c) 0=a/\lW n (a*n+c) 0=c:=by
 have e:M8 n (a*n+c) 0=a*n+c:=by
   unfold M8
   rw[Nat.add_zero]
   exact aoD (A6 ha hc)
 unfold lN lW
 rw[e]
 exact Ju hc
theorem abq{s:Nat}(h:0<n)(hs:s<n*n):EC (GC n s) (n*n) where
 inj:=fun p q hp hq e=>by
   unfold GC at e
   injection e with e1 e2
   injection e2 with e2 _
   injection e1 with e1
   injection e2 with e2
   have a1:lN n s p=lN n s q:=by omega
   have a2:lW n s p=lW n s q:=by omega
   have e3:M8 n s p=M8 n s q:=by
     rw[← anB (M8 n s p) n,← anB (M8 n s q) n]
     unfold lN at a1
     unfold lW at a2
     rw[a1,a2]
   unfold M8 at e3
   rw[md2 hs hp,md2 hs hq]at e3
   generalize n*n=N at hs hp hq e3
   split at e3<;>split at e3<;>omega
 nst:=fun p _=>oY (k:=1) (by unfold kO GC;exact uX) (by decide)
 gA:=fun p=>rfl
 hw:=fun p w w'=>by
   unfold kO GC
   rw[D.sG,D.sG,D.qU,D.qU,D.qU,D.qU,D.qU,D.qU,D.sG,D.sG,D.sG,D.sG]
section
variable(R:List (bS×List R7))(hs:List Str)(n s:Nat)
def wF(p:Nat):Bool:=decide (0<(L8 R hs (lN n s p) (lW n s p)).length)
def jG(p:Nat):List (L3.D×Nat):=if wF R hs n s p=true then [] else(EF R hs (lN n s p) (lW n s p)).map fun e=>(e.1,uA n s e.2.1 e.2.2)
def Wv:T:=match yI (jG R hs n s) (wF R hs n s) (n*n) with
 | none=>.sh .non
 | some j=>.tup [.lst ((jn (aH (jG R hs n s) (n*n)) j).map T.sh),.sh (.str ((L8 R hs (lN n s (e9 (aH (jG R hs n s) (n*n)) j)) (lW n s (e9 (aH (jG R hs n s) (n*n)) j))).getD 0 Str.empty))]
variable{R hs n s}
theorem Cq(h:oj R hs n)(ha:a<n)(hc:c<n)(GB:kD R hs a=kD R hs c):∀e∈EF R hs a c,e.1.gA=true/\e.2.1<n/\e.2.2<n:=fun e he=>by
 unfold EF at he
 obtain⟨x,hx,he⟩:=List.mem_flatMap.mp he
 unfold JL at he
 obtain⟨k,hk,rfl⟩:=amj.mp he
 have hk:=amH.mp hk
 have hlen:(cV R a x).length=(cV R c x).length:=by
   have:=congrArg List.length (mW GB x hx)
   simpa using this
 exact⟨rfl,((h.row ha hx).2.2 _ (jB hk)).a,((h.row hc hx).2.2 _ (jB (by omega))).a⟩
theorem rD(h:oj R hs n):wF R hs n s p=false↔kD R hs (lN n s p)=kD R hs (lW n s p):=by
 have hb:=nY (s:=s) (p:=p) (n:=n) h.f.1
 rw[← abo h hb.1 hb.2]
 unfold wF
 rw[decide_eq_false_iff_not,Nat.not_lt,Nat.le_zero,ao2]
theorem xu(h:oj R hs n)(p:Nat):∀e∈jG R hs n s p,e.2<n*n/\e.1.gA=true:=fun e he=>by
 unfold jG at he
 split at he
 . cases he
 . rename_i hp
   have hb:=nY (s:=s) (p:=p) (n:=n) h.f.1
   obtain⟨q,hq,rfl⟩:=amj.mp he
   exact⟨abp h.f.1,(Cq h hb.1 hb.2 ((rD h).mp (by simpa using hp)) q hq).1⟩
theorem abr(h:oj R hs n)(wk:s<n*n)(hp:wF R hs n s p=false):(jG R hs n s p).map (sPP (GC n s))=(EF R hs (lN n s p) (lW n s p)).map Q0:=by
 have hb:=nY (s:=s) (p:=p) (n:=n) h.f.1
 unfold jG
 rw[amq (by rw[hp];decide),amy]
 refine amL fun e he=>?_
 obtain⟨_,h1,h2⟩:=Cq h hb.1 hb.2 ((rD h).mp hp) e he
 obtain⟨c1,c2⟩:=Cp wk h1 h2
 show L3.D.tup [e.1,.tup [.int (lN n s (uA n s e.2.1 e.2.2):Nat),.int (lW n s (uA n s e.2.1 e.2.2):Nat)]]=Q0 e
 rw[c1,c2]
 rfl
end
def yQ(e:Str×Nat):L3.D:=.tup [.str e.1,.int (e.2:Nat)]
def Wk6(R:List (bS×List R7))(hs:List Str):Nat->Nat->List (Str×Nat)->Nat->Nat->Prop
 | a,c,[],a',c'=>a=a'/\c=c'
 | a,c,e::l,a',c'=>e.1∈hs/\e.2<(cV R a e.1).length/\e.2<(cV R c e.1).length/\Wk6 R hs ((cV R a e.1).getD e.2 rZ).2.2 ((cV R c e.1).getD e.2 rZ).2.2 l a' c'
variable{s:Nat}
theorem JQ(h:oj R hs n)(he:(d,q)∈jG R hs n s p):wF R hs n s p=false/\∃x k,x∈hs/\k<(cV R (lN n s p) x).length/\k<(cV R (lW n s p) x).length/\d=yQ (x,k)/\q=uA n s ((cV R (lN n s p) x).getD k rZ).2.2 ((cV R (lW n s p) x).getD k rZ).2.2:=by
 unfold jG at he
 split at he
 . cases he
 . rename_i hp
   have hp:wF R hs n s p=false:=by simpa using hp
   refine⟨hp,?_⟩
   obtain⟨e,he,e1⟩:=amj.mp he
   unfold EF at he
   obtain⟨x,hx,he⟩:=List.mem_flatMap.mp he
   unfold JL at he
   obtain⟨k,hk,rfl⟩:=amj.mp he
   have hk:=amH.mp hk
   have hlen:(cV R (lN n s p) x).length=(cV R (lW n s p) x).length:=by
     have:=congrArg List.length (mW ((rD h).mp hp) x hx)
     simpa using this
   injection e1 with e1 e2
   exact⟨x,k,hx,hk,by omega,e1.symm,e2.symm⟩
theorem Ww(hp:wF R hs n s p=false)(hx:x∈hs){k:Nat}(hk:k<(cV R (lN n s p) x).length):(yQ (x,k),uA n s ((cV R (lN n s p) x).getD k rZ).2.2 ((cV R (lW n s p) x).getD k rZ).2.2)∈jG R hs n s p:=by
 unfold jG
 rw[amq (by rw[hp];decide)]
 refine amj.mpr ⟨(yQ (x,k),((cV R (lN n s p) x).getD k rZ).2.2,((cV R (lW n s p) x).getD k rZ).2.2),?_,rfl⟩
 unfold EF
 refine List.mem_flatMap.mpr ⟨x,hx,?_⟩
 unfold JL
 exact amj.mpr ⟨k,amH.mpr hk,rfl⟩
theorem aeZ(h:oj R hs n)(wk:s<n*n)(w:sZ (jG R hs n s) p l q):∃qK:List (Str×Nat),l=qK.map yQ/\Wk6 R hs (lN n s p) (lW n s p) qK (lN n s q) (lW n s q):=by
 induction w with
 | nil p=>exact⟨[],rfl,rfl,rfl⟩
 | @cons p r q l d he _ ih=>
   obtain⟨hp,x,k,hx,hk,VH,rfl,e2⟩:=JQ h he
   obtain⟨qK,e3,w⟩:=ih
   have hb:=nY (s:=s) (p:=p) (n:=n) h.f.1
   have h1:=((h.row hb.1 hx).2.2 _ (jB (z:=rZ) hk)).a
   have h2:=((h.row hb.2 hx).2.2 _ (jB (z:=rZ) VH)).a
   obtain⟨c1,c2⟩:=Cp wk h1 h2
   rw[e2,c1,c2]at w
   exact⟨(x,k)::qK,by rw[e3];rfl,hx,hk,VH,w⟩
theorem Ma(h:oj R hs n)(wk:s<n*n)(w:sZ (jG R hs n s) p l q)(e:(gu R hs n).getD (lN n s p) 0=(gu R hs n).getD (lW n s p) 0):(gu R hs n).getD (lN n s q) 0=(gu R hs n).getD (lW n s q) 0:=by
 induction w with
 | nil p=>exact e
 | @cons p r q l d he _ ih=>
   obtain⟨hp,x,k,hx,hk,VH,rfl,e2⟩:=JQ h he
   have hb:=nY (s:=s) (p:=p) (n:=n) h.f.1
   obtain⟨s1,s2⟩:=fin_same h.f.1 hb.1 hb.2 e
   have h1:=((h.row hb.1 hx).2.2 _ (jB (z:=rZ) hk)).a
   have h2:=((h.row hb.2 hx).2.2 _ (jB (z:=rZ) VH)).a
   obtain⟨c1,c2⟩:=Cp wk h1 h2
   refine ih ?_
   rw[e2,c1,c2]
   have:=(QL s1 s2 hx).2
   have e4:=congrArg (fun z=>z.getD k 0) this
   simp only[amb,amg,al9 hk,al9 VH]at e4
   rw[amb (l:=cV R (lN n s p) x),al9 hk,amb (l:=cV R (lW n s p) x),al9 VH]
   simpa using e4
theorem Mb(h:oj R hs n){u v:Nat}(hu:u<n)(hv:v<n)(e:(gu R hs n).getD u 0=(gu R hs n).getD v 0):yI (jG R hs n (u*n+v)) (wF R hs n (u*n+v)) (n*n)=none:=by
 have n1:0<n:=h.f.1
 obtain⟨z1,z2⟩:=JN hu hv
 unfold yI
 refine List.find?_eq_none.mpr fun j hj=>?_
 have hj:=amH.mp hj
 have w:=(uT (i9 (st:=jG R hs n (u*n+v)) (n*n)) j j (aml _) hj).fwd
 have e2:=Ma h (A6 hu hv) w (by rw[z1,z2];exact e)
 have hb:=nY (s:=u*n+v) (p:=e9 (aH (jG R hs n (u*n+v)) (n*n)) j) n1
 have e3:=(fin_same n1 hb.1 hb.2 e2).1
 rw[(rD h).mpr e3]
 decide
theorem find_none(h:oj R hs n){u v:Nat}(hu:u<n)(hv:v<n)(hf:yI (jG R hs n (u*n+v)) (wF R hs n (u*n+v)) (n*n)=none):(gu R hs n).getD u 0=(gu R hs n).getD v 0:=by
 have n1:0<n:=h.f.1
 obtain⟨z1,z2⟩:=JN hu hv
 have wk:=A6 hu hv
 obtain⟨s,hS⟩:∃s,s=u*n+v:=⟨_,rfl⟩
 rw[← hS]at hf z1 z2 wk
 have bf:=i9 (st:=jG R hs n s) (n*n)
 have hlen:=(sY (aoM n1 n1) (fun p _ e he=>(xu h p e he).1) (n*n) (st:=jG R hs n s)).2
 have sy:∀j,j<(aH (jG R hs n s) (n*n)).length->wF R hs n s (e9 (aH (jG R hs n s) (n*n)) j)=false:=fun j hj=>by
   have:=List.find?_eq_none.mp hf j (amH.mpr hj)
   simpa using this
 generalize aH (jG R hs n s) (n*n)=W at bf hlen sy
 have all:∀m j,j<W.length->(dU R hs n m).getD (lN n s (e9 W j)) 0=(dU R hs n m).getD (lW n s (e9 W j)) 0:=by
   intro m
   induction m with
   | zero=>
     intro j hj
     have hb:=nY (s:=s) (p:=e9 W j) n1
     rw[dU,mU hb.1 hb.2,(rD h).mp (sy j hj)]
   | succ m ih=>
     intro j hj
     have hb:=nY (s:=s) (p:=e9 W j) n1
     have GB:=(rD h).mp (sy j hj)
     rw[dU,mU hb.1 hb.2]
     unfold Cg
     have hle:tG R hs (dU R hs n m) (lN n s (e9 W j))=tG R hs (dU R hs n m) (lW n s (e9 W j)):=by
       unfold tG
       rw[anF,anF]
       congr 1
       refine amL fun x hx=>?_
       have Ws:(cV R (lN n s (e9 W j)) x).length=(cV R (lW n s (e9 W j)) x).length:=by
         have:=congrArg List.length (mW GB x hx)
         simpa using this
       refine List.ext_getElem (by rw[al8,al8,Ws]) fun k k1 k2=>?_
       rw[al8]at k1 k2
       obtain⟨j2,y,Yl,FZ,_⟩:=bf.cov j (by omega) hj _ (Ww (sy j hj) hx k1)
       have Mf:=(amf.mp Yl).1
       have e5:=ih j2 Mf
       have FZ:y.1=uA n s ((cV R (lN n s (e9 W j)) x).getD k rZ).2.2 ((cV R (lW n s (e9 W j)) x).getD k rZ).2.2:=FZ
       have h1:=((h.row hb.1 hx).2.2 _ (jB (z:=rZ) k1)).a
       have h2:=((h.row hb.2 hx).2.2 _ (jB (z:=rZ) k2)).a
       obtain⟨c1,c2⟩:=Cp wk h1 h2
       rw[Qd Yl,FZ,c1,c2]at e5
       rw[amb (l:=cV R (lN n s (e9 W j)) x),al9 k1,amb (l:=cV R (lW n s (e9 W j)) x),al9 k2]at e5
       rw[List.getElem_map,List.getElem_map]
       exact e5
     rw[ih j hj,hle]
 obtain⟨r,e⟩:=bf.hd
 have h0:0<W.length:=by rw[e];exact Nat.succ_pos _
 have:=all n 0 h0
 have e0:e9 W 0=0:=by rw[e];rfl
 rw[e0,z1,z2]at this
 exact this
theorem Q7(W:List Nd):∀f j,(kC W f j).length<=f
 | 0,_=>by rw[kC];exact aml _
 | f+1,j=>by
   rw[kC]
   split
   . exact amR _
   . rw[amn]
     have:=Q7 W f
     show _+1<=f+1
     have h2:=this ((W[j]?.map (·.2.1)).getD 0)
     first|exact Nat.succ_le_succ h2|exact Nat.succ_le_succ (this _)
theorem A7(h:oj R hs n)(h20:n<=20){u v:Nat}(hu:u<n)(hv:v<n)(e:¬ (gu R hs n).getD u 0=(gu R hs n).getD v 0):∃(qK:List (Str×Nat)) (y:Str) (a c:Nat),Wv R hs n (u*n+v)=.tup [.lst ((qK.map yQ).map T.sh),.sh (.str y)]/\a<n/\c<n/\Wk6 R hs u v qK a c/\y∈hs/\¬ tF R a y=tF R c y/\qK.length<=500:=by
 have n1:0<n:=h.f.1
 obtain⟨z1,z2⟩:=JN hu hv
 have wk:=A6 hu hv
 have hNN:n*n<=20*20:=aoj h20 h20
 cases hf:yI (jG R hs n (u*n+v)) (wF R hs n (u*n+v)) (n*n) with
 | none=>exact absurd (find_none h hu hv hf) e
 | some j=>
   have hj:j<(aH (jG R hs n (u*n+v)) (n*n)).length:=amH.mp (an2 hf)
   have Wx:wF R hs n (u*n+v) (e9 (aH (jG R hs n (u*n+v)) (n*n)) j)=true:=List.find?_some (p:=fun j=>wF R hs n (u*n+v) (e9 (aH (jG R hs n (u*n+v)) (n*n)) j)) (show(List.range (aH (jG R hs n (u*n+v)) (n*n)).length).find? (fun j=>wF R hs n (u*n+v) (e9 (aH (jG R hs n (u*n+v)) (n*n)) j))=some j from hf)
   have hlen:=(sY (aoM n1 n1) (fun p _ e he=>(xu h p e he).1) (n*n) (st:=jG R hs n (u*n+v))).2
   have w:=(uT (i9 (st:=jG R hs n (u*n+v)) (n*n)) j j (aml _) hj).fwd
   obtain⟨qK,e1,w2⟩:=aeZ h wk w
   rw[z1,z2]at w2
   have hpl:qK.length<=j:=by
     have:=Q7 (aH (jG R hs n (u*n+v)) (n*n)) j j
     have e2:(jn (aH (jG R hs n (u*n+v)) (n*n)) j).length=qK.length:=by rw[e1,al8]
     rw[← e2]
     exact this
   have hb:=nY (s:=u*n+v) (p:=e9 (aH (jG R hs n (u*n+v)) (n*n)) j) n1
   have yr:0<(L8 R hs (lN n (u*n+v) (e9 (aH (jG R hs n (u*n+v)) (n*n)) j)) (lW n (u*n+v) (e9 (aH (jG R hs n (u*n+v)) (n*n)) j))).length:=amO Wx
   have hy:=jB (z:=Str.empty) yr
   have FZ:=anU.mp hy
   refine⟨qK,_,_,_,?_,hb.1,hb.2,w2,FZ.1,fun z=>?_,by omega⟩
   . unfold Wv
     rw[hf]
     dsimp only
     rw[e1]
   . have h3:=FZ.2
     have hr:=lR (show iN 5 (tF R _ _) from(gE (h.row hb.2 FZ.1).2.2).1).dep
     rw[z,hr]at h3
     cases h3
theorem ae0:∀l m:List R7,rY (.lst (l.map A3)) (.lst (m.map A3))=rY (.tup (l.map A2)) (.tup (m.map A2)):=by
 intro l m
 unfold rY
 rw[D.toPy,D.toPy,D.toPy,D.toPy,PyData.eqv,PyData.eqv]
 induction l generalizing m with
 | nil=>cases m with
   | nil=>rfl
   | cons q m=>rw[anL,anL,amB,amB,D.cD,D.cD,D.cD,PyData.eqvAll,PyData.eqvAll]
 | cons r l ih=>cases m with
   | nil=>rw[anL,anL,amB,amB,D.cD,D.cD,D.cD,PyData.eqvAll,PyData.eqvAll]
   | cons q m=>
     rw[amB,amB,amB,amB,D.cD,D.cD,D.cD,D.cD,PyData.eqvAll,PyData.eqvAll,ih m]
     congr 1
seal L3.dZ L3.Tw L3.bO L3.cZ L3.qA L3.IC L3.N6
abbrev Cr:Stmt:=top 25
abbrev GD:Type:=Int
def oZ:GD->List L3.D:=fun c=>[.int c]
def pe:GD->Prop:=fun c=>True
def pA:GD->T:=fun c=>(.sh (.str (gK c)):T)
structure abt(X:Cx)(CL:Str->Addr):Prop extends cY X where
 dD:Ln X 0 "cell"
 uZ:Ln X 1 "letters"
 cB:Ln X 2 "mixed"
 lD:Ln X 3 "name"
 YM:Ln X 4 "k"
 bL:Gl X "range"
 bM:X.mg "range" = none
variable{X:Cx}{CL:Str->Addr}
theorem abu{b:Bx}(E:abt X CL){c}(h:pe c) :
   aE X CL b Cr ["cell","letters","mixed","name","k"] (oZ c) (pA c):=by
 dsimp only [aE,pe,oZ,pA]at h ⊢
 refine aR E.g E.uZ fk ?_
 refine aR E.g E.cB (bJ (ah (eN (aK E.dD) (ah aj) ⟨by decide,by decide⟩)) (ah (N7 (ah aj) (ah aj) ⟨by decide,by decide,by decide⟩)) (by decide)) ?_
 generalize hm0:c / 12 % 10 ^ (9:Int).toNat=m0
 have e0:nm0 c=(m0,wm (m0 % 26)):=by rw[← hm0];rfl
 have ae1:Ly.length=36:=by decide +kernel
 have m26:=fun m:Int=>amU m (show(26:Int)≠0 by decide)
 have l26:=fun m:Int=>amW m (show(0:Int)<26 by decide)
 have m36:=fun m:Int=>amU m (show(36:Int)≠0 by decide)
 have l36:=fun m:Int=>amW m (show(0:Int)<36 by decide)
 refine aR E.g E.lD (Ob (aK E.uZ) (ah (bJ (aK E.cB) (ah aj) (by decide))) (by rw[amE];decide +kernel) (by rw[P5];exact Ou 0 (m26 _) (by have:=l26 m0;rw[ae1];omega))) ?_
 have c0:=amU c (show(12:Int)≠0 by decide)
 have c1:=amW c (show(0:Int)<12 by decide)
 refine ig E.g E.YM (fun j δ=>∃o,δ=[some (.sh (.int c)),some (.sh (.str "abcdefghijklmnopqrstuvwxyz0123456789")),some (.sh (.int (kB (m0,wm (m0 % 26)) j).1)),some (.sh (.str (kB (m0,wm (m0 % 26)) j).2)),o])
   (cu E.bM (ah (bJ (aK E.dD) (ah aj) (by decide))) (by omega) E.bL) ⟨_,rfl⟩ (fun j δ ⟨_,e⟩=>by subst e;exact amh rfl) ?turn ?fin
 case turn=>
   rintro j d δ hj ⟨o,rfl⟩
   obtain⟨rfl,Fg⟩:=fM hj
   have hnl:=P7 (m0,wm (m0 % 26)) j
   have hn0:(wm (m0 % 26)).length=1:=rfl
   refine aR E.g E.cB (bJ (ah (bX (ah (ly (aK E.cB) (ah aj) (.inr ⟨by decide,by decide⟩))) (ah aj))) (ah aj) (by decide)) ?_
   refine aR E.g E.lD (qW (aK E.lD) (ah (Ob (aK E.uZ) (ah (bJ (aK E.cB) (ah aj) (by decide))) (by rw[amE];decide +kernel) (by rw[P5];exact Ou 0 (m36 _) (by have:=l36 (VC (kB (m0,wm (m0 % 26)) j).1);unfold VC at this;rw[ae1];omega)))) (by rw[amE,hnl,hn0];show 1+j+1<=_;omega)) (aC ⟨_,rfl⟩)
 case fin=>
   rintro δ ⟨o,rfl⟩
   have hn:(ck 0 (c % 12).toNat).length=(c % 12).toNat:=by simp[ck]
   rw[hn]
   have hb:(kB (m0,wm (m0 % 26)) (c % 12).toNat).2=TV c:=by unfold TV;rw[e0]
   rw[hb]
   have hbl:=Jh c
   refine iM (Ot (l:=w13) (aK E.lD) (sQ rfl)).1 (fun hp=>?_) (fun hp=>aC ?_)
   . refine bT (qW (aK E.lD) (ah fk) (by rw[amE];show _+1<=_;omega)) ?_
     show T.sh _=T.sh (.str (gK c))
     rw[gK,amx (amO hp)]
   refine iM (Ot (l:=w6) (aK E.lD) (sQ rfl)).1 (fun hq=>?_) (fun hq=>aC ?_)
   . refine bT (qW (aK E.lD) (ah fk) (by rw[amE];show _+1<=_;omega)) ?_
     show T.sh _=T.sh (.str (gK c))
     rw[gK,amq (anb hp),amx (amO hq)]
   . refine bT (v_ E.lD.1) ?_
     show T.sh _=T.sh (.str (gK c))
     rw[gK,amq (anb hp),amq (anb hq)]
theorem pV:lQ (ak Cr) ([("cell",av),("letters",av),("mixed",av),("name",av),("k",av),("range",aB)])=true:=by decide +kernel
theorem Wy:aP ["cell","letters","mixed","name","k"] ["cell"] (ak Cr):=bw
abbrev pW:Stmt:=top 23
abbrev pX:Type:=List Int×Int
def eS:pX->List L3.D:=fun(ns,j)=>[.lst (ns.map .int),.int j]
def eU:pX->Prop:=fun(ns,j)=>0<=j
def eV:pX->T:=fun(ns,j)=>(.sh (.int (bF ns j)):T)
structure Mg(X:Cx)(CL:Str->Addr):Prop extends cY X where
 aZ:Ln X 0 "script"
 YM:Ln X 1 "k"
 b9:Gl X "len"
 bV:X.mg "len" = none
theorem Mh{b:Bx}(E:Mg X CL){cC:pX}(h:eU cC) :
   aE X CL b pW ["script","k"] (eS cC) (eV cC):=by
 obtain⟨ns,j⟩:=cC
 dsimp only [aE,eU,eS,eV]at h ⊢
 refine iM (Yc (aK E.YM) (ah (II E.bV (aK E.aZ) E.b9))).1 (fun hp=>?_) (fun hp=>?_)
 . have e:j<ns.length:=by simpa using of_decide_eq_true hp
   refine bT (gG (c5 (aK E.aZ) (aK E.YM) (aag h e)) rfl) ?_
   show T.sh _=T.sh (.int (bF ns j))
   rw[bF,amx e]
 . have e:¬ j<ns.length:=by simpa using of_decide_eq_false hp
   refine aC (bT aj ?_)
   show T.sh _=T.sh (.int (bF ns j))
   rw[bF,amq e]
theorem rE:lQ (ak pW) ([("script",av),("k",av),("len",aB)])=true:=by decide +kernel
theorem GF:aP ["script","k"] ["script","k"] (ak pW):=bw
abbrev xx:Stmt:=top 26
abbrev xA:Type:=Int×Int
def fP:xA->List L3.D:=fun(c,s)=>[.int c,.int s]
def fQ:xA->Prop:=fun(c,s)=>True
def fS:xA->T:=fun(c,s)=>(.sh (.int (rA c s)):T)
structure Wz(X:Cx)(CL:Str->Addr):Prop extends cY X where
 dD:Ln X 0 "cell"
 abv:Ln X 1 "salt"
 cB:Ln X 2 "mixed"
theorem WB{b:Bx}(E:Wz X CL){cC:xA}(h:fQ cC) :
   aE X CL b xx ["cell","salt","mixed"] (fP cC) (fS cC):=by
 obtain⟨c,s⟩:=cC
 dsimp only [aE,fQ,fP,fS]at h ⊢
 refine aR E.g E.cB (aD (bJ (ah (ly (ah (bX (ah (bJ (aK E.dD) (ah aj) (by decide))) (aK E.abv))) (ah aj) (.inr ⟨by decide,by decide⟩))) (ah aj) (by decide)) (t2:=.sh (.int (mx1 c s))) rfl) ?_
 obtain⟨m0,m1⟩:=aeS c s
 refine bT (bJ (ah (ly (aK E.cB) (aK E.cB) (.inl ⟨by omega,by omega⟩))) (ah aj) (by decide)) rfl
theorem yR:lQ (ak xx) ([("cell",av),("salt",av),("mixed",av)])=true:=by decide +kernel
theorem Q8:aP ["cell","salt","mixed"] ["cell","salt"] (ak xx):=bw
abbrev xB:Stmt:=top 30
abbrev Ct:Type:=List Int
def pY:Ct->List L3.D:=fun s=>[.lst (s.map .int)]
def pZ:Ct->Prop:=fun s=>s.length<=1000
def p6:Ct->T:=fun s=>(.lst (((jF s).map .str).map T.sh):T)
structure WC(X:Cx)(CL:Str->Addr):Prop extends cY X where
 aZ:Ln X 0 "script"
 iA:Ln X 1 "base"
 cB:Ln X 2 "mixed"
 bU:Ln X 3 "many"
 d8:Ln X 4 "turn"
 dJ:Ln X 5 "three"
 kX:Gl X "_law_name"
 aX:Gl X "_law_cell_at"
 bG:Gl X "_law_mixed"
 Cu:Fc X CL "_law_name" 1 1 oZ pe pA
 cg:Fc X CL "_law_cell_at" 1 2 eS eU eV
 eW:Fc X CL "_law_mixed" 1 2 fP fQ fS
theorem WD{b:Bx}(E:WC X CL){s}(h:pZ s) :
   aE X CL b xB ["script","base","mixed","many","turn","three"] (pY s) (p6 s):=by
 dsimp only [aE,pZ,pY,p6]at h ⊢
 have hb:(wA s).length<=13:=am9 (Txt.slice_le _ _ _) (aeT _)
 refine aR E.g E.iA (aD (Ld (ah (c_ (bF s 0 / 2) E.Cu E.kX (ai (ah (eN (ah (c_ ((s,0)) E.cg E.aX (ai (aK E.aZ) (ai (ah aj) aF)) (show(0:Int)<=0 by omega) rfl)) (ah aj) ⟨by decide,by decide⟩)) aF) (trivial) rfl)) ((by rw[amE];have:=aeT (bF s 0 / 2);omega)) mL (mO (ah aj))) (t2:=.sh (.str (wA s))) rfl) ?_
 refine aR E.g E.cB (aD (c_ ((bF s 0,37)) E.eW E.bG (ai (ah (c_ ((s,0)) E.cg E.aX (ai (aK E.aZ) (ai (ah aj) aF)) (show(0:Int)<=0 by omega) rfl)) (ai (ah aj) aF)) (trivial) rfl) (t2:=.sh (.int (YG s))) rfl) ?_
 have l0:=amU (YG s) (b:=8) (by decide)
 have l1:=amW (YG s) (b:=8) (by decide)
 refine aR E.g E.bU (aD (gG (c5 (dI (jI (BL (l:=[2,3,1,3,2,3,1,0]) rfl) (aq rfl))) (ah (bJ (aK E.cB) (ah aj) (by decide))) (qZ (0:Int) (l:=[2,3,1,3,2,3,1,0]) l0 (by show _<(8:Int);exact l1))) rfl) (t2:=.sh (.int (nn7 s:Nat))) ?n1) ?_
 case n1=>
   unfold nn7
   obtain⟨k,hk⟩:∃k:Nat,YG s % 8=k:=⟨(YG s % 8).toNat,by omega⟩
   rw[hk]at l1 ⊢
   have:k<8:=by omega
   rw[amS]
   match k,this with
   | 0,_=>rfl
   | 1,_=>rfl
   | 2,_=>rfl
   | 3,_=>rfl
   | 4,_=>rfl
   | 5,_=>rfl
   | 6,_=>rfl
   | 7,_=>rfl
 have t0:=amU (YG s / 8) (b:=3) (by decide)
 refine aR E.g E.d8 (aD (bJ (ah (eN (aK E.cB) (ah aj) ⟨by decide,by decide⟩)) (ah aj) (by decide)) (t2:=.sh (.int (Ql s:Nat))) (by unfold Ql;rw[aoO t0])) ?_
 refine aR E.g E.dJ (aD (jI (au (qW (aK E.iA) (ah fk) ((by rw[amE];show _+1<=_;omega))) (au (qW (aK E.iA) (ah fk) ((by rw[amE];show _+2<=_;omega))) (au (qW (aK E.iA) (ah fk) ((by rw[amE];show _+1<=_;omega))) aW))) (aq rfl)) (t2:=.lst (((rB s).map .str).map T.sh)) rfl) ?_
 have e1:cutD ((rB s).map L3.D.str) (some (Ql s:Int)) none++cutD ((rB s).map L3.D.str) none (some (Ql s:Int))=((rB s).drop (Ql s)++(rB s).take (Ql s)).map L3.D.str:=by
   rw[tu rfl,uU rfl,ams,List.map_drop,aoq]
 refine bT (aD (sO (ds:=((rB s).drop (Ql s)++(rB s).take (Ql s)).map L3.D.str) (e1▸dI (BG (dI (sO (vL E.dJ.1) (dg _) (mO (aK E.d8)) mL)) (dI (sO (vL E.dJ.1) (dg _) mL (mO (aK E.d8)))) ?i1 ?i2 ?z)) (dg _) mL (mO (aK E.bU))) (t2:=.lst (((jF s).map .str).map T.sh)) ?fin) rfl
 case i1=>rw[tu rfl,← List.map_drop];exact dg _
 case i2=>rw[uU rfl,← aoq];exact dg _
 case z=>
   rw[tu rfl,uU rfl,aod,amY,al8,amE]
   show 3-_+min _ 3<=_
   omega
 case fin=>
   rw[uU rfl,← aoq]
   rfl
theorem iB:lQ (ak xB) ([("script",av),("base",av),("mixed",av),("many",av),("turn",av),("three",av),("_law_name",aB),("_law_cell_at",aB),("_law_mixed",aB)])=true:=by decide +kernel
theorem Q9:aP ["script","base","mixed","many","turn","three"] ["script"] (ak xB):=bw
abbrev xC:Stmt:=top 24
abbrev Cv:Type:=Int
def lX:Cv->List L3.D:=fun a=>[.int a]
def lY:Cv->Prop:=fun a=>True
def lZ:Cv->T:=fun a=>(.sh (.int (iy a)):T)
structure WG(X:Cx)(CL:Str->Addr):Prop extends cY X where
 dD:Ln X 0 "cell"
 GH:Ln X 1 "size"
theorem WH{b:Bx}(E:WG X CL){a}(h:lY a) :
   aE X CL b xC ["cell","size"] (lX a) (lZ a):=by
 dsimp only [aE,lY,lX,lZ]at h ⊢
 refine iM (f9 (ah (bJ (aK E.dD) (ah aj) (by decide))) (ah aj)).1 (fun hp=>?_) (fun hp=>aC ?_)
 . refine bT (By (ah (bJ (ah (eN (aK E.dD) (ah aj) ⟨by decide,by decide⟩)) (ah aj) (by decide))) (ah aj)) ?_
   show T.sh _=T.sh (.int (iy a))
   rw[iy,amx (amO hp)]
 . have e:¬ a % 2=0:=anb hp
   refine aR E.g E.GH (aD (bJ (ah (ly (ah (eN (aK E.dD) (ah aj) ⟨by decide,by decide⟩)) (ah aj) (.inr ⟨by decide,by decide⟩))) (ah (By (ah (N7 (ah aj) (ah aj) ⟨by decide,by decide,by decide⟩)) (ah aj))) (by decide)) (t2:=.sh (.int (a / 4*48271 % (10 ^ 30-1)))) rfl) ?_
   refine iM (f9 (ah (bJ (aK E.dD) (ah aj) (by decide))) (ah aj)).1 (fun hp=>?_) (fun hp=>aC ?_)
   . refine bT (v_ E.GH.1) ?_
     show T.sh _=T.sh (.int (iy a))
     rw[iy,amq e,amx (amO hp)]
   . refine bT (lB (aK E.GH)) ?_
     show T.sh _=T.sh (.int (iy a))
     rw[iy,amq e,amq (anb hp)]
theorem EG:lQ (ak xC) ([("cell",av),("size",av)])=true:=by decide +kernel
theorem Ra:aP ["cell","size"] ["cell"] (ak xC):=bw
abbrev Cw:Stmt:=top 27
abbrev Cy:Type:=Int×Nat
def pB:Cy->List L3.D:=fun(c,m)=>[.int c,.int (m:Nat)]
def pC:Cy->Prop:=fun(c,m)=>m<=1000
def pD:Cy->T:=fun(c,m)=>(.sh (.tup [.int (tbG c m),.int (tmG c m)]):T)
structure abw(X:Cx)(CL:Str->Addr):Prop extends cY X where
 dD:Ln X 0 "cell"
 bU:Ln X 1 "many"
 Cz:Gl X "_law_small"
 CB:Fc X CL "_law_small" 1 1 lX lY lZ
theorem abx{b:Bx}(E:abw X CL){cC:Cy}(h:pC cC) :
   aE X CL b Cw ["cell","many"] (pB cC) (pD cC):=by
 obtain⟨c,m⟩:=cC
 dsimp only [aE,pC,pB,pD]at h ⊢
 have h:m<=1000:=h
 exact bT (aQ (au (By (ah (bJ (aK E.dD) (ah (bX (aK E.bU) (ah aj))) (by omega))) (ah aj)) (au (c_ (c / ((m:Int)+1)) E.CB E.Cz (ai (ah (eN (aK E.dD) (ah (bX (aK E.bU) (ah aj))) (⟨by omega,by omega⟩))) aF) (trivial) rfl) aW)) (aq rfl)) rfl
theorem CD:lQ (ak Cw) ([("cell",av),("many",av),("_law_small",aB)])=true:=by decide +kernel
theorem WK:aP ["cell","many"] ["cell","many"] (ak Cw):=bw
abbrev CF:Stmt:=top 29
abbrev CG:Type:=Int×Nat×List Str
def pF:CG->List L3.D:=fun(c,m,hh)=>[.int c,.int (m:Nat),.lst (hh.map .str)]
def kG:CG->Prop:=fun(c,m,hh)=>m<=1000/\hh.length<=1000
def pG:CG->T:=fun(c,m,hh)=>(.sh (wu c m hh).d:T)
structure aby(X:Cx)(CL:Str->Addr):Prop extends cY X where
 dD:Ln X 0 "cell"
 bU:Ln X 1 "many"
 dJ:Ln X 2 "three"
 vX:Ln X 3 "way"
 rG:Ln X 4 "rest"
 kX:Gl X "_law_name"
 b9:Gl X "len"
 jo:Gl X "_law_term"
 Cu:Fc X CL "_law_name" 1 1 oZ pe pA
 bV:X.mg "len" = none
 yS:Fc X CL "_law_term" 2 2 pB pC pD
theorem abz{b:Bx}(E:aby X CL){cC:CG}(h:kG cC) :
   aE X CL b CF ["cell","many","three","way","rest"] (pF cC) (pG cC):=by
 obtain⟨c,m,hh⟩:=cC
 dsimp only [aE,kG,pF,pG]at h ⊢
 obtain⟨h,hl⟩:=h
 refine aR E.g E.vX (bJ (aK E.dD) (ah aj) (by decide)) ?_
 refine aR E.g E.rG (eN (aK E.dD) (ah aj) ⟨by decide,by decide⟩) ?_
 show dZ X CL b _ _ {nx:=_,rt:=fun zV _=>zV=T.sh (wu c m hh).d,bk:=_,ct:=_}
 refine iM (f9 (aK E.vX) (ah aj)).1 (fun hp=>?_) (fun hp=>aC ?_)
 . rw[show wu c m hh=.call ((hh++[gK (c / 5)]).getD (c / 5 % ((hh.length:Int)+1)).toNat Str.empty) by unfold wu;rw[amx (amO hp)]]
   have l0:=amU (c / 5) (b:=(hh.length:Int)+1) (by omega)
   have l1:=amW (c / 5) (b:=(hh.length:Int)+1) (by omega)
   have e1:hh.map L3.D.str++[.str (gK (c / 5))]=(hh++[gK (c / 5)]).map L3.D.str:=by rw[ams];rfl
   refine bT (aQ (ds:=[.str "call",.str ((hh++[gK (c / 5)]).getD (c / 5 % ((hh.length:Int)+1)).toNat Str.empty)]) (au fk (au (gG (c5 (ds:=(hh++[gK (c / 5)]).map L3.D.str) (e1▸dI (BG (aK E.dJ) (dI (jI (ds:=[.str (gK (c / 5))]) (au (c_ (c / 5) E.Cu E.kX (ai (aK E.rG) aF) (trivial) rfl) aW) (aq rfl))) (dg _) rfl (by rw[amE];simp;omega))) (ah (bJ (aK E.rG) (ah (bX (ah (cA (al8 ..) E.bV (aK E.dJ) E.b9)) (ah aj))) (by omega))) (qZ Str.empty l0 (by rw[amn];exact l1))) rfl) aW)) (aq rfl)) rfl
 have e1:¬ c % 5=1:=anb hp
 refine iM (uF (sM (f9 (aK E.vX) (ah aj)).1 (fun hb=>(qY (f9 (aK E.bU) (ah aj)).1)))) (fun hq=>?_) (fun hq=>aC ?_)
 . have e2:c % 5=2\/m=0:=by
     simp at hq
     omega
   rw[show wu c m hh=.say (gK (c / 5)) (tbG (c / 5 / 7) m) (tmG (c / 5 / 7) m) by unfold wu;rw[amq e1,amx e2]]
   exact bT (aQ (au fk (au (c_ (c / 5) E.Cu E.kX (ai (aK E.rG) aF) (trivial) rfl) (au (c_ ((c / 5 / 7,m)) E.yS E.jo (ai (ah (eN (aK E.rG) (ah aj) ⟨by decide,by decide⟩)) (ai (aK E.bU) aF)) (h) rfl) aW))) (aq rfl)) rfl
 . have e2:¬ (c % 5=2\/m=0):=by
     simp at hq
     omega
   rw[show wu c m hh=.put (c / 5 % m) (tbG (c / 5 / m) m) (tmG (c / 5 / m) m) by unfold wu;rw[amq e1,amq e2]]
   exact bT (aQ (au fk (au (bJ (aK E.rG) (aK E.bU) (by omega)) (au (c_ ((c / 5 / m,m)) E.yS E.jo (ai (ah (eN (aK E.rG) (aK E.bU) (⟨by omega,by omega⟩))) (ai (aK E.bU) aF)) (h) rfl) aW))) (aq rfl)) rfl
theorem kY:lQ (ak CF) ([("cell",av),("many",av),("three",av),("way",av),("rest",av),("_law_name",aB),("len",aB),("_law_term",aB)])=true:=by decide +kernel
theorem WL:aP ["cell","many","three","way","rest"] ["cell","many","three"] (ak CF):=bw
abbrev JR:Stmt:=top 28
abbrev JS:Type:=Int×Nat
def xD:JS->List L3.D:=fun(c,m)=>[.int c,.int (m:Nat)]
def xE:JS->Prop:=fun(c,m)=>m<=1000
def xF:JS->T:=fun(c,m)=>(.sh (akG c m):T)
structure ae3(X:Cx)(CL:Str->Addr):Prop extends cY X where
 dD:Ln X 0 "cell"
 bU:Ln X 1 "many"
 yT:Ln X 2 "mark"
 bG:Gl X "_law_mixed"
 jo:Gl X "_law_term"
 eW:Fc X CL "_law_mixed" 1 2 fP fQ fS
 yS:Fc X CL "_law_term" 2 2 pB pC pD
theorem ae4{b:Bx}(E:ae3 X CL){cC:JS}(h:xE cC) :
   aE X CL b JR ["cell","many","mark"] (xD cC) (xF cC):=by
 obtain⟨c,m⟩:=cC
 dsimp only [aE,xE,xD,xF]at h ⊢
 have h:m<=1000:=h
 have l0:=amU (rA c 31) (b:=4) (by decide)
 have l1:=amW (rA c 31) (b:=4) (by decide)
 refine aR E.g E.yT (gG (c5 (dI (jI (sQ (l:=VN) rfl) (aq rfl))) (ah (bJ (ah (c_ ((c,31)) E.eW E.bG (ai (aK E.dD) (ai (ah aj) aF)) (trivial) rfl)) (ah aj) (by decide))) (qZ Str.empty (l:=VN) l0 (by show _<(4:Int);exact l1))) rfl) ?_
 exact bT (aQ (au (v_ E.yT.1) (au (c_ ((c / 3,m)) E.yS E.jo (ai (ah (eN (aK E.dD) (ah aj) ⟨by decide,by decide⟩)) (ai (aK E.bU) aF)) (h) rfl) (au (c_ ((c / 7+2,m)) E.yS E.jo (ai (ah (bX (ah (eN (aK E.dD) (ah aj) ⟨by decide,by decide⟩)) (ah aj))) (ai (aK E.bU) aF)) (h) rfl) aW))) (aq rfl)) rfl
theorem yU:lQ (ak JR) ([("cell",av),("many",av),("mark",av),("_law_mixed",aB),("_law_term",aB)])=true:=by decide +kernel
theorem abA:aP ["cell","many","mark"] ["cell","many"] (ak JR):=bw
abbrev CH:Stmt:=top 31
abbrev CJ:Type:=List Int×Nat×Nat×Nat×List Str×Bool
def tM:CJ->List L3.D:=fun(s,p,t,m,hh,cl)=>[.lst (s.map .int),.int (p:Nat),.int (t:Nat),.int (m:Nat),.lst (hh.map .str),.bl cl]
def mh:CJ->Prop:=fun(s,p,t,m,hh,cl)=>s.length<=1000/\p<=100/\t<=100/\m<=1000/\hh.length<=1000
def tN:CJ->T:=fun(s,p,t,m,hh,cl)=>(.lst (((LK s p t m hh cl).map uV).map T.sh):T)
structure abB(X:Cx)(CL:Str->Addr):Prop extends cY X where
 aZ:Ln X 0 "script"
 iA:Ln X 1 "base"
 abC:X.env.kindOf "base" = some .cell
 d8:Ln X 2 "turn"
 bU:Ln X 3 "many"
 CK:X.env.kindOf "many" = some .cell
 dJ:Ln X 4 "three"
 WM:X.env.kindOf "three" = some .cell
 pH:Ln X 5 "closed"
 dD:Ln X 6 "cell"
 Rb:X.env.kindOf "cell" = some .cell
 cB:Ln X 7 "mixed"
 bC:Ln X 8 "rows"
 YM:Ln X 9 "k"
 k_k:X.env.kindOf "k" = some .cell
 yV:Ln X 10 "asks"
 iC:Ln X 11 "deeds"
 aX:Gl X "_law_cell_at"
 EH:Gl X "max"
 b9:Gl X "len"
 bG:Gl X "_law_mixed"
 bL:Gl X "range"
 eX:Gl X "tuple"
 pI:Gl X "_law_deed"
 cg:Fc X CL "_law_cell_at" 1 2 eS eU eV
 EI:X.mg "max" = none
 bV:X.mg "len" = none
 eW:Fc X CL "_law_mixed" 1 2 fP fQ fS
 bM:X.mg "range" = none
 cW:X.mg "tuple" = none
 CM:Fc X CL "_law_deed" 3 3 pF kG pG
 ae5:Fc X CL "_law_ask" 3 2 xD xE xF
theorem abD{b:Bx}(E:abB X CL){cC:CJ}(h:mh cC) :
   aE X CL b CH ["script","base","turn","many","three","closed","cell","mixed","rows","k","asks","deeds"] (tM cC) (tN cC):=by
 obtain⟨s,p,t,m,hh,cl⟩:=cC
 dsimp only [aE,mh,tM,tN]at h ⊢
 obtain⟨wk,hp0,ht0,hm,hl⟩:=h
 have hg:=aa8 s
 have i0:=amU ((p:Int)*3+(t:Int)) (b:=LJ s) (by omega)
 refine aR E.g E.dD (aD (c_ (s,((p:Int)*3+(t:Int)) % LJ s) E.cg E.aX (ai (aK E.aZ) (ai (ah (bJ (ah (bX (ah (ly (aK E.iA) (ah aj) (.inr ⟨by decide,by decide⟩))) (aK E.d8))) (ah (IU E.g E.EI E.EH (ai (ah aj) (ai (ah (cA (al8 ..) E.bV (aK E.aZ) E.b9)) aF)))) (show 0<LJ s by omega))) aF)) i0 rfl) (t2:=.sh (.int (TX s p t))) rfl) ?_
 refine aR E.g E.cB (aD (c_ ((TX s p t,41+(p:Int)*7+(t:Int))) E.eW E.bG (ai (aK E.dD) (ai (ah (bX (ah (bX (ah aj) (ah (ly (aK E.iA) (ah aj) (.inr ⟨by decide,by decide⟩))))) (aK E.d8))) aF)) (trivial) rfl) (t2:=.sh (.int (ED s p t))) rfl) ?_
 show dZ X CL b _ _ {nx:=_,rt:=fun zV _=>zV=T.lst (((LK s p t m hh cl).map uV).map T.sh),bk:=_,ct:=_}
 unfold LK
 have e1:∀n,fr1 s p t m hh n=(List.range n).map fun(k:Nat)=>(asG (TX s p t) (ED s p t) m k,dsG (TX s p t) (ED s p t) p m hh k):=fun n=>rfl
 have e2:fr2 s p t m hh cl=if (cl || decide (ED s p t / 24 % 2=0))=true then [([],[It.iV (wu (TX s p t+(p:Int)) m hh)].take (ED s p t / 48 % 2).toNat)] else []:=rfl
 generalize TX s p t=c at e1 e2 ⊢
 generalize ED s p t=x at e1 e2 ⊢
 have k0:=amU x (b:=4) (by decide)
 have k1:=amW x (b:=4) (by decide)
 have a0:=amU (x / 4) (b:=2) (by decide)
 have a1:=amW (x / 4) (b:=2) (by decide)
 have d0:=amU (x / 8) (b:=3) (by decide)
 have d1:=amW (x / 8) (b:=3) (by decide)
 have q0:=amU (x / 48) (b:=2) (by decide)
 refine aR E.g E.bC (lz cS (amR _)) ?_
 refine ig E.g E.YM (fun j δ=>∃(o9 A8 Rc:Option T),δ=[some (.sh (.lst (s.map .int))),some (.sh (.int (p:Nat))),some (.sh (.int (t:Nat))),some (.sh (.int (m:Nat))),some (.sh (.lst (hh.map .str))),some (.sh (.bl cl)),some (.sh (.int c)),some (.sh (.int x)),some (.lst (((fr1 s p t m hh j).map uV).map T.sh)),o9,A8,Rc]) (cu E.bM (ah (bJ (aK E.cB) (ah aj) (by decide))) (by omega) E.bL) ⟨_,_,_,by rw[e1];rfl⟩ (fun j δ ⟨_,_,_,e⟩=>by subst e;exact amh rfl) ?turn ?fin
 case turn=>
   rintro j d δ hj ⟨o9,A8,Rc,rfl⟩
   obtain⟨rfl,Fg⟩:=fM hj
   rw[am0]
   have hjn:j<4:=by omega
   refine oQ (p:=fun _=>true) (gg:=fun d=>T.sh (akG (c / (d.uJ+2)+5*(j:Int)) m)) E.g E.yV (bI (.cons E.dD.1 (.inl E.Rb) (.cons E.YM.1 (.inl E.k_k) (.cons E.bU.1 (.inl E.CK) .nil))) (by decide +kernel)) (cu E.bM (ah (bX (ah aj) (ah (bJ (ah (eN (aK E.cB) (ah aj) ⟨by decide,by decide⟩)) (ah aj) (by decide))))) (by omega) E.bL) (.inr rfl) (fun C s0 H0 f0 b' d hd=>?abE) (anW (g7 (by simp[ck];omega))) ?Rf (by exact amh rfl) (jl ⟨_,rfl⟩)
   case abE=>
     obtain⟨a,ha,rfl⟩:=iz hd
     exact⟨rfl,fun _=>(c_ ((c / ((a:Int)+2)+5*(j:Int),m)) (gC E.ae5) (dH (by decide +kernel)) (ai (ah (bX (ah (eN (ah (v_ (cJ (i:=1) rfl (by decide +kernel)))) (ah (bX (ah (v_ (cy (i:=0) rfl (by decide +kernel)))) (ah aj))) (⟨by omega,by omega⟩))) (ah (ly (ah aj) (ah (v_ (cJ (i:=2) rfl (by decide +kernel)))) (.inl ⟨by decide,by decide⟩))))) (ai (ah (v_ (cJ (i:=3) rfl (by decide +kernel)))) aF)) (hm) rfl)⟩
   case Rf=>
   rw[iW (f:=fun(a:Nat)=>akG (c / ((a:Int)+2)+5*(j:Int)) m) (1+x / 4 % 2) (fun a=>by rw[am0];rfl)]
   refine oQ (p:=fun _=>true) (gg:=fun d=>T.sh (It.iV (wu (c / (d.uJ+1)+3*(j:Int)+(p:Int)) m hh)).d) E.g E.iC (bI (.cons E.iA.1 (.inl E.abC) (.cons E.dD.1 (.inl E.Rb) (.cons E.YM.1 (.inl E.k_k) (.cons E.bU.1 (.inl E.CK) (.cons E.dJ.1 (.inl E.WM) .nil))))) (by decide +kernel)) (cu E.bM (ah (bJ (ah (eN (aK E.cB) (ah aj) ⟨by decide,by decide⟩)) (ah aj) (by decide))) (by omega) E.bL) (.inr rfl) (fun C s0 H0 f0 b' d hd=>?Rg) (anW (g7 (by simp[ck];omega))) ?Rh (by exact amh rfl) (jl ⟨_,rfl⟩)
   case Rg=>
     obtain⟨a,ha,rfl⟩:=iz hd
     exact⟨rfl,fun _=>aD (c_ ((c / ((a:Int)+1)+3*(j:Int)+(p:Int),m,hh)) (gC E.CM) (dH (by decide +kernel)) (ai (ah (bX (ah (bX (ah (eN (ah (v_ (cJ (i:=2) rfl (by decide +kernel)))) (ah (bX (ah (v_ (cy (i:=0) rfl (by decide +kernel)))) (ah aj))) (⟨by omega,by omega⟩))) (ah (ly (ah aj) (ah (v_ (cJ (i:=3) rfl (by decide +kernel)))) (.inl ⟨by decide,by decide⟩))))) (ah (v_ (cJ (i:=1) rfl (by decide +kernel)))))) (ai (ah (v_ (cJ (i:=4) rfl (by decide +kernel)))) (ai (ah (v_ (cJ (i:=5) rfl (by decide +kernel)))) aF))) (by dsimp only [kG];exact(⟨hm,hl⟩)) (sV _)) rfl⟩
   case Rh=>
   rw[iW (f:=fun(a:Nat)=>(It.iV (wu (c / ((a:Int)+1)+3*(j:Int)+(p:Int)) m hh)).d) (x / 8 % 3) (fun a=>by rw[am0];rfl)]
   have hA:((List.range (1+x / 4 % 2).toNat).map fun(a:Nat)=>akG (c / ((a:Int)+2)+5*(j:Int)) m)=asG c x m j:=rfl
   have hD:((List.range (x / 8 % 3).toNat).map fun(a:Nat)=>(It.iV (wu (c / ((a:Int)+1)+3*(j:Int)+(p:Int)) m hh)).d)=(dsG c x p m hh j).map It.d:=by unfold dsG;rw[amy];rfl
   rw[hA,hD]
   have hlen:(((fr1 s p t m hh j).map uV).map T.sh).length<=1000000:=by rw[al8,al8,e1,al8,amv];omega
   refine vO E.bC.1 rfl (aQ (ds:=[.tup (asG c x m j),.tup ((dsG c x p m hh j).map It.d)]) (au (fq E.cW (vL E.yV.1) (Jm c x m j) E.eX) (au (fq E.cW (vL E.iC.1) (cG _) E.eX) aW)) (aq rfl)) rfl hlen (aC ?_)
   rw[e1 (j+1),VP,← e1 j]
   exact⟨_,_,_,rfl⟩
 case fin=>
   rintro δ ⟨o9,A8,Rc,rfl⟩
   rw[show(ck 0 (x % 4).toNat).length=(x % 4).toNat by simp[ck]]
   obtain⟨R,hR⟩:∃R,R=fr1 s p t m hh (x % 4).toNat:=⟨_,rfl⟩
   have hRl:R.length<=4:=by rw[hR,e1,al8,amv];omega
   rw[← hR]
   refine iM (uF (sM (nW (v_ E.pH.1)) (fun _=>qY ((f9 (ah (bJ (ah (eN (aK E.cB) (ah aj) ⟨by decide,by decide⟩)) (ah aj) (by decide))) (ah aj)).1)))) (fun hp=>?_) (fun hp=>aC ?_)
   . rw[amx hp]at e2
     refine aR E.g E.iC (aD (jI (ds:=[(It.iV (wu (c+(p:Int)) m hh)).d]) (au (aD (c_ ((c+(p:Int),m,hh)) E.CM E.pI (ai (ah (bX (aK E.dD) (aK E.iA))) (ai (aK E.bU) (ai (aK E.dJ) aF))) (by dsimp only [kG];exact(⟨hm,hl⟩)) (sV _)) (t2:=.sh (It.iV (wu (c+(p:Int)) m hh)).d) rfl) aW) (aq rfl)) (t2:=.lst (([It.iV (wu (c+(p:Int)) m hh)].map It.d).map T.sh)) rfl) ?_
     have e3:cutD ([It.iV (wu (c+(p:Int)) m hh)].map It.d) none (some (x / 48 % 2))=([It.iV (wu (c+(p:Int)) m hh)].take (x / 48 % 2).toNat).map It.d:=by rw[uU (aoO q0).symm,aoq]
     refine vO E.bC.1 rfl (aQ (ds:=[.tup [],.tup (([It.iV (wu (c+(p:Int)) m hh)].take (x / 48 % 2).toNat).map It.d)]) (au (aQ (ds:=[]) aW (aq rfl)) (au (fq E.cW (Eb (dI (sO (vL E.iC.1) (cG _) mL (mO (ah (bJ (ah (eN (aK E.cB) (ah aj) ⟨by decide,by decide⟩)) (ah aj) (by decide)))))) (congrArg L3.D.lst e3)) (cG _) E.eX) aW)) (aq rfl)) rfl (by rw[al8,al8];omega) (aC ?_)
     refine bT (vM E.bC.1) ?_
     show T.lst _=T.lst _
     rw[e2,ams,ams]
     rfl
   . rw[amq (by rw[hp];exact amu)]at e2
     refine bT (vM E.bC.1) ?_
     show T.lst _=T.lst _
     rw[e2,amQ]
theorem cH:lQ (ak CH) ([("script",av),("base",.cell),("turn",av),("many",.cell),("three",.cell),("closed",av),("cell",.cell),("mixed",av),("rows",av),("k",.cell),("asks",av),("deeds",av),("_law_cell_at",aB),("max",aB),("len",aB),("_law_mixed",aB),("range",aB),("tuple",aB),("_law_deed",aB)])=true:=by decide +kernel
theorem WN:aP ["script","base","turn","many","three","closed","cell","mixed","rows","k","asks","deeds"] ["script","base","turn","many","three","closed"] (ak CH):=bw
abbrev xG:Stmt:=top 32
abbrev xH:Type:=List Int×Nat×Nat×List Str×Bool
def p7:xH->List L3.D:=fun(s,n,m,hh,cl)=>[.lst (s.map .int),.int (n:Nat),.int (m:Nat),.lst (hh.map .str),.bl cl]
def p8:xH->Prop:=fun(s,n,m,hh,cl)=>s.length<=1000/\n<=100/\m<=1000/\hh.length<=1000
def p9:xH->T:=fun(s,n,m,hh,cl)=>(.lst ((Fj s m hh cl (3*n)).map vV):T)
structure WO(X:Cx)(CL:Str->Addr):Prop extends cY X where
 aZ:Ln X 0 "script"
 jJ:Ln X 1 "bases"
 bU:Ln X 2 "many"
 dJ:Ln X 3 "three"
 pH:Ln X 4 "closed"
 xJ:Ln X 5 "alike"
 kZ:Ln X 6 "faces"
 iA:Ln X 7 "base"
 d8:Ln X 8 "turn"
 bC:Ln X 9 "rows"
 CN:Ln X 10 "never"
 bG:Gl X "_law_mixed"
 aX:Gl X "_law_cell_at"
 bL:Gl X "range"
 vY:Gl X "_law_face"
 b9:Gl X "len"
 eW:Fc X CL "_law_mixed" 1 2 fP fQ fS
 cg:Fc X CL "_law_cell_at" 1 2 eS eU eV
 bM:X.mg "range" = none
 Ri:Fc X CL "_law_face" 4 6 tM mh tN
 bV:X.mg "len" = none
theorem WQ{b:Bx}(E:WO X CL){cC:xH}(h:p8 cC) :
   aE X CL b xG ["script","bases","many","three","closed","alike","faces","base","turn","rows","never"] (p7 cC) (p9 cC):=by
 obtain⟨s,n,m,hh,cl⟩:=cC
 dsimp only [aE,p8,p7,p9]at h ⊢
 obtain⟨wk,hn,hm,hl⟩:=h
 have iT:∀(x:L3.D) (l:List It),x.gA=true->(L3.D.tup (l.map It.d)).gA=true:=fun _ l _=>cG l
 refine aR E.g E.xJ (aD (f9 (ah (bJ (ah (c_ ((bF s 0,47)) E.eW E.bG (ai (ah (c_ ((s,0)) E.cg E.aX (ai (aK E.aZ) (ai (ah aj) aF)) (show(0:Int)<=0 by omega) rfl)) (ai (ah aj) aF)) (trivial) rfl)) (ah aj) (by decide))) (ah aj)).2 (t2:=.sh (.bl (B7 s))) rfl) ?_
 refine aR E.g E.kZ (aD (lz cS (amR _)) (t2:=.lst ((Fj s m hh cl 0).map vV)) rfl) ?_
 refine ig E.g E.iA (fun p δ=>∃(o7 o8 o9 A8:Option T),δ=[some (.sh (.lst (s.map .int))),some (.sh (.int (n:Nat))),some (.sh (.int (m:Nat))),some (.sh (.lst (hh.map .str))),some (.sh (.bl cl)),some (.sh (.bl (B7 s))),some (.lst ((Fj s m hh cl (3*p)).map vV)),o7,o8,o9,A8]) (cu E.bM (aK E.jJ) (by omega) E.bL) ⟨_,_,_,_,rfl⟩ (fun j δ ⟨_,_,_,_,e⟩=>by subst e;exact amh rfl) ?turn ?fin
 case fin=>
   rintro δ ⟨o7,o8,o9,A8,rfl⟩
   rw[show(ck 0 (n:Int).toNat).length=n by simp[ck]]
   exact bT (vM E.kZ.1) rfl
 case turn=>
 rintro p d δ hj ⟨o7,o8,o9,A8,rfl⟩
 obtain⟨rfl,Fg⟩:=fM hj
 rw[am0]
 have M9:p<n:=by omega
 refine ig E.g E.d8 (fun t δ=>∃(o8 o9 A8:Option T),δ=[some (.sh (.lst (s.map .int))),some (.sh (.int (n:Nat))),some (.sh (.int (m:Nat))),some (.sh (.lst (hh.map .str))),some (.sh (.bl cl)),some (.sh (.bl (B7 s))),some (.lst ((Fj s m hh cl (3*p+t)).map vV)),some (.sh (.int (p:Nat))),o8,o9,A8]) (cu E.bM (ah aj) (by omega) E.bL) ⟨_,_,_,rfl⟩ (fun j δ ⟨_,_,_,e⟩=>by subst e;exact amh rfl) ?mj ?fin2
 case fin2=>
   rintro δ ⟨o8,o9,A8,rfl⟩
   exact aC ⟨_,_,_,_,rfl⟩
 case mj=>
 rintro t d δ hj ⟨o8,o9,A8,rfl⟩
 obtain⟨rfl,als⟩:=fM hj
 rw[am0]
 have ht3:t<3:=by
   have:(3:Int).toNat=3:=rfl
   omega
 refine aR E.g E.bC (aD (c_ ((s,p,t,m,hh,cl)) E.Ri E.vY (ai (aK E.aZ) (ai (aK E.iA) (ai (aK E.d8) (ai (aK E.bU) (ai (aK E.dJ) (ai (aK E.pH) aF)))))) (by dsimp only [mh];exact(⟨wk,by omega,by omega,hm,hl⟩)) (uW xj)) (t2:=vV (LK s p t m hh cl)) rfl) ?_
 refine AH (fun δ=>δ=[some (.sh (.lst (s.map .int))),some (.sh (.int (n:Nat))),some (.sh (.int (m:Nat))),some (.sh (.lst (hh.map .str))),some (.sh (.bl cl)),some (.sh (.bl (B7 s))),some (.lst ((Fj s m hh cl (3*p+t)).map vV)),some (.sh (.int (p:Nat))),some (.sh (.int (t:Nat))),some (vV (mS s p t m hh cl)),A8]) (nW (v_ E.xJ.1)) (fun hp=>?_) (fun hp=>?_) ?_
 . refine aR E.g E.bC (aD (c_ ((s,0,t,m,hh,true)) E.Ri E.vY (ai (aK E.aZ) (ai (ah aj) (ai (aK E.d8) (ai (aK E.bU) (ai (aK E.dJ) (ai (ah Yb) aF)))))) (by dsimp only [mh];exact(⟨wk,by omega,by omega,hm,hl⟩)) (uW xj)) (t2:=vV (mS s p t m hh cl)) (by unfold mS;rw[if_pos hp];rfl)) (aC rfl)
 . exact aC (by unfold mS;rw[amq (by rw[hp];exact amu)];rfl)
 rintro δ rfl
 have i1:=xm (s:=s) (p:=p) (t:=t) (m:=m) (hh:=hh) (cl:=cl)
 have n1:=B8 s p t m hh cl
 have q1:=Gq (s:=s) (p:=p) (t:=t) (m:=m) (hh:=hh) (cl:=cl)
 have p1:B7 s=true->0<(mS s p t m hh cl).length:=fun ha=>by unfold mS;rw[amx ha];exact xh ..
 refine AH (fun δ=>δ=[some (.sh (.lst (s.map .int))),some (.sh (.int (n:Nat))),some (.sh (.int (m:Nat))),some (.sh (.lst (hh.map .str))),some (.sh (.bl cl)),some (.sh (.bl (B7 s))),some (.lst ((Fj s m hh cl (3*p+t)).map vV)),some (.sh (.int (p:Nat))),some (.sh (.int (t:Nat))),some (vV (vU s p t m hh cl)),A8]) (uF (uG (nW (v_ E.xJ.1)) (fun _=>wW (f9 (aK E.iA) (ah aj)).1))) (fun hp=>?_) (fun hp=>?_) ?_
 . have Fb:(B7 s&&decide (p=0))=true:=by
     rw[amI]at hp ⊢
     exact⟨hp.1,am6 (by have:=amO hp.2;omega)⟩
   rw[show vU s p t m hh cl=LQ t (mS s p t m hh cl) by unfold vU;rw[amx Fb]]
   have Es:=p1 (amI _ _▸Fb).1
   generalize mS s p t m hh cl=R at i1 n1 q1 Es ⊢
   have zX:rW (R.map uV) (-1)=some (uV (R.getD (R.length-1) oz)):=by
     rw[abe (by rw[al8];exact Es),amg,al8,amb,al9 (by omega)]
     rfl
   have Mi:D.aY (R.getD (R.length-1) oz).1=true:=by
     rw[amb,al9 (by omega)]
     exact i1 _ (ano _)
   have e1:(LQ t R).map uV=(R.map uV).set (R.length-1) (.tup [.tup (R.getD (R.length-1) oz).1,.tup ((R.getD (R.length-1) oz).2.map It.d++[(LN t).d])]):=by
     unfold LQ
     rw[List.map_set]
     show _=(R.map uV).set (R.length-1) _
     congr 1
     show L3.D.tup [_,.tup (((R.getD (R.length-1) oz).2++[LN t]).map It.d)]=_
     rw[ams]
     rfl
   have hsm:=q1 _ (jB (l:=R) (k:=R.length-1) (z:=oz) (by omega))
   generalize hq:R.getD (R.length-1) oz=q at zX Mi e1 hsm
   refine Oq E.bC.1 (aQ (ds:=[.tup q.1,.tup (q.2.map It.d++[(LN t).d])]) (au (gG (dN (c5 (vL E.bC.1) (ah (lB (ah aj))) zX) (ah aj) (aG (j:=0) rfl)) Mi) (au (lU (ds:=q.2.map It.d) (q8:=[(LN t).d]) (gG (dN (c5 (vL E.bC.1) (ah (lB (ah aj))) zX) (ah aj) (aG (j:=1) rfl)) (cG _)) (aD (aQ (au (aQ (au fk (au fk (au (aQ (au (lB (ah aj)) (au (v_ E.d8.1) aW)) (aq rfl)) aW))) (aq rfl)) aW) (aq rfl)) rfl) ?z) aW)) (aq rfl)) (ah (lB (ah aj))) rfl (j:=R.length-1) ?ix (aC ?eq)
   case z=>rw[amE,al8];have:=hsm.2;show _+1<=_;omega
   case ix=>rw[al8,al8];exact Jq Es
   case eq=>
     show _=[_,_,_,_,_,_,_,_,_,some (T.lst (((LQ t R).map uV).map T.sh)),_]
     rw[e1,List.map_set]
     rfl
 . have Fb:¬ (B7 s&&decide (p=0))=true:=by
     intro h
     rw[amI]at h
     have:(B7 s&&decide ((p:Int)=0))=true:=by rw[amI];exact⟨h.1,am6 (by have:=amO h.2;omega)⟩
     rw[this]at hp
     cases hp
   rw[show vU s p t m hh cl=mS s p t m hh cl by unfold vU;rw[amq Fb]]
   exact aC rfl
 rintro δ rfl
 have i3:=tD (s:=s) (p:=p) (t:=t) (m:=m) (hh:=hh) (cl:=cl)
 have n3:=Jo s p t m hh cl
 have q3:=Gr (s:=s) (p:=p) (t:=t) (m:=m) (hh:=hh) (cl:=cl)
 refine AH (fun δ=>∃A8,δ=[some (.sh (.lst (s.map .int))),some (.sh (.int (n:Nat))),some (.sh (.int (m:Nat))),some (.sh (.lst (hh.map .str))),some (.sh (.bl cl)),some (.sh (.bl (B7 s))),some (.lst ((Fj s m hh cl (3*p+t)).map vV)),some (.sh (.int (p:Nat))),some (.sh (.int (t:Nat))),some (vV (AZ s p t m hh cl)),A8]) (uF (uG (nW (v_ E.xJ.1)) (fun _=>wW (f9 (aK E.iA) (ah aj)).1))) (fun hp=>?_) (fun hp=>?_) ?_
 . have Fb:(B7 s&&decide (p=1))=true:=by
     rw[amI]at hp ⊢
     exact⟨hp.1,am6 (by have:=amO hp.2;omega)⟩
   rw[show AZ s p t m hh cl=wB t (vU s p t m hh cl) by unfold AZ;rw[amx Fb]]
   generalize vU s p t m hh cl=R at i3 n3 q3 ⊢
   refine aR E.g E.CN (aD (aQ (au fk (au (aQ (au (lB (ah aj)) (au (v_ E.d8.1) aW)) (aq rfl)) (au (aQ (au (lB (ah aj)) (au (v_ E.d8.1) aW)) (aq rfl)) aW))) (aq rfl)) (t2:=.sh (rC t)) rfl) ?_
   refine iM (N8 (ah (cA (al8 ..) E.bV (vE E.bC.1 rfl (Qo R)) E.b9)) (ah aj)).1 (fun hq=>?_) (fun hq=>?_)
   . have hq:1<R.length:=by have:=amO hq;omega
     have zX:rW (R.map uV) 0=some (uV (R.getD 0 oz)):=qZ oz (by omega) (by omega)
     have Mi:D.aY (R.getD 0 oz).1=true:=by
       rw[amb,al9 (by omega)]
       exact i3 _ (ano _)
     have e1:(wB t R).map uV=(R.map uV).set 0 (.tup [.tup ([rC t]++(R.getD 0 oz).1),.tup ((R.getD 0 oz).2.map It.d)]):=by
       unfold wB
       rw[amx hq,List.map_set]
       rfl
     have hsm:=q3 _ (jB (l:=R) (k:=0) (z:=oz) (by omega))
     generalize hq:R.getD 0 oz=q at zX Mi e1 hsm
     refine Oq E.bC.1 (aQ (ds:=[.tup ([rC t]++q.1),.tup (q.2.map It.d)]) (au (lU (ds:=[rC t]) (q8:=q.1) (aD (aQ (ds:=[rC t]) (au (v_ E.CN.1) aW) (aq rfl)) rfl) (gG (dN (c5 (vE E.bC.1 rfl (Qo R)) (ah aj) zX) (ah aj) (aG (j:=0) rfl)) Mi) ?z) (au (gG (dN (c5 (vE E.bC.1 rfl (Qo R)) (ah aj) zX) (ah aj) (aG (j:=1) rfl)) (cG _)) aW)) (aq rfl)) (ah aj) rfl (j:=0) ?ix (aC (aC ⟨some (.sh (rC t)),?eq⟩))
     case z=>rw[amE];have:=hsm.1;show 1+_<=_;omega
     case ix=>rw[al8,al8];exact Ov (by omega) (by omega)
     case eq=>
       show _=[_,_,_,_,_,_,_,_,_,some (T.lst (((wB t R).map uV).map T.sh)),_]
       rw[e1,List.map_set]
       rfl
   . have hq:¬ 1<R.length:=by have:=anb hq;omega
     have e1:(wB t R).map uV=[.tup [.tup [rC t],.tup []]]++R.map uV:=by unfold wB;rw[amq hq];rfl
     refine aR E.g E.bC (aD (BG (ds:=[.tup [.tup [rC t],.tup []]]) (q8:=R.map uV) (dI (jI (ds:=[.tup [.tup [rC t],.tup []]]) (au (aQ (ds:=[.tup [rC t],.tup []]) (au (aQ (ds:=[rC t]) (au (v_ E.CN.1) aW) (aq rfl)) (au (aQ (ds:=[]) aW (aq rfl)) aW)) (aq rfl)) aW) (aq rfl))) (vE E.bC.1 rfl (Qo R)) rfl (vW fun q hq=>Qm q (i3 q hq)) (by rw[amE,al8];show 1+_<=_;omega)) (t2:=vV (wB t R)) (by unfold vV;rw[e1])) (aC (aC ⟨_,rfl⟩))
 . have Fb:¬ (B7 s&&decide (p=1))=true:=by
     intro h
     rw[amI]at h
     have:(B7 s&&decide ((p:Int)=1))=true:=by rw[amI];exact⟨h.1,am6 (by have:=amO h.2;omega)⟩
     rw[this]at hp
     cases hp
   rw[show AZ s p t m hh cl=vU s p t m hh cl by unfold AZ;rw[amq Fb]]
   exact aC ⟨_,rfl⟩
 rintro δ ⟨A8,rfl⟩
 have hlen:((Fj s m hh cl (3*p+t)).map vV).length<=1000000:=by unfold Fj;rw[al8,al8,amv];omega
 refine vO E.kZ.1 rfl (vM E.bC.1) rfl hlen (aC ?_)
 rw[show 3*p+(t+1)=3*p+t+1 by omega,Qn s m hh cl p t ht3]
 exact⟨_,_,_,rfl⟩
theorem dG:lQ (ak xG) ([("script",av),("bases",av),("many",av),("three",av),("closed",av),("alike",av),("faces",av),("base",av),("turn",av),("rows",av),("never",av),("_law_mixed",aB),("_law_cell_at",aB),("range",aB),("_law_face",aB),("len",aB)])=true:=by decide +kernel
theorem Rj:aP ["script","bases","many","three","closed","alike","faces","base","turn","rows","never"] ["script","bases","many","three","closed"] (ak xG):=bw
abbrev CP:Stmt:=top 33
abbrev CQ:Type:=List Int×List Nat×Nat×Nat×Nat
def tO:CQ->List L3.D:=fun(s,ks,f,t,r)=>[.lst (s.map .int),.lst ((dF ks).map .int),.int (f:Nat),.int (t:Nat),.int (r:Nat)]
def tP:CQ->Prop:=fun(s,ks,f,t,r)=>s.length<=1000/\f<ks.length/\ks.length<=1000/\t<=100/\r<=100
def tQ:CQ->T:=fun(s,ks,f,t,r)=>(.sh (.int (LV s ks f t r:Nat)):T)
structure abF(X:Cx)(CL:Str->Addr):Prop extends cY X where
 aZ:Ln X 0 "script"
 ja:Ln X 1 "kinds"
 WR:X.env.kindOf "kinds" = some .cell
 gw:Ln X 2 "flat"
 d8:Ln X 3 "turn"
 A9:Ln X 4 "row"
 jJ:Ln X 5 "bases"
 cB:Ln X 6 "mixed"
 yW:Ln X 7 "wanted"
 Rk:X.env.kindOf "wanted" = some .cell
 aJ:Ln X 8 "found"
 EH:Gl X "max"
 bG:Gl X "_law_mixed"
 aX:Gl X "_law_cell_at"
 bL:Gl X "range"
 b9:Gl X "len"
 gY:Gl X "list"
 EI:X.mg "max" = none
 eW:Fc X CL "_law_mixed" 1 2 fP fQ fS
 cg:Fc X CL "_law_cell_at" 1 2 eS eU eV
 bM:X.mg "range" = none
 bV:X.mg "len" = none
 gZ:X.mg "list" = none
theorem abG{b:Bx}(E:abF X CL){cC:CQ}(h:tP cC) :
   aE X CL b CP ["script","kinds","flat","turn","row","bases","mixed","wanted","found"] (tO cC) (tQ cC):=by
 obtain⟨s,ks,f,t,r⟩:=cC
 dsimp only [aE,tP,tO,tQ]at h ⊢
 obtain⟨wk,hf,hk,ht,hr⟩:=h
 have yr:ks≠[]:=fun z=>by subst z;cases hf
 obtain⟨m1,m2⟩:=ah3 yr
 have zX:=lC hf
 have lk:((dF ks).map L3.D.int).length=ks.length:=by unfold dF;rw[al8,al8]
 refine aR E.g E.jJ (bX (ah (Vp E.g E.EI (aK E.ja) m1 m2 E.EH)) (ah aj)) ?_
 have j0:(0:Int)<=((ks.getD f 0:Nat):Int)+(t:Int)+(r:Int):=by omega
 have nb:0<((qD ks:Nat):Int)+1:=by omega
 refine aR E.g E.cB (c_ ((bF s (((ks.getD f 0:Nat):Int)+(t:Int)+(r:Int)),53)) E.eW E.bG (ai (ah (c_ ((s,((ks.getD f 0:Nat):Int)+(t:Int)+(r:Int))) E.cg E.aX (ai (aK E.aZ) (ai (ah (bX (ah (bX (c5 (aK E.ja) (aK E.gw) (zX)) (aK E.d8))) (aK E.A9))) aF)) (j0) rfl)) (ai (ah aj) aF)) (trivial) rfl) ?_
 refine aR E.g E.yW (bJ (aK E.cB) (aK E.jJ) (nb)) ?_
 refine AH (fun δ=>δ=[some (.sh (.lst (s.map .int))),some (.sh (.lst ((dF ks).map .int))),some (.sh (.int (f:Nat))),some (.sh (.int (t:Nat))),some (.sh (.int (r:Nat))),some (.sh (.int (((qD ks:Nat):Int)+1))),some (.sh (.int (rA (bF s (((ks.getD f 0:Nat):Int)+(t:Int)+(r:Int))) 53))),some (.sh (.int (YH s ks f t r))),none]) (f9 (ah (bJ (ah (c_ ((bF s 0,47)) E.eW E.bG (ai (ah (c_ ((s,0)) E.cg E.aX (ai (aK E.aZ) (ai (ah aj) aF)) (show(0:Int)<=0 by omega) rfl)) (ai (ah aj) aF)) (trivial) rfl)) (ah aj) (by decide))) (ah aj)).1 (fun hp=>?_) (fun hp=>?_) ?_
 . have t0:=amU ((t:Int)+(r:Int)) (b:=3) (by decide)
   have t1:=amW ((t:Int)+(r:Int)) (b:=3) (by decide)
   refine aR E.g E.yW (aD (bJ (ah (bX (ah (dO (v_ E.ja.1) (aK E.gw) zX)) (c5 (dI (jI (BL (l:=[1,0,2]) rfl) (aq rfl))) (ah (bJ (ah (bX (aK E.d8) (aK E.A9))) (ah aj) (by decide))) (qZ (0:Int) (l:=[1,0,2]) t0 (by show _<(3:Int);exact t1))))) (aK E.jJ) nb) (t2:=.sh (.int (YH s ks f t r))) ?_) (aC rfl)
   unfold YH
   rw[amx (show B7 s=true from hp)]
 . refine aC ?_
   unfold YH
   rw[amq (by rw[show B7 s=false from hp];exact amu)]
   rfl
 rintro δ rfl
 unfold LV
 generalize YH s ks f t r=w
 have ef:(((ck 0 (ks.length:Int).toNat).filter fun d=>decide (((ks.getD d.uJ.toNat 0:Nat):Int)=w)).map fun d=>T.sh (.int d.uJ))=((dF (TY ks w)).map L3.D.int).map T.sh:=by
   unfold TY dF ck
   rw[amS,an6,amy,amy,amy]
   have e1:((fun d:L3.D=>decide (((ks.getD d.uJ.toNat 0:Nat):Int)=w))∘fun(k:Nat)=>L3.D.int (0+(k:Int)))=fun(k:Nat)=>decide (((ks.getD k 0:Nat):Int)=w):=by
     funext k
     show decide (((ks.getD (0+(k:Int)).toNat 0:Nat):Int)=w)=_
     rw[am0,amS]
   rw[e1]
   exact amL fun k _=>by show T.sh (.int (0+(k:Int)))=_;rw[am0];rfl
 refine oQ (p:=fun d=>decide (((ks.getD d.uJ.toNat 0:Nat):Int)=w)) (gg:=fun d=>T.sh (.int d.uJ)) E.g E.aJ (bI (.cons E.ja.1 (.inl E.WR) (.cons E.yW.1 (.inl E.Rk) .nil)) (by decide +kernel)) (cu E.bM (ah (cA lk E.bV (aK E.ja) E.b9)) (by omega) E.bL) (.inr rfl) (fun C s0 H0 f0 b' d hd=>?xr) (by simp[ck,amE];omega) ?rest (by exact amh rfl) (jl ⟨_,rfl⟩)
 case xr=>
   obtain⟨a,ha,rfl⟩:=iz hd
   have ha:a<ks.length:=by omega
   exact⟨(f9 (c5 (ah (v_ (cJ (i:=1) rfl (by decide +kernel)))) (ah (v_ (cy (i:=0) rfl (by decide +kernel)))) (lC ha)) (ah (v_ (cJ (i:=2) rfl (by decide +kernel))))).1,fun _=>aD (v_ (cy (i:=0) rfl (by decide +kernel))) rfl⟩
 case rest=>
 rw[ef]
 have lf:(dF (TY ks w)).length<=1000:=by unfold dF TY;rw[al8];refine am9 (List.length_filter_le _ _) ?_;rw[amv];exact hk
 refine AH (fun δ=>δ=[some (.sh (.lst (s.map .int))),some (.sh (.lst ((dF ks).map .int))),some (.sh (.int (f:Nat))),some (.sh (.int (t:Nat))),some (.sh (.int (r:Nat))),some (.sh (.int (((qD ks:Nat):Int)+1))),some (.sh (.int (rA (bF s (((ks.getD f 0:Nat):Int)+(t:Int)+(r:Int))) 53))),some (.sh (.int w)),some (.lst (((dF (LR ks w)).map .int).map T.sh))]) (Oo E.u (d1:=.lst ((dF (TY ks w)).map .int)) (d2:=.lst (([]:List Int).map .int)) (vL E.aJ.1) (dI (lz cS (amR _))) (.lst fun d hd=>by obtain⟨i,_,rfl⟩:=amj.mp hd;exact .int 59 i) (.lst fun d hd=>by cases hd)).1 (fun hp=>?_) (fun hp=>?_) ?_
 . rw[Ef]at hp
   have hp:dF (TY ks w)=[]:=amO hp
   have hp:TY ks w=[]:=by unfold dF at hp;exact List.map_eq_nil_iff.mp hp
   refine aR E.g E.aJ (aD (O5 E.g E.gZ E.bM (ah (cA lk E.bV (aK E.ja) E.b9)) hk E.gY E.bL) (t2:=.lst (((dF (LR ks w)).map .int).map T.sh)) (by unfold LR;rw[amx hp];rfl)) (aC rfl)
 . rw[Ef]at hp
   have hp:¬ dF (TY ks w)=[]:=anb hp
   refine aC ?_
   unfold LR
   rw[amq fun z=>hp (by rw[z];rfl)]
   rfl
 rintro δ rfl
 have Es:=Js ks w (by omega)
 have hl7:((dF (LR ks w)).map L3.D.int).length=(LR ks w).length:=by unfold dF;rw[al8,al8]
 generalize LR ks w=F at Es hl7 ⊢
 obtain⟨z0,z1⟩:=Qs (x:=rA (bF s (f:Nat)) (59+(t:Int)*5+(r:Int))) Es
 have hx:=lC z1
 rw[aoO z0]at hx
 have f0:(0:Int)<=(f:Int):=by omega
 exact bT (gG (c5 (vL E.aJ.1) (ah (bJ (ah (c_ ((bF s (f:Nat),59+(t:Int)*5+(r:Int))) E.eW E.bG (ai (ah (c_ ((s,(f:Int))) E.cg E.aX (ai (aK E.aZ) (ai (aK E.gw) aF)) (f0) rfl)) (ai (ah (bX (ah (bX (ah aj) (ah (ly (aK E.d8) (ah aj) (.inr ⟨by decide,by decide⟩))))) (aK E.A9))) aF)) (trivial) rfl)) (ah (cA hl7 E.bV (vL E.aJ.1) E.b9)) (by omega))) hx) rfl) rfl
theorem eY:lQ (ak CP) ([("script",av),("kinds",.cell),("flat",av),("turn",av),("row",av),("bases",av),("mixed",av),("wanted",.cell),("found",av),("max",aB),("_law_mixed",aB),("_law_cell_at",aB),("range",aB),("len",aB),("list",aB)])=true:=by decide +kernel
theorem WT:aP ["script","kinds","flat","turn","row","bases","mixed","wanted","found"] ["script","kinds","flat","turn","row"] (ak CP):=bw
abbrev tR:Stmt:=top 34
abbrev tS:Type:=List It×Nat×Nat×Nat
def mY:tS->List L3.D:=fun(l,f,n,to)=>[.tup (l.map It.d),.int (f:Nat),.int (n:Nat),.int (to:Nat)]
def mZ:tS->Prop:=fun(l,f,n,to)=>l.length<=1000
def m5:tS->T:=fun(l,f,n,to)=>(.sh (.tup ((M6 l f n to).map It.d)):T)
structure Rl(X:Cx)(CL:Str->Addr):Prop extends cY X where
 iC:Ln X 0 "deeds"
 gw:Ln X 1 "flat"
 cO:Ln X 2 "number"
 Rm:Ln X 3 "to"
 JT:Ln X 4 "ahead"
theorem Rn{b:Bx}(E:Rl X CL){cC:tS}(h:mZ cC) :
   aE X CL b tR ["deeds","flat","number","to","ahead"] (mY cC) (m5 cC):=by
 obtain⟨l,f,n,to⟩:=cC
 dsimp only [aE,mZ,mY,m5]at h ⊢
 have hl:l.length<=1000:=h
 show dZ X CL b _ _ {nx:=_,rt:=fun zV _=>zV=T.sh (.tup ((M6 l f n to).map It.d)),bk:=_,ct:=_}
 refine iM (f9 (ah (bJ (aK E.gw) (ah aj) (by decide))) (ah aj)).1 (fun hp=>?_) (fun hp=>aC ?_)
 . have hp:f % 3=0:=by have:=amO hp;omega
   unfold M6
   rw[amx hp]
   exact bT (v_ E.iC.1) rfl
 . have hp:¬ f % 3=0:=by have:=anb hp;omega
   unfold M6
   rw[amq hp]
   have c1:cutD (l.map It.d) none (some 1)=(l.take 1).map It.d:=by rw[uU (z:=1) (k:=1) rfl,aoq]
   have c2:cutD (l.map It.d) (some 1) none=(l.drop 1).map It.d:=by rw[tu (z:=1) (k:=1) rfl,List.map_drop]
   have n1:((l.take 1).map It.d).length<=1:=by rw[al8,amY];omega
   have n2:((l.drop 1).map It.d).length<=1000:=by rw[al8,aod];omega
   refine aR E.g E.JT (lU (ds:=[(It.out ((f:Int)+1)).d,(It.keep 0 (-1) ((f:Int)+1)).d]) (q8:=(l.take 1).map It.d) (aD (aQ (au (aQ (au fk (au (bX (aK E.gw) (ah aj)) aW)) (aq rfl)) (au (aQ (au fk (au aj (au (lB (ah aj)) (au (bX (aK E.gw) (ah aj)) aW)))) (aq rfl)) aW)) (aq rfl)) rfl) (c1▸yE (v_ E.iC.1) mL (mO (ah aj))) (by rw[amE];show 2+_<=_;omega)) ?_
   refine bT (aD (lU (q8:=[(It.yq ((to:Int)+1)).d]) (lU (q8:=(l.drop 1).map It.d) (lU (q8:=[(It.way (n:Nat)).d]) (v_ E.JT.1) (aD (aQ (au (aQ (au fk (au (v_ E.cO.1) aW)) (aq rfl)) aW) (aq rfl)) rfl) ?z1) (c2▸yE (v_ E.iC.1) (mO (ah aj)) mL) ?z2) (aD (aQ (au (aQ (au fk (au (bX (aK E.Rm) (ah aj)) aW)) (aq rfl)) aW) (aq rfl)) rfl) ?z3) ?e) rfl
   case z1=>rw[amE,amn];show 2+_+1<=_;omega
   case z2=>rw[amE,amn,amn];show 2+_+1+_<=_;omega
   case z3=>rw[amE,amn,amn,amn];show 2+_+1+_+1<=_;omega
   case e=>simp only[ams];rfl
theorem mq:lQ (ak tR) ([("deeds",av),("flat",av),("number",av),("to",av),("ahead",av)])=true:=by decide +kernel
theorem Mj:aP ["deeds","flat","number","to","ahead"] ["deeds","flat","number","to"] (ak tR):=bw
abbrev CT:Stmt:=top 35
abbrev CV:Type:=List Int×Nat×Nat
def tT:CV->List L3.D:=fun(s,a,m)=>[.lst (s.map .int),.int (a:Nat),.int (m:Nat)]
def pJ:CV->Prop:=fun(s,a,m)=>m<=1000/\a<=1000
def tU:CV->T:=fun(s,a,m)=>(.sh (Qt s a m):T)
structure abH(X:Cx)(CL:Str->Addr):Prop extends cY X where
 aZ:Ln X 0 "script"
 yX:Ln X 1 "at"
 bU:Ln X 2 "many"
 tV:Ln X 3 "memory"
 bG:Gl X "_law_mixed"
 aX:Gl X "_law_cell_at"
 eX:Gl X "tuple"
 eW:Fc X CL "_law_mixed" 1 2 fP fQ fS
 cg:Fc X CL "_law_cell_at" 1 2 eS eU eV
 cW:X.mg "tuple" = none
theorem abI{b:Bx}(E:abH X CL){cC:CV}(h:pJ cC) :
   aE X CL b CT ["script","at","many","memory"] (tT cC) (tU cC):=by
 obtain⟨s,a,m⟩:=cC
 dsimp only [aE,pJ,tT,tU]at h ⊢
 obtain⟨hm,ha⟩:=h
 refine AH (fun δ=>δ=[some (.sh (.lst (s.map .int))),some (.sh (.int (VR s a:Nat))),some (.sh (.int (m:Nat))),none]) (f9 (ah (bJ (ah (c_ ((bF s 0,71)) E.eW E.bG (ai (ah (c_ ((s,0)) E.cg E.aX (ai (aK E.aZ) (ai (ah aj) aF)) (show(0:Int)<=0 by omega) rfl)) (ai (ah aj) aF)) (trivial) rfl)) (ah aj) (by decide))) (ah aj)).1 (fun hp=>?_) (fun hp=>?_) ?_
 . have hp:rA (bF s 0) 71 % 4=0:=amO hp
   exact aR E.g E.yX (aD (bJ (aK E.yX) (ah aj) (by decide)) (t2:=.sh (.int (VR s a:Nat))) (by unfold VR;rw[amx hp];rfl)) (aC rfl)
 . have hp:¬ rA (bF s 0) 71 % 4=0:=anb hp
   exact aC (by unfold VR;rw[amq hp];rfl)
 rintro δ rfl
 unfold Qt mm7
 generalize VR s a=q
 refine aR E.g E.tV (aD (U3 (ds:=[.int (-1)]) (k:=(m:Int)+1) (dI (jI (au (lB (ah aj)) aW) (aq rfl))) (ah (bX (aK E.bU) (ah aj))) rfl (by omega) (by omega) (by rw[amE];show 1*_<=_;omega)) (t2:=.lst ((List.replicate (m+1) (L3.D.int (-1))).map T.sh)) ?r) ?_
 case r=>
   rw[show((m:Int)+1).toNat=m+1 by omega]
   refine congrArg (fun z=>T.lst (List.map T.sh z)) ?_
   generalize m+1=k
   induction k with
   | zero=>rfl
   | succ k ih=>rw[anx,an7,ih];rfl
 have q0:(0:Int)<=(q:Int):=by omega
 have nb:0<((m:Int)+1):=by omega
 refine Oq E.tV.1 (By (ah (bJ (ah (c_ ((bF s (q:Nat),73)) E.eW E.bG (ai (ah (c_ ((s,(q:Int))) E.cg E.aX (ai (aK E.aZ) (ai (aK E.yX) aF)) (q0) rfl)) (ai (ah aj) aF)) (trivial) rfl)) (ah (bX (aK E.bU) (ah aj))) (nb))) (ah aj)) (ah aj) rfl (j:=0) (by rw[al8,anJ];exact Ov (by omega) (by omega)) ?_
 have em:((List.replicate (m+1) (L3.D.int (-1))).map T.sh).set 0 (.sh (.int (rA (bF s (q:Nat)) 73 % ((m:Int)+1)-1)))=(L3.D.int (rA (bF s (q:Nat)) 73 % ((m:Int)+1)-1)::List.replicate m (.int (-1))).map T.sh:=by rw[anx];rfl
 have im:D.aY (L3.D.int (rA (bF s (q:Nat)) 73 % ((m:Int)+1)-1)::List.replicate m (.int (-1)))=true:=by
   refine iZ fun d hd=>?_
   rcases ami.mp hd with rfl|hd
   . rfl
   . rw[aoX hd];rfl
 show dZ X CL b _ [some (.sh (.lst (s.map .int))),some (.sh (.int (q:Nat))),some (.sh (.int (m:Nat))),some (.lst (((List.replicate (m+1) (L3.D.int (-1))).map T.sh).set 0 (.sh (.int (rA (bF s (q:Nat)) 73 % ((m:Int)+1)-1)))))] _
 rw[em]
 refine iM (f9 (ah (bJ (aK E.yX) (ah aj) (by decide))) (ah aj)).1 (fun hp=>?_) (fun hp=>aC ?_)
 . have hp:q % 3=1:=by have:=amO hp;omega
   rw[amx hp]
   exact bT (aQ (ds:=[.tup [.int 0,.int ((q:Int)+1),.int ((m:Int)+1)],.tup (L3.D.int (rA (bF s (q:Nat)) 73 % ((m:Int)+1)-1)::List.replicate m (.int (-1)))]) (au (aD (aQ (au aj (au (bX (aK E.yX) (ah aj)) (au (bX (aK E.bU) (ah aj)) aW))) (aq rfl)) rfl) (au (fq E.cW (vL E.tV.1) im E.eX) aW)) (aq rfl)) rfl
 . have hp:¬ q % 3=1:=by have:=anb hp;omega
   rw[amq hp]
   exact bT (aQ (ds:=[.tup [.int 0,.int ((q:Int)+1)],.tup (L3.D.int (rA (bF s (q:Nat)) 73 % ((m:Int)+1)-1)::List.replicate m (.int (-1)))]) (au (aD (aQ (au aj (au (bX (aK E.yX) (ah aj)) aW)) (aq rfl)) rfl) (au (fq E.cW (vL E.tV.1) im E.eX) aW)) (aq rfl)) rfl
theorem m7:lQ (ak CT) ([("script",av),("at",av),("many",av),("memory",av),("_law_mixed",aB),("_law_cell_at",aB),("tuple",aB)])=true:=by decide +kernel
theorem WU:aP ["script","at","many","memory"] ["script","at","many"] (ak CT):=bw
abbrev xK:Stmt:=top 36
abbrev xM:Type:=List Int×Nat×Bool
def qa:xM->List L3.D:=fun(s,q,cl)=>[.lst (s.map .int),.int (q:Nat),.bl cl]
def qb:xM->Prop:=fun(s,q,cl)=>s.length<=1000/\q<=100
def qc:xM->T:=fun(s,q,cl)=>(pt7 (xo s) (jF s) (V0 s) (VZ s q) (M7 s q cl):T)
structure WV(X:Cx)(CL:Str->Addr):Prop extends cY X where
 aZ:Ln X 0 "script"
 yZ:X.env.kindOf "script" = some .cell
 abJ:Ln X 1 "most"
 pH:Ln X 2 "closed"
 bU:Ln X 3 "many"
 CK:X.env.kindOf "many" = some .cell
 dJ:Ln X 4 "three"
 qd:Ln X 5 "boxes"
 jJ:Ln X 6 "bases"
 WW:X.env.kindOf "bases" = some .cell
 ja:Ln X 7 "kinds"
 kZ:Ln X 8 "faces"
 bC:Ln X 9 "rows"
 gw:Ln X 10 "flat"
 d8:Ln X 11 "turn"
 gP:Ln X 12 "steps"
 yV:Ln X 13 "asks"
 iC:Ln X 14 "deeds"
 Rm:Ln X 15 "to"
 m8:Ln X 16 "flats"
 xN:Ln X 17 "begin"
 EH:Gl X "max"
 Ro:Gl X "min"
 b9:Gl X "len"
 CW:Gl X "_law_signs"
 bL:Gl X "range"
 bG:Gl X "_law_mixed"
 aX:Gl X "_law_cell_at"
 CY:Gl X "_law_faces"
 EJ:Gl X "_law_next"
 zY:Gl X "_law_marked"
 pI:Gl X "_law_deed"
 EI:X.mg "max" = none
 Rp:X.mg "min" = none
 bV:X.mg "len" = none
 WX:Fc X CL "_law_signs" 2 1 pY pZ p6
 bM:X.mg "range" = none
 eW:Fc X CL "_law_mixed" 1 2 fP fQ fS
 cg:Fc X CL "_law_cell_at" 1 2 eS eU eV
 WY:Fc X CL "_law_faces" 5 5 p7 p8 p9
 abK:Fc X CL "_law_next" 2 5 tO tP tQ
 Rq:Fc X CL "_law_marked" 1 4 mY mZ m5
 CM:Fc X CL "_law_deed" 3 3 pF kG pG
 Rr:X.mg "str" = none
 CB:Fc X CL "_law_small" 1 1 lX lY lZ
 abL:Fc X CL "_law_flat" 2 3 tT pJ tU
theorem WZ{b:Bx}(E:WV X CL){cC:xM}(h:qb cC) :
   aE X CL b xK ["script","most","closed","many","three","boxes","bases","kinds","faces","rows","flat","turn","steps","asks","deeds","to","flats","begin"] (qa cC) (qc cC):=by
 obtain⟨s,q,cl⟩:=cC
 dsimp only [aE,qb,qa,qc]at h ⊢
 obtain⟨wk,hq⟩:=h
 have hn1:1<=n7 s q:=by unfold n7;omega
 have XZ:n7 s q<=100:=by unfold n7;omega
 obtain⟨b1,b2,b3⟩:=Qw s
 have Yi:=Gs s
 have hsl:=Jt s
 have ml:s.length % 4<4:=aow _ (by decide)
 refine aR E.g E.bU (aD (IU E.g E.EI E.EH (ai (ah aj) (ai (ah (IQ E.g E.Rp E.Ro (ai (ah (cA (al8 ..) E.bV (aK E.aZ) E.b9)) (ai (aK E.abJ) aF)))) aF))) (t2:=.sh (.int (n7 s q:Nat))) ?n) ?_
 case n=>
   refine congrArg (fun z=>T.sh (.int z)) ?_
   unfold n7
   repeat' split
   all_goals omega
 refine aR E.g E.dJ (aD (c_ (s) E.WX E.CW (ai (aK E.aZ) aF) (wk) ((aS (dg _)))) (t2:=.lst (((jF s).map .str).map T.sh)) rfl) ?_
 refine oQ (p:=fun _=>true) (gg:=fun d=>T.sh (dR (YJ d.uJ.toNat,iy (bF s (d.uJ+2))))) E.g E.qd (bI (.cons E.aZ.1 (.inl E.yZ) .nil) (by decide +kernel)) (cu E.bM (ah (bJ (ah (cA (al8 ..) E.bV (aK E.aZ) E.b9)) (ah aj) (by decide))) (by omega) E.bL) (.inr rfl) (fun C s0 H0 f0 b' d hd=>?abE) (by simp[ck,amE];omega) ?Rf (by exact amh rfl) (jl ⟨_,rfl⟩)
 case abE=>
   obtain⟨a,ha,rfl⟩:=iz hd
   have ha:a<4:=by omega
   obtain⟨⟨q1,q2⟩,q3,q4⟩:=Jv a ha
   have a0:(0:Int)<=(a:Int)+2:=by omega
   refine⟨rfl,fun _=>aD (aQ (ds:=[.str (YJ a),.int (iy (bF s ((a:Int)+2)))]) (au (aD (qW (ah fk) (ah (UQ E.Rr (dH (by decide +kernel)) (ah (v_ (cy (i:=0) rfl (by decide +kernel)))) (q4))) ((by rw[amE,q3];show 3+1<=_;omega))) rfl) (au (c_ (bF s ((a:Int)+2)) (gC E.CB) (dH (by decide +kernel)) (ai (ah (c_ ((s,(a:Int)+2)) (gC E.cg) (dH (by decide +kernel)) (ai (ah (v_ (cJ (i:=1) rfl (by decide +kernel)))) (ai (ah (bX (ah (v_ (cy (i:=0) rfl (by decide +kernel)))) (ah aj))) aF)) (a0) rfl)) aF) (trivial) rfl) aW)) (aq rfl)) rfl⟩
 case Rf=>
 have eB:((ck 0 ((s.length:Int) % 4).toNat).filter fun _=>true).map (fun d=>T.sh (dR (YJ d.uJ.toNat,iy (bF s (d.uJ+2)))))=((xo s).map dR).map T.sh:=by
   rw[iW (f:=fun(k:Nat)=>dR (YJ k,iy (bF s ((k:Int)+2)))) _ (fun k=>by show T.sh (dR (YJ (0+(k:Int)).toNat,iy (bF s ((0+(k:Int))+2))))=_;rw[am0,amS])]
   unfold xo
   rw[show((s.length:Int) % 4).toNat=s.length % 4 by omega]
   simp only[amy]
   rfl
 rw[eB]
 refine aR E.g E.jJ (aD (bX (ah aj) (ah (bJ (ah (c_ ((bF s 0,43)) E.eW E.bG (ai (ah (c_ ((s,0)) E.cg E.aX (ai (aK E.aZ) (ai (ah aj) aF)) (show(0:Int)<=0 by omega) rfl)) (ai (ah aj) aF)) (trivial) rfl)) (ah aj) (by decide)))) (t2:=.sh (.int (zM s:Nat))) (by rw[b3])) ?_
 have bp:0<((zM s:Nat):Int):=by omega
 refine oQ (p:=fun _=>true) (gg:=fun d=>T.sh (.int (rA (bF s d.uJ) 61 % ((zM s:Nat):Int)))) E.g E.ja (bI (.cons E.jJ.1 (.inl E.WW) (.cons E.aZ.1 (.inl E.yZ) .nil)) (by decide +kernel)) (cu E.bM (aK E.bU) (by omega) E.bL) (.inr rfl) (fun C s0 H0 f0 b' d hd=>?Rg) (by simp[ck,amE];omega) ?Rh (by exact amh rfl) (jl ⟨_,rfl⟩)
 case Rg=>
   obtain⟨a,ha,rfl⟩:=iz hd
   have a0:(0:Int)<=(a:Int):=by omega
   exact⟨rfl,fun _=>(bJ (ah (c_ ((bF s (a:Int),61)) (gC E.eW) (dH (by decide +kernel)) (ai (ah (c_ ((s,(a:Int))) (gC E.cg) (dH (by decide +kernel)) (ai (ah (v_ (cJ (i:=2) rfl (by decide +kernel)))) (ai (ah (v_ (cy (i:=0) rfl (by decide +kernel)))) aF)) (a0) rfl)) (ai (ah aj) aF)) (trivial) rfl)) (ah (v_ (cJ (i:=1) rfl (by decide +kernel)))) (bp))⟩
 case Rh=>
 have eK:((ck 0 ((n7 s q:Nat):Int).toNat).filter fun _=>true).map (fun d=>T.sh (.int (rA (bF s d.uJ) 61 % ((zM s:Nat):Int))))=((dF (uC s q)).map L3.D.int).map T.sh:=by
   rw[iW (f:=fun(k:Nat)=>.int (rA (bF s (k:Nat)) 61 % ((zM s:Nat):Int))) _ (fun k=>by rw[show(L3.D.int (0+(k:Int))).uJ=(k:Int) from am0 _])]
   unfold dF uC
   rw[amy,amy,amy,amy,amS]
   refine amL fun k _=>?_
   show T.sh (.int _)=T.sh (.int (((rA (bF s (k:Nat)) 61 % ((zM s:Nat):Int)).toNat:Nat):Int))
   rw[aoO (amU _ (by omega))]
 rw[eK]
 have bl:=VY s
 refine aR E.g E.kZ (kT (d:=.lst (V3 (Fl s cl))) (aD (c_ (s,zM s,(xo s).length,jF s,cl) E.WY E.CY (ai (aK E.aZ) (ai (aK E.jJ) (ai (ah (cA (al8 ..) E.bV (vL E.qd.1) E.b9)) (ai (vL E.dJ.1) (ai (aK E.pH) aF))))) ⟨wk,by omega,by omega,by omega⟩ ?cl) (t2:=.lst ((Fl s cl).map vV)) rfl) (V4 _)) ?_
 case cl=>
   show(T.lst ((Fj s (xo s).length (jF s) cl (3*zM s)).map vV)).clean=true
   rw[T.clean]
   refine Cb fun t ht=>?_
   obtain⟨r,hr,rfl⟩:=amj.mp ht
   unfold Fj at hr
   obtain⟨i,_,rfl⟩:=amj.mp hr
   exact uW B9
 refine aR E.g E.bC (aD oR (t2:=.dct (bZ (fj (Ca s (uC s q) (jF s) (Fl s cl) 0)))) rfl) ?_
 have AU:=Jw s q
 have hkt:=Qx s q
 show dZ X CL b _ _ {nx:=_,rt:=fun zV _=>zV=pt7 (xo s) (jF s) (V0 s) (VZ s q) (M7 s q cl),bk:=_,ct:=_}
 have eR:M7 s q cl=Ca s (uC s q) (jF s) (Fl s cl) (n7 s q*(jF s).length):=rfl
 rw[eR]
 have eP:VZ s q=(List.range (n7 s q)).map fun(k:Nat)=>Qt s k (n7 s q):=rfl
 have eG:V0 s=[.yq 0,.yq 1,.iV (wu (bF s 1) (xo s).length (jF s))]:=rfl
 have hFF:∀{k:Nat},k<3*zM s->(Fl s cl)[k]? = some (AZ s (k / 3) (k % 3) (xo s).length (jF s) cl):=Qy (s:=s) (cl:=cl)
 have hF2:∀k:Nat,k<3*zM s->∀r∈(Fl s cl).getD k [],D.aY r.1=true/\VQ 4 r:=fun k hk r hr=>by
   rw[amb,hFF hk]at hr
   exact⟨B9 r hr,Qq r hr⟩
 have hF3:∀k:Nat,k<3*zM s->((Fl s cl).getD k []).length<=5/\(Fl s cl)[k]? = some ((Fl s cl).getD k []):=fun k hk=>by
   rw[amb,hFF hk]
   exact⟨Jp ..,rfl⟩
 rw[eP,eG]
 clear eP eG eR hFF
 generalize Fl s cl=FF at hF2 hF3 ⊢
 generalize uC s q=ks at AU hkt ⊢
 generalize jF s=hs at Yi hsl ⊢
 generalize xo s=bs at bl ⊢
 generalize n7 s q=n at hn1 XZ AU ⊢
 generalize zM s=bn at b1 b2 hkt hF2 hF3 ⊢
 refine ig E.g E.gw (fun j δ=>∃(A8 Rc o12 Nb Nf Ml:Option T),δ=[some (.sh (.lst (s.map .int))),some (.sh (.int (q:Nat))),some (.sh (.bl cl)),some (.sh (.int (n:Nat))),some (.lst ((hs.map .str).map T.sh)),some (.lst ((bs.map dR).map T.sh)),some (.sh (.int (bn:Nat))),some (.lst (((dF ks).map .int).map T.sh)),some (.sh (.lst (V3 FF))),some (.dct (bZ (fj (Ca s ks hs FF (j*hs.length))))),A8,Rc,o12,Nb,Nf,Ml,none,none]) (cu E.bM (aK E.bU) (by omega) E.bL) ⟨_,_,_,_,_,_,by rw[Nat.zero_mul];rfl⟩ (fun j δ ⟨_,_,_,_,_,_,e⟩=>by subst e;exact amh rfl) ?turn ?fin
 case turn=>
   rintro j d δ hj ⟨A8,Rc,o12,Nb,Nf,Ml,rfl⟩
   obtain⟨rfl,Fg⟩:=fM hj
   rw[am0]
   have hjn:j<n:=by omega
   refine ig E.g E.d8 (fun t δ=>∃(Rc o12 Nb Nf Ml:Option T),δ=[some (.sh (.lst (s.map .int))),some (.sh (.int (q:Nat))),some (.sh (.bl cl)),some (.sh (.int (n:Nat))),some (.lst ((hs.map .str).map T.sh)),some (.lst ((bs.map dR).map T.sh)),some (.sh (.int (bn:Nat))),some (.lst (((dF ks).map .int).map T.sh)),some (.sh (.lst (V3 FF))),some (.dct (bZ (fj (Ca s ks hs FF (j*hs.length+t))))),some (.sh (.int (j:Nat))),Rc,o12,Nb,Nf,Ml,none,none]) (cu E.bM (ah (cA (al8 ..) E.bV (vL E.dJ.1) E.b9)) (by omega) E.bL) ⟨_,_,_,_,_,rfl⟩ (fun j δ ⟨_,_,_,_,_,e⟩=>by subst e;exact amh rfl) ?mj ?fin2
   case fin2=>
     rintro δ ⟨Rc,o12,Nb,Nf,Ml,rfl⟩
     rw[show(ck 0 ((hs.length:Nat):Int).toNat).length=hs.length by simp[ck]]
     rw[show j*hs.length+hs.length=(j+1)*hs.length by rw[aoK,aoL]]
     exact aC ⟨_,_,_,_,_,_,rfl⟩
   case mj=>
   rintro t d δ hj ⟨Rc,o12,Nb,Nf,Ml,rfl⟩
   obtain⟨rfl,Wn⟩:=fM hj
   rw[am0]
   have htn:t<hs.length:=by omega
   have hkj:ks.getD j 0<bn:=hkt _ (jB (by omega))
   have hix:ks.getD j 0*3+t<3*bn:=by omega
   obtain⟨f5,fat⟩:=hF3 _ hix
   have fim:=hF2 _ hix
   have zX:=lC (ks:=ks) (f:=j) (by omega)
   obtain⟨F,hF⟩:∃F,F=FF.getD (ks.getD j 0*3+t) []:=⟨_,rfl⟩
   rw[← hF]at f5 fat fim
   have aid:rW (V3 FF) (((ks.getD j 0:Nat):Int)*3+(t:Int))=some (.lst (F.map uV)):=by
     rw[show((ks.getD j 0:Nat):Int)*3+(t:Int)=((ks.getD j 0*3+t:Nat):Int) by omega]
     refine aG ?_
     unfold V3
     rw[amg,fat]
     rfl
   refine aR E.g E.gP (lz cS (amR _)) ?_
   refine FY E.g (BI E.g.nd E.g.calm E.yV E.iC) (fun i δ=>∃(Nb Nf Ml:Option T),δ=[some (.sh (.lst (s.map .int))),some (.sh (.int (q:Nat))),some (.sh (.bl cl)),some (.sh (.int (n:Nat))),some (.lst ((hs.map .str).map T.sh)),some (.lst ((bs.map dR).map T.sh)),some (.sh (.int (bn:Nat))),some (.lst (((dF ks).map .int).map T.sh)),some (.sh (.lst (V3 FF))),some (.dct (bZ (fj (Ca s ks hs FF (j*hs.length+t))))),some (.sh (.int (j:Nat))),some (.sh (.int (t:Nat))),some (.lst (((T3 s ks j t F i).map qE).map T.sh)),Nb,Nf,Ml,none,none]) (IX (gH (dO (v_ E.kZ.1) (ah (bX (ah (ly (c5 (vL E.ja.1) (aK E.gw) zX) (ah aj) (.inr ⟨by decide,by decide⟩))) (aK E.d8))) aid))) ⟨_,_,_,rfl⟩ (fun j δ ⟨_,_,_,e⟩=>by subst e;intro i hi;simp only[ami,amw,ani]at hi;rcases hi with rfl|rfl<;>exact amh rfl) ?Rt ?abO
   case Rt=>
     rintro i d δ hi ⟨Nb,Nf,Ml,rfl⟩
     rw[amg]at hi
     obtain⟨r,hr,rfl⟩:=amG.mp hi
     have hil:i<F.length:=(amf.mp hr).1
     have er:F.getD i oz=r:=by rw[amb,hr];rfl
     obtain⟨im,sm1,sm2⟩:=fim r (amt hr)
     refine⟨[.tup r.1,.tup (r.2.map It.d)],rfl,?_⟩
     have hln:(((T3 s ks j t F i).map qE)).length=i:=by unfold T3;rw[al8,al8,amv]
     show dZ X CL b _ [some (.sh (.lst (s.map .int))),some (.sh (.int (q:Nat))),some (.sh (.bl cl)),some (.sh (.int (n:Nat))),some (.lst ((hs.map .str).map T.sh)),some (.lst ((bs.map dR).map T.sh)),some (.sh (.int (bn:Nat))),some (.lst (((dF ks).map .int).map T.sh)),some (.sh (.lst (V3 FF))),some (.dct (bZ (fj (Ca s ks hs FF (j*hs.length+t))))),some (.sh (.int (j:Nat))),some (.sh (.int (t:Nat))),some (.lst (((T3 s ks j t F i).map qE).map T.sh)),some (.sh (.tup r.1)),some (.sh (.tup (r.2.map It.d))),Ml,none,none] _
     refine aR E.g E.Rm (c_ (s,ks,j,t,i) E.abK E.EJ (ai (aK E.aZ) (ai (vL E.ja.1) (ai (aK E.gw) (ai (aK E.d8) (ai (ah (cA hln E.bV (vL E.gP.1) E.b9)) aF))))) ⟨wk,by omega,by omega,by omega,by omega⟩ rfl) ?_
     refine vO E.gP.1 rfl (aD (aQ (ds:=[.tup r.1,.tup ((M6 r.2 j i (LV s ks j t i)).map It.d),.int (LV s ks j t i:Nat)]) (au (v_ E.yV.1) (au (c_ (r.2,j,i,LV s ks j t i) E.Rq E.zY (ai (aK E.iC) (ai (aK E.gw) (ai (ah (cA hln E.bV (vL E.gP.1) E.b9)) (ai (aK E.Rm) aF)))) (show r.2.length<=1000 by omega) (cG _)) (au (v_ E.Rm.1) aW))) (aq rfl)) (t2:=.sh (qE (r.1,M6 r.2 j i (LV s ks j t i),LV s ks j t i))) rfl) rfl (by rw[al8,hln];omega) (aC ⟨some (.sh (.tup r.1)),some (.sh (.tup (r.2.map It.d))),some (.sh (.int (LV s ks j t i:Nat))),?_⟩)
     show _=[_,_,_,_,_,_,_,_,_,_,_,_,some (T.lst (((T3 s ks j t F (i+1)).map qE).map T.sh)),_,_,_,_,_]
     rw[Qu,er]
     rfl
   case abO=>
     rintro δ ⟨Nb,Nf,Ml,rfl⟩
     rw[al8]
     have yu:=VX s ks FF Yi (j:=j) htn
     have v9:rW (hs.map L3.D.str) (t:Int)=some (.str (hs.getD t Str.empty)):=qZ Str.empty (by omega) (by omega)
     refine wZ (kvs:=bZ (fj (Ca s ks hs FF (j*hs.length+t)))) (j6 j (hs.getD t Str.empty)) E.u E.bC.1 (vM E.gP.1) (aD (gb (aU (v_ E.gw.1) (aU (gG (c5 (vL E.dJ.1) (aK E.d8) v9) rfl) cS)) (aq rfl)) (t2:=fu (j6 j (hs.getD t Str.empty))) rfl) rfl (by rw[mQ,tE];exact yu) ?z (aC ⟨some (.sh (.int (t:Nat))),none,Nb,Nf,Ml,?e⟩)
     case z=>
       unfold bZ fj Ca
       rw[al8,al8,al8,amv]
       have:j*hs.length<=100*3:=aoj (by omega) hsl
       omega
     case e=>
       show _=[_,_,_,_,_,_,_,_,_,some (T.dct (bZ (fj (Ca s ks hs FF (j*hs.length+t+1))))),_,_,_,_,_,_,_,_]
       rw[Qv s ks hs FF htn,← hF]
       unfold fj bZ Tz
       rw[ams,ams]
       rfl
 case fin=>
   rintro δ ⟨A8,Rc,o12,Nb,Nf,Ml,rfl⟩
   rw[show(ck 0 ((n:Nat):Int).toNat).length=n by simp[ck]]
   refine oQ (p:=fun _=>true) (gg:=fun d=>T.sh (Qt s d.uJ.toNat n)) E.g E.m8 (bI (.cons E.bU.1 (.inl E.CK) (.cons E.aZ.1 (.inl E.yZ) .nil)) (by decide +kernel)) (cu E.bM (aK E.bU) (by omega) E.bL) (.inr rfl) (fun C s0 H0 f0 b' d hd=>?abP) (by simp[ck,amE];omega) ?Ru (by exact amh rfl) (jl ⟨_,rfl⟩)
   case abP=>
     obtain⟨a,ha,rfl⟩:=iz hd
     exact⟨rfl,fun _=>(c_ ((s,a,n)) (gC E.abL) (dH (by decide +kernel)) (ai (ah (v_ (cJ (i:=2) rfl (by decide +kernel)))) (ai (ah (v_ (cy (i:=0) rfl (by decide +kernel)))) (ai (ah (v_ (cJ (i:=1) rfl (by decide +kernel)))) aF))) (by dsimp only [pJ];exact(⟨by omega,by omega⟩)) (Jx s a n))⟩
   case Ru=>
   rw[iW (f:=fun(k:Nat)=>Qt s k n) _ (fun k=>by show T.sh (Qt s (0+(k:Int)).toNat n)=_;rw[am0,amS]),amS]
   refine aR E.g E.xN (aQ (ds:=[It.yq 0,.yq 1,.iV (wu (bF s 1) bs.length hs)].map It.d) (au (aD (aQ (au fk (au aj aW)) (aq rfl)) rfl) (au (aD (aQ (au fk (au aj aW)) (aq rfl)) rfl) (au (aD (c_ (bF s 1,bs.length,hs) E.CM E.pI (ai (ah (c_ ((s,1)) E.cg E.aX (ai (aK E.aZ) (ai (ah aj) aF)) (show(0:Int)<=1 by decide) rfl)) (ai (ah (cA (al8 ..) E.bV (vL E.qd.1) E.b9)) (ai (vL E.dJ.1) aF))) ⟨by omega,by omega⟩ (sV _)) rfl) aW))) (aq rfl)) ?_
   exact bT (lz (aU (vM E.qd.1) (aU (vM E.dJ.1) (aU (v_ E.xN.1) (aU (vM E.m8.1) (aU (vM E.bC.1) cS))))) (aq rfl)) rfl
theorem bq:lQ (ak xK) ([("script",.cell),("most",av),("closed",av),("many",.cell),("three",av),("boxes",av),("bases",.cell),("kinds",av),("faces",av),("rows",av),("flat",av),("turn",av),("steps",av),("asks",av),("deeds",av),("to",av),("flats",av),("begin",av),("max",aB),("min",aB),("len",aB),("_law_signs",aB),("range",aB),("_law_mixed",aB),("_law_cell_at",aB),("_law_faces",aB),("_law_next",aB),("_law_marked",aB),("_law_deed",aB)])=true:=by decide +kernel
theorem Rw:aP ["script","most","closed","many","three","boxes","bases","kinds","faces","rows","flat","turn","steps","asks","deeds","to","flats","begin"] ["script","most","closed"] (ak xK):=bw
def bgA:Bool->List L3.D->L3.D
 | true,bg=>.lst bg
 | false,bg=>.tup bg
theorem abQ{b:Bx}{δ:List (Option T)}{pos pp pn:Pos}{lb:Bool}{bg:List L3.D}(n:Vn X i x)(hm:X.mg "tuple" = none)(hg:Gl X "tuple")(h0:D.aY bg=true)(h:δ[i]? = some (some (.sh (bgA lb bg))):=by rfl):bO X CL b (.Call (.Name "tuple" pp) [.Name x pn] [] pos) δ (.sh (.tup bg)) δ:=by
 cases lb with
 | false=>exact uQ hm (v_ n h) hg
 | true=>exact fq hm (ah (v_ n h)) h0 hg
abbrev jK:Stmt:=inClass (top 1) 0
abbrev m9:Type:=List L3.D×List L3.D×List L3.D×List L3.D×(List (bS×List L3.D))×Bool
def kH:m9->List L3.D:=fun(bs,hs,bg,pr,kvs,lb)=>[.lst bs,.lst hs,bgA lb bg,.lst pr,.dct (dX kvs)]
def kI:m9->Prop:=fun(bs,hs,bg,pr,kvs,lb)=>D.aY bg=true/\D.aY bs=true/\D.aY hs=true/\D.aY pr=true/\(∀q∈kvs,D.aY q.2=true)/\(kvs.map (·.1)).Nodup/\kvs.length<=1000
def kJ:m9->List (Str×T):=fun(bs,hs,bg,pr,kvs,lb)=>(qC bs hs bg pr kvs:List (Str×T))
structure CZ(X:Cx)(CL:Str->Addr):Prop extends cY X where
 u5:Ln X 0 "self"
 qd:Ln X 1 "boxes"
 C1:Ln X 2 "signs"
 xN:Ln X 3 "begin"
 m8:Ln X 4 "flats"
 bC:Ln X 5 "rows"
 Ba:Ln X 6 "key"
 gY:Gl X "list"
 eX:Gl X "tuple"
 gZ:X.mg "list" = none
 cW:X.mg "tuple" = none
 aN:x6 X.K (CL "Table")
 fc:bz X.K (CL "Table") "boxes"
 aV:bz X.K (CL "Table") "signs"
 fh:bz X.K (CL "Table") "begin"
 bQ:bz X.K (CL "Table") "flats"
 bN:bz X.K (CL "Table") "rows"
theorem C2{b:Bx}(E:CZ X CL)(bs hs bg pr:List L3.D)(kvs:List (bS×List L3.D))(lb:Bool)(y:Addr)(h:D.aY bg=true/\D.aY bs=true/\D.aY hs=true/\D.aY pr=true/\(∀q∈kvs,D.aY q.2=true)/\(kvs.map (·.1)).Nodup/\kvs.length<=1000) :
   dZ X CL b (ez jK) (aan ["self","boxes","signs","begin","flats","rows","key"] y "Table" [.lst bs,.lst hs,bgA lb bg,.lst pr,.dct (dX kvs)]) {nx:=fun δ=>δ[0]? = some (some (.pin y (.ins "Table" (qC bs hs bg pr kvs)))),rt:=fun _ _=>False}:=by
 obtain⟨h0,h1,h2,h3,h4,h5,h6⟩:=h
 refine D9 E.aN E.fc E.u5.1 (jk E.gZ (aK E.qd) h1 E.gY dP) rfl (amh rfl) ?_
 rw[oM]
 refine D9 E.aN E.aV E.u5.1 (jk E.gZ (aK E.C1) h2 E.gY dP) rfl (amh rfl) ?_
 rw[dB (by decide +kernel),oM]
 refine D9 E.aN E.fh E.u5.1 (abQ E.xN.1 E.cW E.eX h0) rfl (amh rfl) ?_
 rw[dB (by decide +kernel),dB (by decide +kernel),oM]
 refine D9 E.aN E.bQ E.u5.1 (jk E.gZ (aK E.m8) h3 E.gY dP) rfl (amh rfl) ?_
 rw[dB (by decide +kernel),dB (by decide +kernel),dB (by decide +kernel),oM]
 refine D9 E.aN E.bN E.u5.1 oR rfl (amh rfl) ?_
 rw[dB (by decide +kernel),dB (by decide +kernel),dB (by decide +kernel),dB (by decide +kernel),oM]
 refine Vh E.g E.Ba (fun j δ=>∃o,δ=[some (.pin y (.ins "Table" (qB bs hs bg pr (.dct (bZ (kvs.take j)))))),some (.sh (.lst bs)),some (.sh (.lst hs)),some (.sh (bgA lb bg)),some (.sh (.lst pr)),some (.sh (.dct (dX kvs))),o]) (v_ E.bC.1) ⟨_,rfl⟩ (fun j δ ⟨_,e⟩=>by subst e;exact amh rfl) ?turn ?fin
 case turn=>
   rintro b' j k d δ hj ⟨o,rfl⟩
   have hj0:=hj
   unfold dX at hj
   rw[amg]at hj
   obtain⟨q,hq,e⟩:=amG.mp hj
   cases e
   have hqm:=amt hq
   have Fg:j<kvs.length:=(amf.mp hq).1
   have hv:iU (dX kvs) q.1=some (.lst q.2):=B3 (by rw[Gp];exact h5) hj0
   have hn:q.1∉(bZ (kvs.take j)).map (·.1):=fun hm=>by
     rw[mQ,aoq]at hm
     obtain⟨i,hi,e⟩:=List.getElem_of_mem hm
     rw[amY]at hi
     rw[List.getElem_take]at e
     have hi2:i<(kvs.map (·.1)).length:=by omega
     have:=(ao6 hi2 h5).mp (show(kvs.map (·.1))[i]? = (kvs.map (·.1))[j]? by
       rw[al9 hi2,e,amg,hq]
       rfl)
     omega
   refine Vk q.1 E.u (jk E.gZ (O6 q.1 E.u (aK E.bC) (BU E.Ba.1 rfl) hv) (h4 q hqm) E.gY dP) (aaI E.aN E.bN (Ja E.u5.1 rfl) rfl rfl uS) (BU E.Ba.1 rfl) rfl (kvs:=bZ (kvs.take j)) (by show(List.lookup ("rows":Str) (qB bs hs bg pr (.dct (bZ (kvs.take j))))).bind _=_;rw[uS];rfl) hn (by unfold bZ;rw[al8,amY];omega) (aC ⟨some (fu q.1),?_⟩)
   have e:T.yy [.fld "rows"] (.dct (bZ (kvs.take j)++[(q.1,.lst (q.2.map T.sh))])) (.pin y (.ins "Table" (qB bs hs bg pr (.dct (bZ (kvs.take j))))))=.pin y (.ins "Table" (qB bs hs bg pr (.dct (bZ (kvs.take (j+1)))))):=by
     have et:bZ (kvs.take j)++[(q.1,T.lst (q.2.map T.sh))]=bZ (kvs.take (j+1)):=by
       unfold bZ
       rw[anh,hq,ams]
       rfl
     rw[et]
     exact Lz
   show [some (T.yy [.fld "rows"] _ _),_,_,_,_,_,_]=_
   rw[e]
 case fin=>
   rintro δ ⟨o,rfl⟩
   rw[show(dX kvs).length=kvs.length by unfold dX;rw[al8],anE]
   exact aC rfl
theorem c6:lQ (ak jK) ([("self",av),("boxes",av),("signs",av),("begin",av),("flats",av),("rows",av),("key",av),("list",aB),("tuple",aB)])=true:=by decide +kernel
theorem qL:aP ["self","boxes","signs","begin","flats","rows","key"] ["self","boxes","signs","begin","flats","rows"] (ak jK):=bw
abbrev xO:Stmt:=top 37
abbrev xP:Type:=(List (Str×Int))×List Str×List It×List L3.D×(List (bS×List R7))
def qe:xP->List L3.D:=fun(bs,hs,bg,pr,R)=>[T4 bs hs bg pr R]
def qf:xP->Prop:=fun(bs,hs,bg,pr,R)=>D.aY pr=true/\(R.map (·.1)).Nodup/\R.length<=1000/\∀q∈R,∀r∈q.2,D.aY r.1=true
def qg:xP->T:=fun(bs,hs,bg,pr,R)=>(.ins "Table" (qC (bs.map dR) (hs.map .str) (bg.map It.d) pr (fj R)):T)
structure W0(X:Cx)(CL:Str->Addr):Prop extends cY X where
 bY:Ln X 0 "parts"
 bC:Ln X 1 "rows"
 Ba:Ln X 2 "key"
 gP:Ln X 3 "steps"
 gY:Gl X "list"
 C3:Gl X "Table"
 gZ:X.mg "list" = none
 C4:Fm X CL "Table" 1 6 kH kI kJ
theorem W3{b:Bx}(E:W0 X CL){cC:xP}(h:qf cC) :
   aE X CL b xO ["parts","rows","key","steps"] (qe cC) (qg cC):=by
 obtain⟨bs,hs,bg,pr,R⟩:=cC
 dsimp only [aE,qf,qe,qg]at h ⊢
 obtain⟨h1,h2,h3,h4⟩:=h
 have i1:D.aY (bs.map dR)=true:=jm (fun _=>rfl) _
 have h5:((fj R).map (·.1)).Nodup:=by rw[tE];exact h2
 have h6:∀q∈fj R,D.aY q.2=true:=fun q hq=>by
   obtain⟨p,hp,rfl⟩:=amj.mp hq
   exact vW fun r hr=>Gv (h4 p hp r hr)
 have h7:(fj R).length<=1000:=by unfold fj;rw[al8];exact h3
 show dZ X CL b _ [some (.sh (.lst [.lst (bs.map dR),.lst (hs.map .str),.tup (bg.map It.d),.lst pr,.dct (dX (fj R))])),none,none,none] {nx:=_,rt:=fun zV _=>zV=T.ins "Table" (qC (bs.map dR) (hs.map .str) (bg.map It.d) pr (fj R)),bk:=_,ct:=_}
 generalize fj R=kvs at h5 h6 h7 ⊢
 refine aR E.g E.bC (aD oR (t2:=.dct (bZ (kvs.take 0))) rfl) ?_
 refine aaY E.g E.Ba E.gP (fun j δ=>∃(o2 o3:Option T),δ=[some (.sh (.lst [.lst (bs.map dR),.lst (hs.map .str),.tup (bg.map It.d),.lst pr,.dct (dX kvs)])),some (.dct (bZ (kvs.take j))),o2,o3]) (dO (v_ E.bY.1) (ah aj) (aG (j:=4) rfl)) ⟨_,_,rfl⟩ (fun j δ ⟨_,_,e⟩=>by subst e;exact⟨amh rfl,amh rfl⟩) ?turn ?fin
 case turn=>
   rintro b' j k d δ hj ⟨o2,o3,rfl⟩
   have hj0:=hj
   unfold dX at hj
   rw[amg]at hj
   obtain⟨q,hq,e⟩:=amG.mp hj
   cases e
   have hqm:=amt hq
   have Fg:j<kvs.length:=(amf.mp hq).1
   have hn:q.1∉(bZ (kvs.take j)).map (·.1):=fun hm=>by
     rw[mQ,aoq]at hm
     obtain⟨i,hi,e⟩:=List.getElem_of_mem hm
     rw[amY]at hi
     rw[List.getElem_take]at e
     have hi2:i<(kvs.map (·.1)).length:=by omega
     have:=(ao6 hi2 h5).mp (show(kvs.map (·.1))[i]? = (kvs.map (·.1))[j]? by
       rw[al9 hi2,e,amg,hq]
       rfl)
     omega
   refine wZ (kvs:=bZ (kvs.take j)) q.1 E.u E.bC.1 (jk E.gZ (aK E.gP) (h6 q hqm) E.gY dP) (BU E.Ba.1 rfl) rfl hn (by unfold bZ;rw[al8,amY];omega) (aC ⟨some (fu q.1),some (.sh (.lst q.2)),?_⟩)
   have et:bZ (kvs.take j)++[(q.1,T.lst (q.2.map T.sh))]=bZ (kvs.take (j+1)):=by
     unfold bZ
     rw[anh,hq,ams]
     rfl
   show [_,some (T.dct (bZ (kvs.take j)++[(q.1,T.lst (q.2.map T.sh))])),_,_]=_
   rw[et]
 case fin=>
   rintro δ ⟨o2,o3,rfl⟩
   rw[show(dX kvs).length=kvs.length by unfold dX;rw[al8],anE]
   exact bT (aD (mk_ (bs.map dR,hs.map .str,bg.map It.d,pr,kvs,false) E.C4 E.C3
     (ai (dI (jk E.gZ (c5 (aK E.bY) (ah aj) (aG (j:=0) rfl)) i1 E.gY dP)) (ai (dI (jk E.gZ (c5 (aK E.bY) (ah aj) (aG (j:=1) rfl)) (dg _) E.gY dP)) (ai (c5 (aK E.bY) (ah aj) (aG (j:=2) rfl)) (ai (dI (jk E.gZ (c5 (aK E.bY) (ah aj) (aG (j:=3) rfl)) h1 E.gY dP)) (ai (vE E.bC.1 rfl (by rw[T.bP,pQ])) aF)))))
     ⟨cG _,i1,dg _,h1,h6,h5,h7⟩ (mP i1 (dg _) (cG _) h1 h6)) (t2:=.ins "Table" (qC (bs.map dR) (hs.map .str) (bg.map It.d) pr kvs)) rfl) rfl
theorem mw:lQ (ak xO) ([("parts",av),("rows",av),("key",av),("steps",av),("list",aB),("Table",aB)])=true:=by decide +kernel
theorem Rx:aP ["parts","rows","key","steps"] ["parts"] (ak xO):=bw
abbrev ng:Stmt:=top 7
abbrev rH:Type:=List (List L3.D)
def jL:rH->List L3.D:=fun ks=>[.lst (ks.map .tup)]
def jM:rH->Prop:=fun ks=>(∀k∈ks,iN 8 (.tup k))/\ks.length<=1000
def jN:rH->T:=fun ks=>(.lst (((dF (cE (ks.map L3.D.tup))).map .int).map T.sh):T)
structure GJ(X:Cx)(CL:Str->Addr):Prop extends cY X where
 JV:Ln X 0 "marks"
 jq:Ln X 1 "places"
 k_places:X.env.kindOf "places" = some .cell
 yT:Ln X 2 "mark"
 b9:Gl X "len"
 bV:X.mg "len" = none
theorem GK{b:Bx}(E:GJ X CL){ks}(h:jM ks) :
   aE X CL b ng ["marks","places","mark"] (jL ks) (jN ks):=by
 dsimp only [aE,jM,jL,jN]at h ⊢
 obtain⟨hn,hl⟩:=h
 have XZ:∀d∈ks.map L3.D.tup,iN 8 d:=fun d hd=>by obtain⟨k,hk,rfl⟩:=amj.mp hd;exact hn k hk
 have Ws:(ks.map L3.D.tup).length<=1000:=by rw[al8];exact hl
 have ok:=fun j=>ah6 (j:=j) XZ Ws
 refine aR E.g E.jq (aD Vy (t2:=.gF X.w (unq ((ks.map L3.D.tup).take 0)) (nums (unq ((ks.map L3.D.tup).take 0)))) rfl) ?_
 refine ig E.g E.yT (fun j δ=>∃(o:Option T),δ=[some (.sh (.lst (ks.map .tup))),some (.gF X.w (unq ((ks.map L3.D.tup).take j)) (nums (unq ((ks.map L3.D.tup).take j)))),o]) (gH (v_ E.JV.1)) ⟨_,rfl⟩ (fun j δ ⟨_,e⟩=>by subst e;exact amh rfl) ?turn ?fin
 case turn=>
   rintro j d δ hj ⟨o,rfl⟩
   have Mf:=hj
   rw[amg]at hj
   obtain⟨k,hk,rfl⟩:=amG.mp hj
   refine U5 (VB E.u (ok j) E.jq.1 rfl (v_ E.yT.1) (VA (ok j) E.bV (vE E.jq.1 rfl (by rw[T.bP])) E.b9) (hn k (amt hk))) (aC ⟨some (.sh (.tup k)),?_⟩)
   show [_,some (if L3.D.tup k∈unq ((ks.map L3.D.tup).take j) then T.gF X.w (unq ((ks.map L3.D.tup).take j)) (nums (unq ((ks.map L3.D.tup).take j))) else T.gF X.w (unq ((ks.map L3.D.tup).take j)++[.tup k]) (nums (unq ((ks.map L3.D.tup).take j))++[.int ((unq ((ks.map L3.D.tup).take j)).length:Nat)])),_]=[_,some (T.gF X.w (unq ((ks.map L3.D.tup).take (j+1))) (nums (unq ((ks.map L3.D.tup).take (j+1))))),_]
   rw[anh,Mf]
   show _=[_,some (T.gF X.w (unq ((ks.map L3.D.tup).take j++[.tup k])) (nums (unq ((ks.map L3.D.tup).take j++[.tup k])))),_]
   rw[dS]
   split
   . rfl
   . rw[LY]
 case fin=>
   rintro δ ⟨o,rfl⟩
   rw[anE]
   have ok:=ok (ks.map L3.D.tup).length
   rw[anE]at ok
   refine bT (aD (i6 (p:=fun _=>true) (g:=fun d=>T.sh (.int ((unq (ks.map L3.D.tup)).idxOf d:Nat))) (bI (.cons E.jq.1 (.inl E.k_places) .nil) (by decide +kernel)) E.g.calm (gH (v_ E.JV.1)) (.inl ⟨rfl,fun _ _=>rfl⟩) (fun C s0 H0 f0 b' d hd=>?xr) (by rw[amE];omega)) ?eq) rfl
   case xr=>
     have hd2:=hd
     obtain⟨k,hk,rfl⟩:=amj.mp hd
     exact⟨rfl,fun _=>gG (BX E.u ok (ah (v_ (cJ (i:=1) rfl (by decide +kernel)))) (ah (v_ (cy (i:=0) rfl (by decide +kernel)))) (cU.mpr hd2) (Wh (cU.mpr hd2))) rfl⟩
   case eq=>
     rw[gk]
     unfold dF cE
     simp only[amy]
     rfl
theorem jr:lQ (ak ng) ([("marks",av),("places",.cell),("mark",av),("len",aB)])=true:=by decide +kernel
theorem EK:aP ["marks","places","mark"] ["marks"] (ak ng):=bw
abbrev C5:Stmt:=top 4
abbrev GL:Type:=List It
def mz:GL->List L3.D:=fun xs=>[.tup (xs.map It.d)]
def mC:GL->Prop:=fun xs=>xs.length<=1000
def mD:GL->T:=fun xs=>(.lst (((xs.filter It.told).map It.d).map T.sh):T)
structure abR(X:Cx)(CL:Str->Addr):Prop extends cY X where
 bC:Ln X 0 "rows"
 C6:GT X "MARKS" ["out","keep","way","in"]
theorem abS{b:Bx}(E:abR X CL){xs}(h:mC xs) :
   aE X CL b C5 ["rows"] (mz xs) (mD xs):=by
 dsimp only [aE,mC,mz,mD]at h ⊢
 have h:xs.length<=1000:=h
 refine bT (aD (i6 (p:=fun d=>!decide (d.BK.toS∈cK)) (g:=fun d=>T.sh d) (bI .nil (by decide +kernel)) E.g.calm (Oe (v_ E.bC.1)) (.inr rfl) (fun C s0 H0 f0 b' d hd=>?xr) (anW (g7 (by simp;omega)))) ?eq) rfl
 case xr=>
   obtain⟨r,hr,rfl⟩:=amj.mp hd
   exact⟨(wY (l:=cK) (dN (ah (v_ (cy (i:=0) rfl (by decide +kernel)))) (ah aj) (aeN r.sj)) (ah (OU (by exact E.C6) (dH (by decide +kernel)))) rfl rfl).1,fun _=>v_ (cy (i:=0) rfl (by decide +kernel))⟩
 case eq=>
   refine congrArg T.lst ?_
   have e:((fun d:L3.D=>!decide (d.BK.toS∈cK))∘It.d)=It.told:=by
     funext x
     show(!decide (x.sj.w∈cK))=x.told
     rw[sX,Bool.not_not]
   rw[an6,e]
theorem W4:lQ (ak C5) ([("rows",av)])=true:=by decide +kernel
theorem W5:aP ["rows"] ["rows"] (ak C5):=bw
abbrev qh:Stmt:=top 9
abbrev qi:Type:=List L3.D×List L3.D×List L3.D×List L3.D×(List (bS×List R7))×Nat×Str×Nat
def jt:qi->List L3.D:=fun(bs,hs,bg,pr,R,a,x,n)=>[f6 bs hs bg pr (fj R),.int (a:Nat),.str x]
def ju:qi->Prop:=fun(bs,hs,bg,pr,R,a,x,n)=>iU R (j6 a x)=some (cV R a x)/\(cV R a x).length<=100/\∀r∈cV R a x,LX n r
def jv:qi->T:=fun(bs,hs,bg,pr,R,a,x,n)=>(.sh (tF R a x):T)
structure Mm(X:Cx)(CL:Str->Addr):Prop extends cY X where
 aL:Ln X 0 "table"
 cO:Ln X 1 "number"
 fF:Ln X 2 "sign"
 eX:Gl X "tuple"
 cW:X.mg "tuple" = none
 y9:Fc X CL "told" 1 1 mz mC mD
 aN:x6 X.K (CL "Table")
 bN:bz X.K (CL "Table") "rows"
theorem Mp{b:Bx}(E:Mm X CL){cC:qi}(h:ju cC) :
   aE X CL b qh ["table","number","sign"] (jt cC) (jv cC):=by
 obtain⟨bs,hs,bg,pr,R,a,x,n⟩:=cC
 dsimp only [aE,ju,jt,jv]at h ⊢
 obtain⟨h1,h2,h3⟩:=h
 show dZ X CL b _ _ {nx:=_,rt:=fun zV _=>zV=T.sh (.tup ((cV R a x).map A2)),bk:=_,ct:=_}
 generalize cV R a x=l at h1 h2 h3 ⊢
 refine bT (fq E.cW (ds:=l.map A2) (dI (aD (i6 (p:=fun _=>true) (g:=fun d=>T.sh (fcO d)) (bI .nil (by decide +kernel)) E.g.calm (gH (gJ (j6 a x) E.u (gn E.aN E.bN (v_ E.aL.1) gX) (aD (gb (aU (v_ E.cO.1) (aU (v_ E.fF.1) cS)) (aq rfl)) (t2:=fu (j6 a x)) rfl) (kW h1))) (.inr rfl) (fun C s0 H0 f0 b' d hd=>?xr) (by rw[al8,amE];omega)) (t2:=.lst ((l.map A2).map T.sh)) ?eq)) (gE h3).2 E.eX) rfl
 case xr=>
   obtain⟨r,hr,rfl⟩:=amj.mp hd
   have hrw:=h3 r hr
   refine⟨rfl,fun _=>aD (aQ (ds:=[.tup r.1,.tup ((r.2.1.filter It.told).map It.d)]) (au (uQ E.cW (ic (v_ (cy (i:=0) rfl (by decide +kernel))) (ah aj) (aG (j:=0) rfl)) (dH (by decide +kernel))) (au (fq E.cW (dI (aD (c_ r.2.1 (gC E.y9) (dH (by decide +kernel)) (ai (dN (ah (v_ (cy (i:=0) rfl (by decide +kernel)))) (ah aj) (aG (j:=1) rfl)) aF) hrw.e (aS (cG _))) (t2:=.lst (((r.2.1.filter It.told).map It.d).map T.sh)) rfl)) (cG _) (dH (by decide +kernel))) aW)) (aq rfl)) ?_⟩
   show T.sh (A2 r)=T.sh (fcO (qE r))
   rw[QJ]
 case eq=>
   rw[gk,amy,amy]
   refine congrArg T.lst (amL fun r _=>?_)
   show T.sh (fcO (qE r))=T.sh (A2 r)
   rw[QJ]
theorem nh:lQ (ak qh) ([("table",av),("number",av),("sign",av),("tuple",aB)])=true:=by decide +kernel
theorem GN:aP ["table","number","sign"] ["table","number","sign"] (ak qh):=bw
abbrev C7:Stmt:=top 8
abbrev C8:Type:=List L3.D×List L3.D×List L3.D×List Str×(List (bS×List R7))×Nat×Nat
def tW:C8->List L3.D:=fun(bs,bg,pr,hs,R,a,n)=>[f6 bs (hs.map .str) bg pr (fj R),.int (a:Nat)]
def tX:C8->Prop:=fun(bs,bg,pr,hs,R,a,n)=>oj R hs n/\a<n
def tY:C8->T:=fun(bs,bg,pr,hs,R,a,n)=>(.sh (.tup (kD R hs a)):T)
structure abT(X:Cx)(CL:Str->Addr):Prop extends cY X where
 aL:Ln X 0 "table"
 iD:X.env.kindOf "table" = some .cell
 cO:Ln X 1 "number"
 Ry:X.env.kindOf "number" = some .cell
 eX:Gl X "tuple"
 cW:X.mg "tuple" = none
 u6:Fc X CL "seen_at" 2 3 jt ju jv
 aN:x6 X.K (CL "Table")
 aV:bz X.K (CL "Table") "signs"
theorem abU{b:Bx}(E:abT X CL){cC:C8}(h:tX cC) :
   aE X CL b C7 ["table","number"] (tW cC) (tY cC):=by
 obtain⟨bs,bg,pr,hs,R,a,n⟩:=cC
 dsimp only [aE,tX,tW,tY]at h ⊢
 obtain⟨ht,ha⟩:=h
 refine bT (fq E.cW (ds:=kD R hs a) (dI (aD (i6 (p:=fun _=>true) (g:=fun d=>T.sh (tF R a d.toS)) (bI (.cons E.cO.1 (.inl E.Ry) (.cons E.aL.1 (.inl E.iD) .nil)) (by decide +kernel)) E.g.calm (gH (gn E.aN E.aV (v_ E.aL.1) eO)) (.inr rfl) (fun C s0 H0 f0 b' d hd=>?xr) (by rw[al8,amE];have:=ht.e;omega)) (t2:=.lst ((kD R hs a).map T.sh)) ?eq)) (ht.look ha).2 E.eX) rfl
 case xr=>
   obtain⟨x,hx,rfl⟩:=amj.mp hd
   exact⟨rfl,fun _=>aD (c_ (bs,hs.map .str,bg,pr,R,a,x,n) (gC E.u6) (dH (by decide +kernel)) (ai (ah (v_ (cJ (i:=2) rfl (by decide +kernel)))) (ai (ah (v_ (cJ (i:=1) rfl (by decide +kernel)))) (ai (ah (v_ (cy (i:=0) rfl (by decide +kernel)))) aF))) (ht.row ha hx) (gE (ht.row ha hx).2.2).2) rfl⟩
 case eq=>
   rw[gk]
   unfold kD
   rw[amy,amy]
   rfl
theorem tZ:lQ (ak C7) ([("table",.cell),("number",.cell),("tuple",aB)])=true:=by decide +kernel
theorem W6:aP ["table","number"] ["table","number"] (ak C7):=bw
abbrev JW:Stmt:=top 10
abbrev JX:Type:=List L3.D×List L3.D×List L3.D×List Str×(List (bS×List R7))×Nat×Nat×List Nat
def xQ:JX->List L3.D:=fun(bs,bg,pr,hs,R,a,n,F)=>[f6 bs (hs.map .str) bg pr (fj R),.int (a:Nat),.lst ((dF F).map .int)]
def xR:JX->Prop:=fun(bs,bg,pr,hs,R,a,n,F)=>oj R hs n/\a<n/\F.length=n
def xS:JX->T:=fun(bs,bg,pr,hs,R,a,n,F)=>(.sh (.tup ((dF (tG R hs F a)).map .int)):T)
structure ae7(X:Cx)(CL:Str->Addr):Prop extends cY X where
 aL:Ln X 0 "table"
 cO:Ln X 1 "number"
 aJ:Ln X 2 "found"
 jq:Ln X 3 "places"
 fF:Ln X 4 "sign"
 A9:Ln X 5 "row"
 eX:Gl X "tuple"
 cW:X.mg "tuple" = none
 aN:x6 X.K (CL "Table")
 aV:bz X.K (CL "Table") "signs"
 bN:bz X.K (CL "Table") "rows"
theorem ae8{b:Bx}(E:ae7 X CL){cC:JX}(h:xR cC) :
   aE X CL b JW ["table","number","found","places","sign","row"] (xQ cC) (xS cC):=by
 obtain⟨bs,bg,pr,hs,R,a,n,F⟩:=cC
 dsimp only [aE,xR,xQ,xS]at h ⊢
 obtain⟨ht,ha,hF⟩:=h
 have h3:=ht.e
 refine aR E.g E.jq (lz cS (amR _)) ?_
 refine ig E.g E.fF (fun j δ=>∃(o4 o5:Option T),δ=[some (.sh (f6 bs (hs.map .str) bg pr (fj R))),some (.sh (.int (a:Nat))),some (.sh (.lst ((dF F).map .int))),some (.lst (((dF (tG R (hs.take j) F a)).map .int).map T.sh)),o4,o5]) (gH (gn E.aN E.aV (v_ E.aL.1) eO)) ⟨_,_,rfl⟩ (fun j δ ⟨_,_,e⟩=>by subst e;exact amh rfl) ?turn ?fin
 case fin=>
   rintro δ ⟨o4,o5,rfl⟩
   rw[al8,anE]
   exact bT (fq E.cW (vL E.jq.1) (mX _) E.eX) rfl
 case turn=>
 rintro j d δ hj ⟨o4,o5,rfl⟩
 rw[amg]at hj
 obtain⟨x,hx,rfl⟩:=amG.mp hj
 have Rz:=amt hx
 obtain⟨q1,q2,q3⟩:=ht.row ha Rz
 have iS:=abj ht ha Rz hF
 have hsn:tG R (hs.take (j+1)) F a=tG R (hs.take j) F a++(cV R a x).map fun r=>F.getD r.2.2 0:=by
   unfold tG
   rw[anh,hx,aom]
   simp
 have Fg:j<hs.length:=(amf.mp hx).1
 have Yx:∀m,m<=hs.length->(tG R (hs.take m) F a).length<=100*m:=by
   intro m
   induction m with
   | zero=>intro _;unfold tG;simp
   | succ m ih=>
     intro hm
     have h0:=ih (by omega)
     have ae9:hs[m]? = some hs[m]:=al9 (by omega)
     have h1:=(ht.row ha (amt ae9)).2.1
     unfold tG at h0 ⊢
     rw[anh,ae9,aom,amn]
     have:(List.flatMap (fun x=>(cV R a x).map fun r=>F.getD r.2.2 0) (some hs[m]).toList).length<=100:=by simpa using h1
     omega
 have hb1:=Yx j (by omega)
 rw[hsn]
 generalize tG R (hs.take j) F a=L0 at hb1 ⊢
 generalize cV R a x=l at q1 q2 q3 iS ⊢
 refine ig E.g E.A9 (fun i δ=>∃(o5:Option T),δ=[some (.sh (f6 bs (hs.map .str) bg pr (fj R))),some (.sh (.int (a:Nat))),some (.sh (.lst ((dF F).map .int))),some (.lst (((dF (L0++(l.take i).map fun r=>F.getD r.2.2 0)).map .int).map T.sh)),some (.sh (.str x)),o5]) (gH (gJ (j6 a x) E.u (gn E.aN E.bN (v_ E.aL.1) gX) (aD (gb (aU (v_ E.cO.1) (aU (v_ E.fF.1) cS)) (aq rfl)) (t2:=fu (j6 a x)) rfl) (kW q1))) ⟨_,by rw[List.take_zero,anL,amQ];rfl⟩ (fun j δ ⟨_,e⟩=>by subst e;exact amh rfl) ?mj ?fin2
 case fin2=>
   rintro δ ⟨o5,rfl⟩
   rw[al8,anE]
   exact aC ⟨_,_,rfl⟩
 case mj=>
   rintro i d δ hi ⟨o5,rfl⟩
   rw[amg]at hi
   obtain⟨r,hr,rfl⟩:=amG.mp hi
   have hrm:=amt hr
   have hil:i<l.length:=(amf.mp hr).1
   refine vO E.jq.1 rfl (dO (v_ E.aJ.1) (dN (aK E.A9) (ah aj) (aG (j:=2) rfl)) (iS r hrm)) rfl (by rw[al8,al8,gO,amn,al8,amY];omega) (aC ⟨some (.sh (qE r)),?_⟩)
   have e:((dF (L0++(l.take (i+1)).map fun r=>F.getD r.2.2 0)).map L3.D.int).map T.sh=((dF (L0++(l.take i).map fun r=>F.getD r.2.2 0)).map L3.D.int).map T.sh++[T.sh (.int (F.getD r.2.2 0:Nat))]:=by
     rw[anh,hr,ams,← amm,Wb (L0++_),ams,ams]
     rfl
   rw[e]
   rfl
theorem rJ:lQ (ak JW) ([("table",av),("number",av),("found",av),("places",av),("sign",av),("row",av),("tuple",aB)])=true:=by decide +kernel
theorem abV:aP ["table","number","found","places","sign","row"] ["table","number","found"] (ak JW):=bw
def mny(R:List (bS×List R7))(hs:List Str)(n:Nat):Nat->Nat
 | 0=>0
 | k+1=>cn (dU R hs n k)
abbrev qj:Stmt:=top 6
abbrev qk:Type:=List L3.D×List L3.D×List L3.D×List Str×(List (bS×List R7))
def jw:qk->List L3.D:=fun(bs,bg,pr,hs,R)=>[f6 bs (hs.map .str) bg pr (fj R)]
def jx:qk->Prop:=fun(bs,bg,pr,hs,R)=>oj R hs pr.length
def jy:qk->T:=fun(bs,bg,pr,hs,R)=>(.lst (((dF (gu R hs pr.length)).map .int).map T.sh):T)
structure Mq(X:Cx)(CL:Str->Addr):Prop extends cY X where
 aL:Ln X 0 "table"
 iD:X.env.kindOf "table" = some .cell
 aJ:Ln X 1 "found"
 t6:X.env.kindOf "found" = some .cell
 bU:Ln X 2 "many"
 ni:Gl X "numbered"
 bL:Gl X "range"
 b9:Gl X "len"
 JY:Gl X "set"
 zb:Fc X CL "numbered" 1 1 jL jM jN
 bM:X.mg "range" = none
 bV:X.mg "len" = none
 JZ:X.mg "set" = none
 abX:Fc X CL "seen" 3 2 tW tX tY
 afa:Fc X CL "led" 1 3 xQ xR xS
 aN:x6 X.K (CL "Table")
 bQ:bz X.K (CL "Table") "flats"
theorem Mr{b:Bx}(E:Mq X CL){cC:qk}(h:jx cC) :
   aE X CL b qj ["table","found","many"] (jw cC) (jy cC):=by
 obtain⟨bs,bg,pr,hs,R⟩:=cC
 dsimp only [aE,jx,jw,jy]at h ⊢
 have ht:oj R hs pr.length:=h
 obtain⟨n,hn⟩:∃n,n=pr.length:=⟨_,rfl⟩
 have hnl:pr.length=n:=hn.symm
 rw[hnl]at ht
 obtain⟨n1,n2⟩:=ht.f
 show dZ X CL b _ _ {nx:=_,rt:=fun zV _=>zV=T.lst (((dF (gu R hs pr.length)).map .int).map T.sh),bk:=_,ct:=_}
 rw[hnl]
 refine aR E.g E.aJ (aD (c_ ((List.range n).map (kD R hs)) E.zb E.ni (ai (dI (aD (i6 (p:=fun _=>true) (g:=fun d=>T.sh (.tup (kD R hs d.uJ.toNat))) (bI (.cons E.aL.1 (.inl E.iD) .nil) (by decide +kernel)) E.g.calm (cu E.bM (ah (cA hnl E.bV (jA E.aN E.bQ (aK E.aL) gq) E.b9)) (by omega) E.bL) (.inr rfl) (fun C s0 H0 f0 b' d hd=>?xr) (by simp[ck,amE];omega)) (t2:=.lst ((((List.range n).map (kD R hs)).map L3.D.tup).map T.sh)) ?eq)) aF) ⟨?p1,?p2⟩ (aS (mX _))) (t2:=.lst (((dF (dU R hs n 0)).map .int).map T.sh)) ?e0) ?_
 case xr=>
   obtain⟨a,ha,rfl⟩:=iz hd
   have ha:a<n:=by omega
   exact⟨rfl,fun _=>aD (c_ (bs,bg,pr,hs,R,a,n) (gC E.abX) (dH (by decide +kernel)) (ai (ah (v_ (cJ (i:=1) rfl (by decide +kernel)))) (ai (ah (v_ (cy (i:=0) rfl (by decide +kernel)))) aF)) ⟨ht,ha⟩ (ht.look ha).2) rfl⟩
 case eq=>
   rw[iW (f:=fun(a:Nat)=>.tup (kD R hs a)) _ (fun a=>by show T.sh (.tup (kD R hs (0+(a:Int)).toNat))=_;rw[am0,amS]),amS]
   simp only[amy]
   rfl
 case p1=>
   intro k hk
   obtain⟨a,ha,rfl⟩:=amj.mp hk
   exact oY (ht.look (amH.mp ha)).1 (by decide)
 case p2=>rw[al8,amv];omega
 case e0=>
   show T.lst (((dF (cE (((List.range n).map (kD R hs)).map L3.D.tup))).map .int).map T.sh)=_
   rw[dU,show((List.range n).map (kD R hs)).map L3.D.tup=(List.range n).map fun(a:Nat)=>L3.D.tup (kD R hs a) by rw[amy];rfl]
 refine aR E.g E.bU aj ?_
 refine BF E.g (fun m δ=>∃k,m=n-mny R hs n k/\k<=mny R hs n k/\mny R hs n k<=n/\δ=[some (.sh (f6 bs (hs.map .str) bg pr (fj R))),some (.lst (((dF (dU R hs n k)).map .int).map T.sh)),some (.sh (.int (mny R hs n k:Nat)))]) (n-0) ⟨0,rfl,aml _,amR _,rfl⟩ ?_
 rintro m δ ⟨k,rfl,k1,k2,rfl⟩
 obtain⟨c1,c2,c3⟩:=QH (R:=R) (hs:=hs) n1 k
 have hl:=mV (R:=R) (hs:=hs) (n:=n) k
 have hle:(dF (dU R hs n k)).length<=1000:=by rw[gO,hl];omega
 refine⟨_,_,(N8 (ah (aD (rz E.g E.bV E.JZ (vL E.aJ.1) hle E.b9 E.JY) (t2:=.sh (.int (cn (dU R hs n k):Nat))) (by rw[Gu]))) (aK E.bU)).1,fun hp=>?_,fun hp=>?_⟩
 . have hp:mny R hs n k<cn (dU R hs n k):=by have:=amO hp;omega
   refine aR E.g E.bU (aD (rz E.g E.bV E.JZ (vL E.aJ.1) hle E.b9 E.JY) (t2:=.sh (.int (cn (dU R hs n k):Nat))) (by rw[Gu])) ?_
   show dZ X CL b _ [some (.sh (f6 bs (hs.map .str) bg pr (fj R))),some (.lst (((dF (dU R hs n k)).map .int).map T.sh)),some (.sh (.int (cn (dU R hs n k):Nat)))] _
   refine aR E.g E.aJ (aD (c_ ((List.range n).map (Cg R hs (dU R hs n k))) E.zb E.ni (ai (dI (aD (i6 (δc:=[some (.sh (.lst ((dF (dU R hs n k)).map .int))),some (.sh (f6 bs (hs.map .str) bg pr (fj R)))]) (p:=fun _=>true) (g:=fun d=>T.sh (.tup (Cg R hs (dU R hs n k) d.uJ.toNat))) (bI (.cons E.aJ.1 (.inl E.t6) (.cons E.aL.1 (.inl E.iD) .nil)) (by decide +kernel)) E.g.calm (cu E.bM (ah (cA (ds:=(dF (dU R hs n k)).map .int) (n:=n) (by rw[al8,gO,hl]) E.bV (vL E.aJ.1) E.b9)) (by omega) E.bL) (.inl ⟨?cap,fun _ _=>Wc ..⟩) (fun C s0 H0 f0 b' d hd=>?Rg) (by simp[ck,amE];omega)) (t2:=.lst ((((List.range n).map (Cg R hs (dU R hs n k))).map L3.D.tup).map T.sh)) ?eq2)) aF) ⟨?p3,?p4⟩ (aS (mX _))) (t2:=.lst (((dF (dU R hs n (k+1))).map .int).map T.sh)) ?e1) (aC ⟨n-mny R hs n (k+1),by show n-cn (dU R hs n k)<n-_;omega,k+1,rfl,by show k+1<=cn (dU R hs n k);omega,c2,rfl⟩)
   case cap=>
     show _=[some (T.sh (T.bP (.lst (((dF (dU R hs n k)).map L3.D.int).map T.sh)))),some (T.sh (T.bP (.sh (f6 bs (hs.map .str) bg pr (fj R)))))]
     rw[gD,T.bP]
   case Rg=>
     obtain⟨a,ha,rfl⟩:=iz hd
     have ha:a<n:=by omega
     refine⟨rfl,fun _=>aD (aQ (ds:=Cg R hs (dU R hs n k) a) (au (dO (v_ (cJ (i:=1) rfl (by decide +kernel))) (ah (v_ (cy (i:=0) rfl (by decide +kernel)))) (lC (by rw[hl];exact ha))) (au (aD (c_ (bs,bg,pr,hs,R,a,n,dU R hs n k) (gC E.afa) (dH (by decide +kernel)) (ai (ah (v_ (cJ (i:=2) rfl (by decide +kernel)))) (ai (ah (v_ (cy (i:=0) rfl (by decide +kernel)))) (ai (ah (v_ (cJ (i:=1) rfl (by decide +kernel)))) aF))) ⟨ht,ha,hl⟩ (mX _)) rfl) aW)) (aq rfl)) rfl⟩
   case eq2=>
     rw[iW (f:=fun(a:Nat)=>.tup (Cg R hs (dU R hs n k) a)) _ (fun a=>by show T.sh (.tup (Cg R hs (dU R hs n k) (0+(a:Int)).toNat))=_;rw[am0,amS]),amS]
     simp only[amy]
     rfl
   case p3=>
     intro d hd
     obtain⟨a,_,rfl⟩:=amj.mp hd
     exact Wa _ _
   case p4=>rw[al8,amv];omega
   case e1=>
     show T.lst (((dF (cE (((List.range n).map (Cg R hs (dU R hs n k))).map L3.D.tup))).map .int).map T.sh)=_
     rw[dU,show((List.range n).map (Cg R hs (dU R hs n k))).map L3.D.tup=(List.range n).map fun(a:Nat)=>L3.D.tup (Cg R hs (dU R hs n k) a) by rw[amy];rfl]
 . have hp:cn (dU R hs n k)<=mny R hs n k:=by have:=anb hp;omega
   obtain⟨k,rfl⟩:∃j,k=j+1:=by
     cases k with
     | zero=>have:cn (dU R hs n 0)<=0:=hp;omega
     | succ k=>exact⟨k,rfl⟩
   have k1:k+1<=cn (dU R hs n k):=k1
   have k2:cn (dU R hs n k)<=n:=k2
   rw[abi (by omega) hp]
   exact bT (vM E.aJ.1) rfl
theorem fG:lQ (ak qj) ([("table",.cell),("found",.cell),("many",av),("numbered",aB),("range",aB),("len",aB),("set",aB)])=true:=by decide +kernel
theorem GO:aP ["table","found","many"] ["table"] (ak qj):=bw
abbrev nj:Stmt:=top 18
abbrev nk:Type:=List L3.D×List L3.D×List L3.D×List Str×(List (bS×List R7))
def jO:nk->List L3.D:=fun(bs,bg,pr,hs,R)=>[f6 bs (hs.map .str) bg pr (fj R)]
def jP:nk->Prop:=fun(bs,bg,pr,hs,R)=>oj R hs pr.length/\hs.Nodup
def jQ:nk->T:=fun(bs,bg,pr,hs,R)=>(.dct (L7 R hs (pr.length*hs.length)):T)
structure GP(X:Cx)(CL:Str->Addr):Prop extends cY X where
 aL:Ln X 0 "table"
 jR:Ln X 1 "looks"
 cO:Ln X 2 "number"
 fF:Ln X 3 "sign"
 bL:Gl X "range"
 b9:Gl X "len"
 u9:Gl X "seen_at"
 bM:X.mg "range" = none
 bV:X.mg "len" = none
 u6:Fc X CL "seen_at" 2 3 jt ju jv
 aN:x6 X.K (CL "Table")
 aV:bz X.K (CL "Table") "signs"
 bQ:bz X.K (CL "Table") "flats"
theorem GQ{b:Bx}(E:GP X CL){cC:nk}(h:jP cC) :
   aE X CL b nj ["table","looks","number","sign"] (jO cC) (jQ cC):=by
 obtain⟨bs,bg,pr,hs,R⟩:=cC
 dsimp only [aE,jP,jO,jQ]at h ⊢
 obtain⟨ht,nd⟩:=h
 have hf:=ht.f
 have hH:=ht.e
 refine aR E.g E.jR (aD oR (t2:=.dct (L7 R hs 0)) rfl) ?_
 refine ig E.g E.cO (fun j δ=>∃(o2 o3:Option T),δ=[some (.sh (f6 bs (hs.map .str) bg pr (fj R))),some (.dct (L7 R hs (j*hs.length))),o2,o3]) (cu E.bM (ah (cA rfl E.bV (jA E.aN E.bQ (aK E.aL) gq) E.b9)) (by omega) E.bL) ⟨_,_,by rw[Nat.zero_mul];rfl⟩ (fun j δ ⟨_,_,e⟩=>by subst e;exact amh rfl) ?turn ?fin
 case fin=>
   rintro δ ⟨o2,o3,rfl⟩
   rw[show(ck 0 ((pr.length:Nat):Int).toNat).length=pr.length by simp[ck]]
   exact bT (vM E.jR.1) rfl
 case turn=>
 rintro a d δ hj ⟨o2,o3,rfl⟩
 obtain⟨rfl,Fg⟩:=fM hj
 rw[am0]
 have han:a<pr.length:=by omega
 refine ig E.g E.fF (fun t δ=>∃(o3:Option T),δ=[some (.sh (f6 bs (hs.map .str) bg pr (fj R))),some (.dct (L7 R hs (a*hs.length+t))),some (.sh (.int (a:Nat))),o3]) (gH (gn E.aN E.aV (v_ E.aL.1) eO)) ⟨_,rfl⟩ (fun j δ ⟨_,e⟩=>by subst e;exact amh rfl) ?mj ?fin2
 case fin2=>
   rintro δ ⟨o3,rfl⟩
   rw[al8,show a*hs.length+hs.length=(a+1)*hs.length by rw[aoK,aoL]]
   exact aC ⟨_,_,rfl⟩
 case mj=>
 rintro t d δ Mf ⟨o3,rfl⟩
 rw[amg]at Mf
 obtain⟨x,hx,rfl⟩:=amG.mp Mf
 have Rz:=amt hx
 have Wn:t<hs.length:=(amf.mp hx).1
 have ex:hs.getD t Str.empty=x:=by rw[amb,hx];rfl
 have yu:=Wu (R:=R) nd (j:=a) Wn
 rw[ex]at yu
 refine wZ (kvs:=L7 R hs (a*hs.length+t)) (j6 a x) E.u E.jR.1 (aD (c_ (bs,hs.map .str,bg,pr,R,a,x,pr.length) E.u6 E.u9 (ai (aK E.aL) (ai (aK E.cO) (ai (aK E.fF) aF))) (ht.row han Rz) (gE (ht.row han Rz).2.2).2) (t2:=.sh (tF R a x)) rfl) (aD (gb (aU (v_ E.cO.1) (aU (v_ E.fF.1) cS)) (aq rfl)) (t2:=fu (j6 a x)) rfl) rfl (by unfold L7;rw[amy];exact yu) ?z (aC ⟨some (.sh (.str x)),?e⟩)
 case z=>
   unfold L7 Fo
   rw[al8,al8,amv]
   have:a*hs.length<=100*3:=aoj (by omega) hH
   omega
 case e=>
   show _=[_,some (T.dct (L7 R hs (a*hs.length+t+1))),_,_]
   unfold L7
   rw[Q5 Wn,ex,ams]
   rfl
theorem gy:lQ (ak nj) ([("table",av),("looks",av),("number",av),("sign",av),("range",aB),("len",aB),("seen_at",aB)])=true:=by decide +kernel
theorem EL:aP ["table","looks","number","sign"] ["table"] (ak nj):=bw
theorem RA(h:D.aY l=true):D.aY l.reverse=true:=iZ fun d hd=>oK h d (List.mem_reverse.mp hd)
abbrev jb:Stmt:=top 15
abbrev jc:Type:=World×(Nat->List L3.D)×Nat×(Nat->List (L3.D×Nat))×Nat×List Nd×Nat
def gQ:jc->List L3.D:=fun(w,pl,n,st,i,W,j)=>[.gF w (yH pl W) (Qe pl W),kO pl (e9 W j)]
def fN:jc->Prop:=fun(w,pl,n,st,i,W,j)=>BfN st i W/\j<W.length/\W.length<=1000/\(∀x∈W,x.2.2.gA=true)/\EC pl n/\∀p∈ky W,p<n
def gR:jc->T:=fun(w,pl,n,st,i,W,j)=>(.lst ((jn W j).map T.sh):T)
structure zZ(X:Cx)(CL:Str->Addr):Prop extends cY X where
 rK:Ln X 0 "came"
 afb:Ln X 1 "end"
 GR:Ln X 2 "path"
 vd:Ln X 3 "last"
 gY:Gl X "list"
 GU:Gl X "reversed"
 gZ:X.mg "list" = none
 GV:X.mg "reversed" = none
theorem z6{b:Bx}(E:zZ X CL){cC:jc}(h:fN cC) :
   aE X CL b jb ["came","end","path","last"] (gQ cC) (gR cC):=by
 obtain⟨w,pl,n,st,i,W,j⟩:=cC
 dsimp only [aE,fN,gQ,gR]at h ⊢
 obtain⟨hb,hj,hw,Mi,hpl,T5⟩:=h
 have ok:=Qg hpl T5 hb.nd hw
 have hww:∀d∈yH pl W,d.sG w=d.sG X.w:=fun d hd=>by
   obtain⟨p,hp,rfl⟩:=amj.mp hd
   exact hpl.hw p _ _
 refine aR E.g E.GR (lz cS (amR _)) ?_
 refine aR E.g E.vd (gG (BX E.u ok (P1 (aK E.rK) hww) (aK E.afb) (B5 hpl T5 hb.nd hj).1 (B5 hpl T5 hb.nd hj).2) (Qi hpl Mi j)) ?_
 refine BF E.g (fun k δ=>∃rest:List L3.D,(k<W.length/\jn W j=jn W k++rest/\rest.length+k<=W.length/\D.aY rest=true)/\δ=[some (.sh (.gF w (yH pl W) (Qe pl W))),some (.sh (kO pl (e9 W j))),some (.lst (rest.reverse.map T.sh)),some (.sh (VL pl W k))]) j ⟨[],⟨hj,(amQ _).symm,by show 0+j<=_;omega,rfl⟩,rfl⟩ ?loop
 case loop=>
   rintro k δ ⟨rest,⟨hk,hp,hl,hi⟩,rfl⟩
   rcases aot k with z|z
   . subst z
     refine⟨false,_,Em (ah (v_ (d:=.non) E.vd.1)),(fun hp=>by cases hp),fun _=>?_⟩
     rw[LC,anm]at hp
     refine bT (aD (F8 E.g E.gZ E.GV (vL E.GR.1) (RA hi) E.gY E.GU) (t2:=.lst ((jn W j).map T.sh)) (by rw[List.reverse_reverse,hp])) rfl
   . obtain⟨q1,q2⟩:=AX hb (al9 hk) z
     have ev:VL pl W k=.tup [kO pl (e9 W W[k].2.1),W[k].2.2]:=by
       unfold VL paN
       rw[amq (by omega),al9 hk]
       rfl
     have hxi:(W[k].2.2).gA=true:=Mi _ (ano hk)
     rw[ev]
     refine⟨true,_,PR (aK E.vd),fun _=>?_,(fun hp=>by cases hp)⟩
     refine vO E.GR.1 rfl (gG (dN (aK E.vd) (ah aj) (aG (j:=1) rfl)) hxi) rfl (by rw[al8,List.length_reverse];omega) ?_
     refine aR E.g E.vd (gG (BX E.u ok (P1 (aK E.rK) hww) (dN (aK E.vd) (ah aj) (aG (j:=0) rfl)) (B5 hpl T5 hb.nd (j:=W[k].2.1) (by omega)).1 (B5 hpl T5 hb.nd (j:=W[k].2.1) (by omega)).2) (Qi hpl Mi _)) (aC ⟨W[k].2.1,q2,W[k].2.2::rest,⟨by omega,by rw[hp,q1,amm];rfl,by rw[am8];omega,?_⟩,?_⟩)
     . show(_&&_)=true
       rw[hxi,hi]
       rfl
     . rw[anl,ams]
       rfl
theorem fB:lQ (ak jb) ([("came",av),("end",av),("path",av),("last",av),("list",aB),("reversed",aB)])=true:=by decide +kernel
theorem zc:aP ["came","end","path","last"] ["came","end"] (ak jb):=bw
abbrev nq:Stmt:=top 20
abbrev nu:Type:=List L3.D×List L3.D×List L3.D×List Str×(List (bS×List R7))×Nat×Nat
def jS:nu->List L3.D:=fun(bs,bg,pr,hs,R,a,c)=>[f6 bs (hs.map .str) bg pr (fj R),.tup [.int (a:Nat),.int (c:Nat)]]
def jT:nu->Prop:=fun(bs,bg,pr,hs,R,a,c)=>oj R hs pr.length/\a<pr.length/\c<pr.length/\kD R hs a=kD R hs c
def jU:nu->T:=fun(bs,bg,pr,hs,R,a,c)=>(.lst (((EF R hs a c).map Q0).map T.sh):T)
structure GX(X:Cx)(CL:Str->Addr):Prop extends cY X where
 aL:Ln X 0 "table"
 C9:Ln X 1 "pair"
 gP:Ln X 2 "steps"
 fF:Ln X 3 "sign"
 bC:Ln X 4 "rows"
 ER:Ln X 5 "others"
 cO:Ln X 6 "number"
 bL:Gl X "range"
 b9:Gl X "len"
 bM:X.mg "range" = none
 bV:X.mg "len" = none
 aN:x6 X.K (CL "Table")
 aV:bz X.K (CL "Table") "signs"
 bN:bz X.K (CL "Table") "rows"
theorem GY{b:Bx}(E:GX X CL){cC:nu}(h:jT cC) :
   aE X CL b nq ["table","pair","steps","sign","rows","others","number"] (jS cC) (jU cC):=by
 obtain⟨bs,bg,pr,hs,R,a,c⟩:=cC
 dsimp only [aE,jT,jS,jU]at h ⊢
 obtain⟨ht,ha,hc,GB⟩:=h
 have hH:=ht.e
 have Wr:=mW GB
 have Yx:∀m,m<=hs.length->(EF R (hs.take m) a c).length<=100*m:=by
   intro m
   induction m with
   | zero=>intro _;unfold EF;simp
   | succ m ih=>
     intro hm
     have h0:=ih (by omega)
     have hx:hs[m]? = some hs[m]:=al9 (by omega)
     have h1:=(ht.row ha (amt hx)).2.1
     unfold EF at h0 ⊢
     rw[anh,hx,aom,amn]
     have:(List.flatMap (fun x=>JL R a c x (cV R a x).length) (some hs[m]).toList).length<=100:=by
       simp[JL]
       exact h1
     omega
 refine aR E.g E.gP (aD (lz cS (amR _)) (t2:=.lst (((EF R (hs.take 0) a c).map Q0).map T.sh)) rfl) ?_
 refine ig E.g E.fF (fun j δ=>∃(o3 o4 o5 o6:Option T),δ=[some (.sh (f6 bs (hs.map .str) bg pr (fj R))),some (.sh (.tup [.int (a:Nat),.int (c:Nat)])),some (.lst (((EF R (hs.take j) a c).map Q0).map T.sh)),o3,o4,o5,o6]) (gH (gn E.aN E.aV (v_ E.aL.1) eO)) ⟨_,_,_,_,rfl⟩ (fun j δ ⟨_,_,_,_,e⟩=>by subst e;exact amh rfl) ?turn ?fin
 case fin=>
   rintro δ ⟨o3,o4,o5,o6,rfl⟩
   rw[al8,anE]
   exact bT (vM E.gP.1) rfl
 case turn=>
 rintro j d δ hj ⟨o3,o4,o5,o6,rfl⟩
 rw[amg]at hj
 obtain⟨x,hx,rfl⟩:=amG.mp hj
 have Rz:=amt hx
 have Fg:j<hs.length:=(amf.mp hx).1
 obtain⟨q1,q2,q3⟩:=ht.row ha Rz
 obtain⟨p1,p2,p3⟩:=ht.row hc Rz
 have hlen:(cV R a x).length=(cV R c x).length:=by
   have:=congrArg List.length (Wr x Rz)
   simpa using this
 have hb1:=Yx j (by omega)
 have hsn:EF R (hs.take (j+1)) a c=EF R (hs.take j) a c++JL R a c x (cV R a x).length:=by
   unfold EF
   rw[anh,hx,aom]
   simp
 rw[hsn]
 refine aR E.g E.bC (gJ (j6 a x) E.u (gn E.aN E.bN (v_ E.aL.1) gX) (aD (gb (aU (ic (v_ E.C9.1) (ah aj) (aG (j:=0) rfl)) (aU (v_ E.fF.1) cS)) (aq rfl)) (t2:=fu (j6 a x)) rfl) (kW q1)) ?_
 refine aR E.g E.ER (gJ (j6 c x) E.u (gn E.aN E.bN (v_ E.aL.1) gX) (aD (gb (aU (ic (v_ E.C9.1) (ah aj) (aG (j:=1) rfl)) (aU (v_ E.fF.1) cS)) (aq rfl)) (t2:=fu (j6 c x)) rfl) (kW p1)) ?_
 generalize EF R (hs.take j) a c=L0 at hb1 ⊢
 refine ig E.g E.cO (fun i δ=>∃(o6:Option T),δ=[some (.sh (f6 bs (hs.map .str) bg pr (fj R))),some (.sh (.tup [.int (a:Nat),.int (c:Nat)])),some (.lst (((L0++JL R a c x i).map Q0).map T.sh)),some (.sh (.str x)),some (.sh (.lst ((cV R a x).map qE))),some (.sh (.lst ((cV R c x).map qE))),o6]) (cu E.bM (ah (cA (al8 ..) E.bV (aK E.bC) E.b9)) (by omega) E.bL) ⟨_,by show _=[_,_,some (T.lst (((L0++[]).map Q0).map T.sh)),_,_,_,_];rw[amQ];rfl⟩ (fun j δ ⟨_,e⟩=>by subst e;exact amh rfl) ?mj ?fin2
 case fin2=>
   rintro δ ⟨o6,rfl⟩
   rw[show(ck 0 (((cV R a x).length:Nat):Int).toNat).length=(cV R a x).length by simp[ck]]
   exact aC ⟨_,_,_,_,rfl⟩
 case mj=>
   rintro i d δ hi ⟨o6,rfl⟩
   obtain⟨rfl,hil⟩:=fM hi
   rw[am0]
   have hi1:i<(cV R a x).length:=by omega
   have BK:∀l:List R7,i<l.length->rW (l.map qE) (i:Nat)=some (qE (l.getD i rZ)):=fun l hl=>by
     refine aG ?_
     rw[amg,al9 hl,amb,al9 hl]
     rfl
   have e6:JL R a c x (i+1)=JL R a c x i++[(.tup [.str x,.int (i:Nat)],((cV R a x).getD i rZ).2.2,((cV R c x).getD i rZ).2.2)]:=by
     unfold JL
     rw[ane,ams]
     rfl
   have l6:(JL R a c x i).length=i:=by unfold JL;rw[al8,amv]
   refine vO E.gP.1 rfl (aD (aQ (ds:=[.tup [.str x,.int (i:Nat)],.tup [.int (((cV R a x).getD i rZ).2.2:Nat),.int (((cV R c x).getD i rZ).2.2:Nat)]]) (au (aQ (ds:=[.str x,.int (i:Nat)]) (au (v_ E.fF.1) (au (v_ E.cO.1) aW)) (aq rfl)) (au (aQ (ds:=[.int (((cV R a x).getD i rZ).2.2:Nat),.int (((cV R c x).getD i rZ).2.2:Nat)]) (au (ic (dO (v_ E.bC.1) (aK E.cO) (BK _ hi1)) (ah aj) (aG (j:=2) rfl)) (au (ic (dO (v_ E.ER.1) (aK E.cO) (BK _ (by omega))) (ah aj) (aG (j:=2) rfl)) aW)) (aq rfl)) aW)) (aq rfl)) (t2:=.sh (Q0 (.tup [.str x,.int (i:Nat)],((cV R a x).getD i rZ).2.2,((cV R c x).getD i rZ).2.2))) rfl) rfl (by rw[al8,al8,amn,l6];omega) (aC ⟨some (.sh (.int (i:Nat))),?_⟩)
   show _=[_,_,some (T.lst (((L0++JL R a c x (i+1)).map Q0).map T.sh)),_,_,_,_]
   rw[e6,← amm,ams (l₁:=L0++_),ams (l₁:=(L0++_).map Q0)]
   rfl
theorem eZ:lQ (ak nq) ([("table",av),("pair",av),("steps",av),("sign",av),("rows",av),("others",av),("number",av),("range",aB),("len",aB)])=true:=by decide +kernel
theorem EV:aP ["table","pair","steps","sign","rows","others","number"] ["table","pair"] (ak nq):=bw
abbrev ny:Stmt:=top 14
abbrev g6:Type:=(Nat->List L3.D)×(Nat->List (L3.D×Nat))×(Nat->Bool)×Nat
def jV:g6->Addr->Addr->List L3.D:=fun(pl,st,en,n) f1 f2=>[kO pl 0,.val (.ref f1),.val (.ref f2)]
abbrev kK:Type:=(Nat->List L3.D)×Nat
def jW:kK->L3.D:=fun p=>.tup (p.1 p.2)
def nA:g6->kK->Prop:=fun(pl,st,en,n)=>fun p=>p.1=pl/\p.2<n/\en p.2=false
def nB:g6->kK->Prop:=fun(pl,st,en,n)=>fun p=>p.1=pl/\p.2<n
def pK:g6->kK->T:=fun(pl,st,en,n)=>fun p=>.lst (((st p.2).map (sPP pl)).map T.sh)
def pL:g6->kK->T:=fun(pl,st,en,n)=>fun p=>.sh (.bl (en p.2))
def iE:g6->Prop:=fun(pl,st,en,n)=>0<n/\n<=500/\(∀p,p<n->∀e∈st p,e.2<n/\e.1.gA=true)/\EC pl n
def iF:g6->T:=fun(pl,st,en,n)=>(B6 pl st en n:T)
structure GZ(X:Cx)(CL:Str->Addr):Prop extends cY X where
 J1:Ln X 0 "start"
 rL:Ln X 1 "steps_of"
 RB:Ln X 2 "is_end"
 rK:Ln X 3 "came"
 qm:Ln X 4 "waiting"
 yX:Ln X 5 "at"
 ve:Ln X 6 "here"
 iX:Ln X 7 "step"
 t7:Ln X 8 "behind"
 b9:Gl X "len"
 lE:Gl X "path_behind"
 bV:X.mg "len" = none
 z7:Fc X CL "path_behind" 1 2 gQ fN gR
 rm:dW 2 X.A
 ex0:X.ex=[]
theorem G0{W:Hp}(E:GZ X CL)(pl st en n)(f1 f2:Addr)(h:iE (pl,st,en,n))(o1:Yw X.prog X.w X.K X.mg X.base CL 2 f1 X.fs X.s₀ X.H₀ W jW (nA (pl,st,en,n)) (pK (pl,st,en,n)))(o2:Yw X.prog X.w X.K X.mg X.base CL 2 f2 X.fs X.s₀ X.H₀ W jW (nB (pl,st,en,n)) (pL (pl,st,en,n))) :
   dZ X CL ⟨X.H₀,W⟩ (ez ny) (entry ["start","steps_of","is_end","came","waiting","at","here","step","behind"] (jV (pl,st,en,n) f1 f2)) {nx:=fun _=>iF (pl,st,en,n)=.sh .non,rt:=fun t _=>t=iF (pl,st,en,n)}:=by
 dsimp only [iE,jV,iF]at h ⊢
 obtain⟨h0,hn,E8,hpl⟩:=h
 refine aR E.g E.rK (aeJ E.u (v_ E.J1.1) FQ (hpl.nst 0 h0)) ?_
 refine aR E.g E.qm (lz (aU (v_ E.J1.1) cS) (aq rfl)) ?_
 refine aR E.g E.yX aj ?_
 refine BF E.g (fun m δ=>∃(i:Nat) (o6 o7 o8:Option T),(m+i=n/\i<=(aH st i).length/\∀j,j<i->en (e9 (aH st i) j)=false)/\δ=[some (.sh (kO pl 0)),some (.sh (.val (.ref f1))),some (.sh (.val (.ref f2))),some (.gF X.w (yH pl (aH st i)) (Qe pl (aH st i))),some (.lst (((ky (aH st i)).map (kO pl)).map T.sh)),some (.sh (.int (i:Nat))),o6,o7,o8]) n ⟨0,_,_,_,⟨rfl,amR _,fun j hj=>by omega⟩,rfl⟩ ?loop
 case loop=>
   rintro m δ ⟨i,o6,o7,o8,⟨hm,hil,sy⟩,rfl⟩
   obtain⟨T5,hln⟩:=sY h0 (fun p hp e he=>(E8 p hp e he).1) i (st:=st)
   have hb:=i9 (st:=st) i
   have hwl:((ky (aH st i)).map (kO pl)).length=(aH st i).length:=by rw[al8,mR]
   refine⟨_,_,(Yc (aK E.yX) (ah (cA hwl E.bV (vL E.qm.1) E.b9))).1,fun hp=>?_,fun hp=>?_⟩
   . have hi:i<(aH st i).length:=by
       have:(i:Int)<((aH st i).length:Nat):=amO hp
       omega
     have hin:i<n:=by omega
     have zX:((ky (aH st i)).map (kO pl))[i]? = some (kO pl (e9 (aH st i) i)):=by
       have hk:i<(ky (aH st i)).length:=by rw[mR];exact hi
       unfold e9
       rw[amg,amb,al9 hk]
       rfl
     have M9:e9 (aH st i) i<n:=by
       have hk:i<(ky (aH st i)).length:=by rw[mR];exact hi
       refine T5 _ ?_
       unfold e9
       rw[amb,al9 hk]
       exact ano hk
     have Mi:=yJ h0 E8 i
     refine aR E.g E.ve (gG (d:=kO pl (e9 (aH st i) i)) (c5 (vL E.qm.1) (aK E.yX) (aG zX)) (hpl.gA _)) ?_
     refine aaK E.g E.yX rfl (ah aj) ?_
     have Pz:=Qj (pl:=pl) (n:=n) (en:=en) (by omega) hi sy
     have abY:aH st (i+1)=(st (e9 (aH st i) i)).foldl (fz i) (aH st i):=by rw[aH,amx hi];rfl
     have abZ:en (e9 (aH st i) i)=false->∀j,j<i+1->en (e9 (aH st (i+1)) j)=false:=fun he j hj=>by
       rw[(pR (st:=st) (Nat.le_add_right i 1) (j:=j) (by omega)).2.1]
       rcases aoW j i with z|z
       . exact sy j z
       . rw[show j=i by omega]
         exact he
     have afc:i+1<=(aH st (i+1)).length:=by
       have:=(pR (st:=st) (Nat.le_add_right i 1) (j:=i) hi).2.2
       omega
     have RC:∀l:List (L3.D×Nat),(∀e∈l,e∈st (e9 (aH st i) i))->_:=fun l hl=>B4 (st:=st) (l:=l) hi hl hb.hd hb.nd (fun j p k s h hj=>by
       obtain⟨a1,a2,a3⟩:=hb.par j p k s h hj
       exact⟨a1,by omega,a3⟩) hb.mono
     generalize hV:aH st i=V at hb zX M9 Mi Pz abY abZ hln RC T5 hi hwl hil ⊢
     generalize hP:e9 V i=p at zX M9 Pz abY abZ RC ⊢
     refine iM (nW (aD (Ep (pl,p) E.RB.1 rfl E.ex0 o2 rfl E.rm (ai (aK E.ve) aF) ⟨rfl,M9⟩ rfl) (t2:=.sh (.bl (en p))) rfl)) (fun he=>?_) (fun he=>aC ?_)
     . refine bT (aD (gb (aU (aD (c_ (X.w,pl,n,st,i,V,i) E.z7 E.lE (ai (vE E.rK.1 rfl (by rw[T.bP])) (ai (Eb (aK E.ve) (by rw[hP])) aF)) (by dsimp only [fN];exact⟨hb,hi,by omega,Mi,hpl,T5⟩) (aS (yK hb Mi i hi))) rfl) (aU (v_ E.ve.1) cS)) (aq rfl)) rfl) (Pz he).symm
     . refine FY E.g (BI E.g.nd E.g.calm E.iX E.t7) (fun m2 δ=>∃(o7 o8:Option T),δ=[some (.sh (kO pl 0)),some (.sh (.val (.ref f1))),some (.sh (.val (.ref f2))),some (.gF X.w (yH pl (((st p).take m2).foldl (fz i) V)) (Qe pl (((st p).take m2).foldl (fz i) V))),some (.lst (((ky (((st p).take m2).foldl (fz i) V)).map (kO pl)).map T.sh)),some (.sh (.int ((i:Int)+1))),some (.sh (kO pl p)),o7,o8])
         (IX (gH (IV (ds:=(st p).map (sPP pl)) (aD (Ep (pl,p) E.rL.1 rfl E.ex0 o1 rfl E.rm (ai (aK E.ve) aF) ⟨rfl,M9,he⟩ (aS (LD (fun e he=>by show(e.1.gA&&(D.aY (pl e.2)&&true))=true;rw[(E8 p M9 e he).2,hpl.gA];rfl)))) rfl)))) ⟨_,_,rfl⟩ (fun j δ ⟨_,_,e⟩=>by subst e;intro i hi;simp only[ami,amw,ani]at hi;rcases hi with rfl|rfl<;>exact amh rfl) ?turn ?fin
       case turn=>
         rintro m2 d δ hd ⟨o7,o8,rfl⟩
         rw[amg]at hd
         obtain⟨e,hq,rfl⟩:=amG.mp hd
         have hem:e∈st p:=amt hq
         have htk:((st p).take (m2+1)).foldl (fz i) V=fz i (((st p).take m2).foldl (fz i) V) e:=by rw[anh,hq,List.foldl_append];rfl
         obtain⟨g1,g2,g3,g4,_⟩:=RC ((st p).take m2) (fun e he=>anD he)
         obtain⟨Vx,hVx⟩:=oX i ((st p).take m2) V
         refine⟨[e.1,kO pl e.2],rfl,?_⟩
         rw[htk]
         have afd:i<(((st p).take m2).foldl (fz i) V).length:=by rw[hVx,amn];omega
         have hkp:e9 (((st p).take m2).foldl (fz i) V) i=p:=by rw[hVx,kU hi,hP]
         have TF:∀q∈ky (((st p).take m2).foldl (fz i) V),q<n:=Jk (fun e he=>(E8 p M9 e (anD he)).1) T5
         have hvl:=yG g2 TF
         rw[mR]at hvl
         have Wx:e.2<n:=(E8 p M9 e hem).1
         generalize ((st p).take m2).foldl (fz i) V=U at g1 g2 g3 afd hkp hvl TF ⊢
         have ok:=Qg hpl TF g2 (by omega)
         refine iM (Vz E.u ok (aK E.t7) (vE E.rK.1 rfl (by rw[T.bP])) (hpl.nst _ Wx) rfl) (fun hc=>?_) (fun hc=>aC (aC ⟨some (.sh e.1),some (.sh (kO pl e.2)),?_⟩))
         . have hc:kO pl e.2∉yH pl U:=(by simpa using hc:L3.D.tup (pl e.2)∉yH pl U)
           have FE:e.2∉ky U:=fun z=>hc ((Jj hpl TF Wx).mpr z)
           refine aaX E.u ok E.rK.1 (aQ (ds:=[kO pl p,e.1]) (au (v_ E.ve.1) (au (v_ E.iX.1) aW)) (aq rfl)) (v_ E.t7.1) rfl (hpl.nst _ Wx) hc ?_
           have yu:Qe pl U++[.tup [kO pl p,e.1]]=Qe pl (U++[(e.2,i,e.1)]):=by rw[Qh g1 g3 afd,hkp]
           have hnk:yH pl U++[.tup (pl e.2)]=yH pl (U++[(e.2,i,e.1)]):=by unfold yH;rw[xg,ams];rfl
           rw[yu,hnk]
           refine vO E.qm.1 rfl (aD (v_ E.t7.1) (t2:=.sh (kO pl e.2)) rfl) rfl (by rw[al8,al8,mR];omega) (aC (aC ⟨some (.sh e.1),some (.sh (kO pl e.2)),?_⟩))
           unfold fz
           rw[amq FE,xg,ams (l₁:=ky U),ams (l₁:=(ky U).map (kO pl))]
           rfl
         . have hc:kO pl e.2∈yH pl U:=(by simpa using hc:L3.D.tup (pl e.2)∈yH pl U)
           unfold fz
           rw[amx ((Jj hpl TF Wx).mp hc)]
           rfl
       case fin=>
         rintro δ ⟨o7,o8,rfl⟩
         rw[al8,anE]
         have he:en p=false:=he
         refine aC ⟨m-1,by omega,i+1,some (.sh (kO pl p)),o7,o8,⟨by omega,afc,abZ he⟩,?_⟩
         rw[abY]
         rfl
   . have hle:(aH st i).length<=i:=by
       have:=anb hp
       omega
     exact bT FQ (Qk (by omega) hle sy).symm
theorem dh:lQ (ak ny) ([("start",av),("steps_of",av),("is_end",av),("came",av),("waiting",av),("at",av),("here",av),("step",av),("behind",av),("len",aB),("path_behind",aB)])=true:=by decide +kernel
theorem vZ:aP ["start","steps_of","is_end","came","waiting","at","here","step","behind"] ["start","steps_of","is_end"] (ak ny):=bw
abbrev gS:Stmt:=top 19
abbrev gT:Type:=List L3.D×List L3.D×List L3.D×List Str×(List (bS×List R7))×Nat×Nat
def fX:gT->List L3.D:=fun(bs,bg,pr,hs,R,a,c)=>[f6 bs (hs.map .str) bg pr (fj R),.dct (Fo R hs (pr.length*hs.length)),.tup [.int (a:Nat),.int (c:Nat)]]
def fY:gT->Prop:=fun(bs,bg,pr,hs,R,a,c)=>oj R hs pr.length/\hs.Nodup/\a<pr.length/\c<pr.length
def fZ:gT->T:=fun(bs,bg,pr,hs,R,a,c)=>(.lst (((L8 R hs a c).map .str).map T.sh):T)
structure wG(X:Cx)(CL:Str->Addr):Prop extends cY X where
 aL:Ln X 0 "table"
 jR:Ln X 1 "looks"
 Dc:X.env.kindOf "looks" = some .cell
 C9:Ln X 2 "pair"
 ab0:X.env.kindOf "pair" = some .cell
 aN:x6 X.K (CL "Table")
 aV:bz X.K (CL "Table") "signs"
theorem wH{b:Bx}(E:wG X CL){cC:gT}(h:fY cC) :
   aE X CL b gS ["table","looks","pair"] (fX cC) (fZ cC):=by
 obtain⟨bs,bg,pr,hs,R,a,c⟩:=cC
 dsimp only [aE,fY,fX,fZ]at h ⊢
 obtain⟨ht,nd,ha,hc⟩:=h
 have hH:=ht.e
 refine bT (aD (i6 (p:=fun d=>!rY (tF R a d.toS) (tF R c d.toS)) (g:=fun d=>T.sh (.str d.toS)) (bI (.cons E.jR.1 (.inl E.Dc) (.cons E.C9.1 (.inl E.ab0) .nil)) (by decide +kernel)) E.g.calm (gH (gn E.aN E.aV (v_ E.aL.1) eO)) (.inr rfl) (fun C s0 H0 f0 b' d hd=>?xr) (by rw[al8,amE];omega)) ?eq) rfl
 case xr=>
   obtain⟨x,hx,rfl⟩:=amj.mp hd
   have dA:jH 60 (tF R a x):=(oY (gE (ht.row ha hx).2.2).1 (by decide)).dep
   have dC:jH 60 (tF R c x):=(oY (gE (ht.row hc hx).2.2).1 (by decide)).dep
   exact⟨(yi (by exact E.u) (ah (gJ (j6 a x) (by exact E.u) (v_ (cJ (i:=1) rfl (by decide +kernel))) (aD (gb (aU (ic (v_ (cJ (i:=2) rfl (by decide +kernel))) (ah aj) (aG (j:=0) rfl)) (aU (v_ (cy (i:=0) rfl (by decide +kernel))) cS)) (aq rfl)) (t2:=fu (j6 a x)) rfl) (JM nd ha hx))) (ah (gJ (j6 c x) (by exact E.u) (v_ (cJ (i:=1) rfl (by decide +kernel))) (aD (gb (aU (ic (v_ (cJ (i:=2) rfl (by decide +kernel))) (ah aj) (aG (j:=1) rfl)) (aU (v_ (cy (i:=0) rfl (by decide +kernel))) cS)) (aq rfl)) (t2:=fu (j6 c x)) rfl) (JM nd hc hx))) dA dC).1,fun _=>aD (v_ (cy (i:=0) rfl (by decide +kernel))) rfl⟩
 case eq=>
   unfold L8
   rw[an6,amy,amy]
   rfl
theorem fC:lQ (ak gS) ([("table",av),("looks",.cell),("pair",.cell)])=true:=by decide +kernel
theorem vf:aP ["table","looks","pair"] ["table","looks","pair"] (ak gS):=bw
abbrev t8:Stmt:=top 17
abbrev t9:Type:=List L3.D×List L3.D×List L3.D×List Str×(List (bS×List R7))×Nat×Nat
def nE:t9->List L3.D:=fun(bs,bg,pr,hs,R,u,v)=>[f6 bs (hs.map .str) bg pr (fj R),.int (u:Nat),.int (v:Nat)]
def kL:t9->Prop:=fun(bs,bg,pr,hs,R,u,v)=>oj R hs pr.length/\hs.Nodup/\u<pr.length/\v<pr.length/\pr.length<=20
def nF:t9->T:=fun(bs,bg,pr,hs,R,u,v)=>(Wv R hs pr.length (u*pr.length+v):T)
structure RD(X:Cx)(CL:Str->Addr):Prop extends cY X where
 aL:Ln X 0 "table"
 iD:X.env.kindOf "table" = some .cell
 iG:Ln X 1 "one"
 e7:Ln X 2 "other"
 aJ:Ln X 3 "found"
 jR:Ln X 4 "looks"
 Dc:X.env.kindOf "looks" = some .cell
 rM:Gl X "looks_of"
 rN:Gl X "searched"
 jC:Gl X "parting_signs"
 G3:Fc X CL "looks_of" 3 1 jO jP jQ
 G4:FcO X CL "searched" 3 2 3 jV iE iF jW nA nB pK pL
 n5:Fc X CL "parting_signs" 1 3 fX fY fZ
 G5:Fc X CL "steps_of" 1 2 jS jT jU
 bV:X.mg "len" = none
 lam:U6 X CL "#parted.<locals>.<lambda>" "parted.<locals>.<lambda>"
 dp:X.A.depth<recursionLimit
 rm:dW 3 X.A
 fn0:∀y,X.fn y=true
theorem RG{b:Bx}(E:RD X CL){cC:t9}(h:kL cC) :
   aE X CL b t8 ["table","one","other","found","looks"] (nE cC) (nF cC):=by
 obtain⟨bs,bg,pr,hs,R,u,v⟩:=cC
 dsimp only [aE,kL,nE,nF]at h ⊢
 obtain⟨ht,nd,hu,hv,h20⟩:=h
 obtain⟨n,hn⟩:∃n,n=pr.length:=⟨_,rfl⟩
 have n1:0<n:=by omega
 have hNN:n*n<=20*20:=aoj (by omega) (by omega)
 have wk:u*n+v<n*n:=A6 (by omega) (by omega)
 have htn:oj R hs n:=by rw[hn];exact ht
 obtain⟨z1,z2⟩:=JN (n:=n) (a:=u) (c:=v) (by omega) (by omega)
 show dZ X CL b _ [some (.sh (f6 bs (hs.map .str) bg pr (fj R))),some (.sh (.int (u:Nat))),some (.sh (.int (v:Nat))),none,none] {nx:=_,rt:=fun zV _=>zV=Wv R hs pr.length (u*pr.length+v),bk:=_,ct:=_}
 refine aR E.g E.jR (kT (d:=.dct (Fo R hs (pr.length*hs.length))) (aD (c_ (bs,bg,pr,hs,R) E.G3 E.rM (ai (aK E.aL) aF) ⟨ht,nd⟩ ?cl) (t2:=.dct (L7 R hs (pr.length*hs.length))) rfl) (by rw[T.bP,Wt])) ?_
 case cl=>
   show(T.dct (L7 R hs (pr.length*hs.length))).clean=true
   rw[T.clean]
   refine Q6 fun q hq=>?_
   unfold Fo at hq
   obtain⟨i,hi,rfl⟩:=amj.mp hq
   obtain⟨d1,d2⟩:=dm7 i (amH.mp hi)
   exact(gE (ht.row d1 (jB d2)).2.2).2
 rw[← hn]
 generalize hS:u*n+v=s at wk z1 z2 ⊢
 have hpl:=abq n1 wk
 have E8:∀p,p<n*n->∀e∈jG R hs n s p,e.2<n*n/\e.1.gA=true:=fun p _=>xu htn p
 have yd:iE (GC n s,jG R hs n s,wF R hs n s,n*n):=⟨aoM n1 n1,by omega,E8,hpl⟩
 have W7:(B6 (GC n s) (jG R hs n s) (wF R hs n s) (n*n)).clean=true:=by
   unfold B6
   split
   . rfl
   . rename_i j hj
     have hj:j<(aH (jG R hs n s) (n*n)).length:=amH.mp (an2 hj)
     rw[T.clean,T.cR,T.cR,T.cR,aS (yK (i9 (n*n)) (yJ (aoM n1 n1) E8 (n*n)) j hj)]
     rfl
 refine aR E.g E.aJ (aD (Lv (y1:="pair") (y2:="pair") (d0:=kO (GC n s) 0) (GC n s,jG R hs n s,wF R hs n s,n*n) E.G4 E.rN E.lam E.fn0 (bI (.cons E.aL.1 (.inl E.iD) .nil) (by decide +kernel)) (bI (.cons E.jR.1 (.inl E.Dc) (.cons E.aL.1 (.inl E.iD) .nil)) (by decide +kernel)) (Eb (ah (aQ (ds:=[.int (u:Nat),.int (v:Nat)]) (au (v_ E.iG.1) (au (v_ E.e7.1) aW)) (aq rfl))) (by unfold kO GC;rw[z1,z2])) (fun _ _=>rfl) yd W7 (fun Ar outer f c s' H b' p hr2 M9=>?l1) (fun Ar outer f c s' H b' p hr2 M9=>?l2)) (t2:=B6 (GC n s) (jG R hs n s) (wF R hs n s) (n*n)) rfl) ?rest
 case l1=>
   obtain⟨q1,q2,q3⟩:=M9
   obtain⟨f0,p⟩:=p
   have q1:f0=GC n s:=q1
   subst q1
   have hb:=nY (s:=s) (p:=p) n1
   have GB:=(rD htn).mp q3
   refine aD (c_ (bs,bg,pr,hs,R,lN n s p,lW n s p) (Yy E.G5 hr2) (PN (by decide +kernel)) (ai (ah (v_ (Gk (i:=1) rfl (by decide +kernel)))) (ai (ah (v_ (PL (i:=0) rfl (by decide +kernel)))) aF)) ⟨ht,by rw[← hn];exact hb.1,by rw[← hn];exact hb.2,GB⟩ ?cl2) ?e2
   case cl2=>
     refine aS (vW fun e he=>?_)
     have:=Cq htn hb.1 hb.2 GB e he
     show(e.1.gA&&(true&&true))=true
     rw[this.1]
     rfl
   case e2=>
     show T.lst (((EF R hs (lN n s p) (lW n s p)).map Q0).map T.sh)=T.lst (((jG R hs n s p).map (sPP (GC n s))).map T.sh)
     rw[abr htn wk q3]
 case l2=>
   obtain⟨q1,q2⟩:=M9
   obtain⟨f0,p⟩:=p
   have q1:f0=GC n s:=q1
   subst q1
   have hb:=nY (s:=s) (p:=p) n1
   refine aD (N8 (ah (cA (al8 ..) (by exact E.bV) (dI (aD (c_ (bs,bg,pr,hs,R,lN n s p,lW n s p) (Yy E.n5 hr2) (PN (by decide +kernel)) (ai (ah (v_ (Gk (i:=2) rfl (by decide +kernel)))) (ai (Eb (ah (v_ (d:=.dct (Fo R hs (n*hs.length))) (Gk (i:=1) rfl (by decide +kernel)))) (by rw[hn])) (ai (ah (v_ (PL (i:=0) rfl (by decide +kernel)))) aF))) ⟨ht,nd,by rw[← hn];exact hb.1,by rw[← hn];exact hb.2⟩ (aS (dg _))) (t2:=.lst (((L8 R hs (lN n s p) (lW n s p)).map .str).map T.sh)) rfl)) (PN (by decide +kernel)))) (ah aj)).2 ?_
   show T.sh (.bl (decide ((0:Int)<((L8 R hs (lN n s p) (lW n s p)).length:Nat))))=T.sh (.bl (wF R hs n s p))
   unfold wF
   rw[decide_eq_decide.mpr (by omega:(0:Int)<((L8 R hs (lN n s p) (lW n s p)).length:Nat)↔0<(L8 R hs (lN n s p) (lW n s p)).length)]
 case rest=>
 unfold Wv B6
 cases e:yI (jG R hs n s) (wF R hs n s) (n*n) with
 | none=>
   dsimp only
   exact iM (aaE (aK E.aJ)).1 (fun _=>bT FQ rfl) (fun hp=>by cases hp)
 | some j=>
   dsimp only
   have Wx:wF R hs n s (e9 (aH (jG R hs n s) (n*n)) j)=true:=List.find?_some (p:=fun j=>wF R hs n s (e9 (aH (jG R hs n s) (n*n)) j)) (show(List.range (aH (jG R hs n s) (n*n)).length).find? (fun j=>wF R hs n s (e9 (aH (jG R hs n s) (n*n)) j))=some j from e)
   generalize e9 (aH (jG R hs n s) (n*n)) j=p at Wx ⊢
   have hb:=nY (s:=s) (p:=p) n1
   have yr:0<(L8 R hs (lN n s p) (lW n s p)).length:=amO Wx
   refine iM (Vb (vE E.aJ.1 rfl (by rw[T.bP,T.dM,T.dM,T.dM]))) (fun hp=>by cases hp) (fun _=>aC ?_)
   exact bT (gb (aU (UK 0 E.aJ.1 rfl rfl) (aU (gG (c5 (dI (aD (c_ (bs,bg,pr,hs,R,lN n s p,lW n s p) E.n5 E.jC (ai (aK E.aL) (ai (Eb (aK E.jR) (by rw[hn])) (ai (ah (Ve (p:=[.ix 1]) (d:=.tup (GC n s p)) (aaJ (j:=1) (Ja E.aJ.1 rfl) rfl rfl (ah aj) rfl) rfl rfl)) aF))) ⟨ht,nd,by rw[← hn];exact hb.1,by rw[← hn];exact hb.2⟩ (aS (dg _))) (t2:=.lst (((L8 R hs (lN n s p) (lW n s p)).map .str).map T.sh)) rfl)) (ah aj) (qZ Str.empty (by decide) (by omega))) rfl) cS)) (aq rfl)) rfl
theorem fU:lQ (ak t8) ([("table",.cell),("one",av),("other",av),("found",av),("looks",.cell),("looks_of",aB),("searched",aB),("parting_signs",aB)])=true:=by decide +kernel
theorem Bb:aP ["table","one","other","found","looks"] ["table","one","other"] (ak t8):=bw
abbrev xT:Stmt:=top 22
abbrev Dd:Type:=Int
def qo:Dd->List L3.D:=fun i=>[.int i]
def qp:Dd->Prop:=fun i=>True
def qq:Dd->T:=fun i=>(.sh (.bl true):T)
structure W8(X:Cx)(CL:Str->Addr):Prop extends cY X where
 aJ:Ln X 0 "found"
 fH:Gl X "isinstance"
 afe:Gl X "int"
 g_bool:Gl X "bool"
 fJ:X.mg "isinstance" = none
 afg:X.mg "int" = none
 ab1:X.mg "bool" = none
theorem W9{b:Bx}(E:W8 X CL){i}(h:qp i) :
   aE X CL b xT ["found"] (qo i) (qq i):=by
 dsimp only [aE,qp,qo,qq]at h ⊢
 exact bT (Oa (isI E.fJ E.afg E.fH E.afe (aK E.aJ)) (fun _=>N9 (Z6 (isB E.fJ E.ab1 E.fH E.g_bool (aK E.aJ))))) rfl
theorem ua:lQ (ak xT) ([("found",av),("isinstance",aB),("int",aB),("bool",aB)])=true:=by decide +kernel
theorem RH:aP ["found"] ["found"] (ak xT):=bw
abbrev qu:Stmt:=top 39
abbrev vg:Type:=List It
def k6:vg->List L3.D:=fun xs=>[.tup (xs.map It.d)]
def k7:vg->Prop:=fun xs=>xs.length<=1000
def k8:vg->T:=fun xs=>(.lst (((xs.filter It.told).map It.d).map T.sh):T)
structure Ms(X:Cx)(CL:Str->Addr):Prop extends cY X where
 bC:Ln X 0 "rows"
theorem Mt{b:Bx}(E:Ms X CL){xs}(h:k7 xs) :
   aE X CL b qu ["rows"] (k6 xs) (k8 xs):=by
 dsimp only [aE,k7,k6,k8]at h ⊢
 have h:xs.length<=1000:=h
 refine bT (aD (i6 (p:=fun d=>!decide (d.BK.toS∈cK)) (g:=fun d=>T.sh d) (bI .nil (by decide +kernel)) E.g.calm (Oe (v_ E.bC.1)) (.inr rfl) (fun C s0 H0 f0 b' d hd=>?xr) (anW (g7 (by simp;omega)))) ?eq) rfl
 case xr=>
   obtain⟨r,hr,rfl⟩:=amj.mp hd
   exact⟨(wY (l:=cK) (dN (ah (v_ (cy (i:=0) rfl (by decide +kernel)))) (ah aj) (aeN r.sj)) (ah (aQ (ds:=cK.map .str) (sQ (l:=cK) rfl) (aq rfl))) rfl rfl).1,fun _=>v_ (cy (i:=0) rfl (by decide +kernel))⟩
 case eq=>
   refine congrArg T.lst ?_
   have e:((fun d:L3.D=>!decide (d.BK.toS∈cK))∘It.d)=It.told:=by
     funext x
     show(!decide (x.sj.w∈cK))=x.told
     rw[sX,Bool.not_not]
   rw[an6,e]
theorem G6:lQ (ak qu) ([("rows",av)])=true:=by decide +kernel
theorem G7:aP ["rows"] ["rows"] (ak qu):=bw
abbrev uc:Stmt:=top 40
abbrev ud:Type:=List L3.D×List Str×List L3.D×List L3.D×(List (bS×List R7))×Nat×Str×Nat
def nG:ud->List L3.D:=fun(bs,hs,bg,pr,R,a,x,n)=>[.lst [.lst bs,.lst (hs.map .str),.tup bg,.lst pr,.dct (dX (fj R))],.int (a:Nat),.str x]
def nI:ud->Prop:=fun(bs,hs,bg,pr,R,a,x,n)=>iU R (j6 a x)=some (cV R a x)/\(cV R a x).length<=100/\∀r∈cV R a x,LX n r
def nJ:ud->T:=fun(bs,hs,bg,pr,R,a,x,n)=>(.lst ((cV R a x).map Wd):T)
structure RJ(X:Cx)(CL:Str->Addr):Prop extends cY X where
 bY:Ln X 0 "parts"
 gw:Ln X 1 "flat"
 fF:Ln X 2 "sign"
 Mu:Fc X CL "_law_told" 1 1 k6 k7 k8
theorem RK{b:Bx}(E:RJ X CL){cC:ud}(h:nI cC) :
   aE X CL b uc ["parts","flat","sign"] (nG cC) (nJ cC):=by
 obtain⟨bs,hs,bg,pr,R,a,x,n⟩:=cC
 dsimp only [aE,nI,nG,nJ]at h ⊢
 obtain⟨h1,h2,h3⟩:=h
 show dZ X CL b _ [some (.sh (.lst [.lst bs,.lst (hs.map .str),.tup bg,.lst pr,.dct (dX (fj R))])),some (.sh (.int (a:Nat))),some (.sh (.str x))] {nx:=_,rt:=fun zV _=>zV=T.lst ((cV R a x).map Wd),bk:=_,ct:=_}
 generalize cV R a x=l at h1 h2 h3 ⊢
 refine bT (aD (i6 (p:=fun _=>true) (g:=fgO) (bI .nil (by decide +kernel)) E.g.calm (gH (gJ (j6 a x) E.u (dO (v_ E.bY.1) (ah aj) (aG (j:=4) rfl)) (aD (gb (aU (v_ E.gw.1) (aU (v_ E.fF.1) cS)) (aq rfl)) (t2:=fu (j6 a x)) rfl) (kW h1))) (.inr rfl) (fun C s0 H0 f0 b' d hd=>?xr) (by rw[al8,amE];omega)) ?eq) rfl
 case xr=>
   obtain⟨r,hr,rfl⟩:=amj.mp hd
   have hrw:=h3 r hr
   refine⟨rfl,fun _=>aD (gb (aU (ic (v_ (cy (i:=0) rfl (by decide +kernel))) (ah aj) (aG (j:=0) rfl)) (aU (c_ r.2.1 (gC E.Mu) (dH (by decide +kernel)) (ai (dN (ah (v_ (cy (i:=0) rfl (by decide +kernel)))) (ah aj) (aG (j:=1) rfl)) aF) hrw.e (aS (cG _))) cS)) (aq rfl)) ?_⟩
   rw[QK]
   rfl
 case eq=>
   rw[gk,amy]
   exact congrArg T.lst (amL fun r _=>QK r)
theorem vh:lQ (ak uc) ([("parts",av),("flat",av),("sign",av)])=true:=by decide +kernel
theorem Mv:aP ["parts","flat","sign"] ["parts","flat","sign"] (ak uc):=bw
abbrev jX:Stmt:=top 41
abbrev jY:Type:=List L3.D×List Str×List L3.D×List L3.D×(List (bS×List R7))×Nat×Nat×(List (Str×Nat))×Str×Nat×Nat×Nat
def iH:jY->List L3.D:=fun(bs,hs,bg,pr,R,u,v,qK,y,a,c,n)=>[.lst [.lst bs,.lst (hs.map .str),.tup bg,.lst pr,.dct (dX (fj R))],.int (u:Nat),.int (v:Nat),.tup [.lst (qK.map yQ),.str y]]
def iI:jY->Prop:=fun(bs,hs,bg,pr,R,u,v,qK,y,a,c,n)=>oj R hs n/\u<n/\v<n/\a<n/\c<n/\Wk6 R hs u v qK a c/\y∈hs/\¬ tF R a y=tF R c y/\qK.length<=500
def iJ:jY->T:=fun(bs,hs,bg,pr,R,u,v,qK,y,a,c,n)=>(.sh (.bl true):T)
structure De(X:Cx)(CL:Str->Addr):Prop extends cY X where
 bY:Ln X 0 "parts"
 iG:Ln X 1 "one"
 e7:Ln X 2 "other"
 aJ:Ln X 3 "found"
 iX:Ln X 4 "step"
 G8:Ln X 5 "mine"
 zf:Ln X 6 "theirs"
 fH:Gl X "isinstance"
 eX:Gl X "tuple"
 b9:Gl X "len"
 gY:Gl X "list"
 afh:Gl X "str"
 Df:Gl X "_law_whole"
 Ro:Gl X "min"
 qM:Gl X "_law_facing"
 fJ:X.mg "isinstance" = none
 cW:X.mg "tuple" = none
 bV:X.mg "len" = none
 gZ:X.mg "list" = none
 Rr:X.mg "str" = none
 Xa:Fc X CL "_law_whole" 1 1 qo qp qq
 Rp:X.mg "min" = none
 EW:Fc X CL "_law_facing" 2 3 nG nI nJ
theorem Dg{b:Bx}(E:De X CL){cC:jY}(h:iI cC) :
   aE X CL b jX ["parts","one","other","found","step","mine","theirs"] (iH cC) (iJ cC):=by
 obtain⟨bs,hs,bg,pr,R,u,v,qK,y,a,c,n⟩:=cC
 dsimp only [aE,iI,iH,iJ]at h ⊢
 obtain⟨ht,hu,hv,ha,hc,hw,hy,yr,hpl⟩:=h
 have hH:=ht.e
 refine iM (uF (sM (oH (nW (isT E.fJ E.cW E.fH E.eX (aK E.aJ) rfl))) (fun _=>qY (yf (ah (IJ E.bV (aK E.aJ) E.b9)) (ah aj)).1))) (fun hp=>by cases hp) (fun _=>aC ?_)
 refine iM (uF (sM (oH (nW (isL E.fJ E.gZ E.fH E.gY (dN (aK E.aJ) (ah aj) (aG (j:=0) rfl)) rfl))) (fun _=>qY (oH (nW (isS E.fJ E.Rr E.fH E.afh (dN (aK E.aJ) (ah aj) (aG (j:=1) rfl)) rfl)))))) (fun hp=>by cases hp) (fun _=>aC ?_)
 refine ig E.g E.iX (fun j δ=>∃(p q:Nat) (o4 o5 o6:Option T),(p<n/\q<n/\Wk6 R hs p q (qK.drop j) a c)/\δ=[some (.sh (.lst [.lst bs,.lst (hs.map .str),.tup bg,.lst pr,.dct (dX (fj R))])),some (.sh (.int (p:Nat))),some (.sh (.int (q:Nat))),some (.sh (.tup [.lst (qK.map yQ),.str y])),o4,o5,o6]) (gH (ic (v_ E.aJ.1) (ah aj) (aG (j:=0) rfl))) ⟨u,v,_,_,_,⟨hu,hv,by rw[List.drop_zero];exact hw⟩,rfl⟩ (fun j δ ⟨_,_,_,_,_,_,e⟩=>by subst e;exact amh rfl) ?turn ?fin
 case turn=>
   rintro j d δ hj ⟨p,q,o4,o5,o6,⟨hp,hq,hw⟩,rfl⟩
   rw[amg]at hj
   obtain⟨e,he,rfl⟩:=amG.mp hj
   have Fg:j<qK.length:=(amf.mp he).1
   have hd:qK.drop j=e::qK.drop (j+1):=by
     rw[List.drop_eq_getElem_cons Fg]
     congr 1
     exact(amf.mp he).2
   rw[hd]at hw
   obtain⟨w1,w2,w3,w4⟩:=hw
   obtain⟨x,k⟩:=e
   have w1:x∈hs:=w1
   have w2:k<(cV R p x).length:=w2
   have w3:k<(cV R q x).length:=w3
   obtain⟨q1,q2,q3⟩:=ht.row hp w1
   obtain⟨r1,r2,r3⟩:=ht.row hq w1
   have BK:∀l:List R7,k<l.length->rW (l.map qE) (k:Nat)=some (qE (l.getD k rZ)):=fun l hl=>by
     refine aG ?_
     rw[amg,al9 hl,amb,al9 hl]
     rfl
   show dZ X CL b _ [some (.sh (.lst [.lst bs,.lst (hs.map .str),.tup bg,.lst pr,.dct (dX (fj R))])),some (.sh (.int (p:Nat))),some (.sh (.int (q:Nat))),some (.sh (.tup [.lst (qK.map yQ),.str y])),some (.sh (.tup [.str x,.int (k:Nat)])),o5,o6] _
   refine iM (uF (sM (oH (nW (isT E.fJ E.cW E.fH E.eX (aK E.iX) rfl))) (fun _=>sM (yf (ah (IJ E.bV (aK E.iX) E.b9)) (ah aj)).1 (fun _=>qY (wY (l:=hs) (dN (aK E.iX) (ah aj) (aG (j:=0) rfl)) (c5 (aK E.bY) (ah aj) (aG (j:=1) rfl)) rfl rfl).1)))) (fun hp=>?no1) (fun _=>aC ?_)
   case no1=>
     exfalso
     have hp:(!true || (!decide ((2:Int)=2) || !decide (x∈hs)))=true:=hp
     rw[am6 w1]at hp
     cases hp
   refine aR E.g E.G8 (gJ (j6 p x) E.u (dO (v_ E.bY.1) (ah aj) (aG (j:=4) rfl)) (aD (gb (aU (v_ E.iG.1) (aU (ic (v_ E.iX.1) (ah aj) (aG (j:=0) rfl)) cS)) (aq rfl)) (t2:=fu (j6 p x)) rfl) (kW q1)) ?_
   refine aR E.g E.zf (gJ (j6 q x) E.u (dO (v_ E.bY.1) (ah aj) (aG (j:=4) rfl)) (aD (gb (aU (v_ E.e7.1) (aU (ic (v_ E.iX.1) (ah aj) (aG (j:=0) rfl)) cS)) (aq rfl)) (t2:=fu (j6 q x)) rfl) (kW r1)) ?_
   refine iM (uF (sM (oH (nW (c_ ((k:Nat):Int) E.Xa E.Df (ai (dN (aK E.iX) (ah aj) (aG (j:=1) rfl)) aF) trivial rfl))) (fun _=>qY (oH (aev adH XW (ah aj) (dN (aK E.iX) (ah aj) (aG (j:=1) rfl)) (ah (IQ E.g E.Rp E.Ro (ai (ah (cA (al8 ..) E.bV (aK E.G8) E.b9)) (ai (ah (cA (al8 ..) E.bV (aK E.zf) E.b9)) aF)))) (by with_unfolding_all rfl)).1)))) (fun hp=>?no2) (fun _=>aC ?_)
   case no2=>
     exfalso
     have e5:(decide ((0:Int)<=(k:Nat))&&decide (((k:Nat):Int)<if (((cV R q x).length:Nat):Int)<((cV R p x).length:Nat) then(((cV R q x).length:Nat):Int) else((cV R p x).length:Nat)))=true:=by
       rw[amI]
       refine⟨am6 (by omega),am6 ?_⟩
       split<;>omega
     have hp:(!true || !(decide ((0:Int)<=(k:Nat))&&decide (((k:Nat):Int)<if (((cV R q x).length:Nat):Int)<((cV R p x).length:Nat) then(((cV R q x).length:Nat):Int) else((cV R p x).length:Nat))))=true:=hp
     rw[e5]at hp
     cases hp
   refine aR E.g E.iG (ic (dO (v_ E.G8.1) (dN (aK E.iX) (ah aj) (aG (j:=1) rfl)) (BK _ w2)) (ah aj) (aG (j:=2) rfl)) ?_
   refine aR E.g E.e7 (ic (dO (v_ E.zf.1) (dN (aK E.iX) (ah aj) (aG (j:=1) rfl)) (BK _ w3)) (ah aj) (aG (j:=2) rfl)) (aC ⟨((cV R p x).getD k rZ).2.2,((cV R q x).getD k rZ).2.2,_,_,_,⟨(q3 _ (jB w2)).a,(r3 _ (jB w3)).a,w4⟩,rfl⟩)
 case fin=>
   rintro δ ⟨p,q,o4,o5,o6,⟨hp,hq,hw⟩,rfl⟩
   rw[al8,List.drop_length]at hw
   obtain⟨rfl,rfl⟩:=hw
   refine iM (wY (l:=hs) (dN (aK E.aJ) (ah aj) (aG (j:=1) rfl)) (c5 (aK E.bY) (ah aj) (aG (j:=1) rfl)) rfl rfl).1 (fun hp=>?no3) (fun _=>aC ?_)
   case no3=>
     exfalso
     rw[am6 hy]at hp
     cases hp
   have ra:=ht.row hp hy
   have rc:=ht.row hq hy
   have dA:jH 60 (.lst ((cV R p y).map A3)):=.lst fun d hd=>by
     obtain⟨r,hr,rfl⟩:=amj.mp hd
     exact QM (ra.2.2 r hr)
   have dC:jH 60 (.lst ((cV R q y).map A3)):=.lst fun d hd=>by
     obtain⟨r,hr,rfl⟩:=amj.mp hd
     exact QM (rc.2.2 r hr)
   refine bT (aD (yi E.u (d1:=.lst ((cV R p y).map A3)) (d2:=.lst ((cV R q y).map A3)) (ah (kT (c_ (bs,hs,bg,pr,R,p,y,n) E.EW E.qM (ai (aK E.bY) (ai (aK E.iG) (ai (dN (aK E.aJ) (ah aj) (aG (j:=1) rfl)) aF))) ra (A4 ra.2.2)) (JB _))) (ah (kT (c_ (bs,hs,bg,pr,R,q,y,n) E.EW E.qM (ai (aK E.bY) (ai (aK E.e7) (ai (dN (aK E.aJ) (ah aj) (aG (j:=1) rfl)) aF))) rc (A4 rc.2.2)) (JB _))) dA dC).2 (t2:=.sh (.bl true)) ?_) rfl
   have e6:rY (tF R p y) (tF R q y)=false:=(BV (show iN 5 (tF R p y) from(gE ra.2.2).1) 5 (show iN 5 (tF R q y) from(gE rc.2.2).1)).trans (amN yr)
   rw[ae0]
   have e6:rY (.tup ((cV R p y).map A2)) (.tup ((cV R q y).map A2))=false:=e6
   rw[e6]
   rfl
theorem bD:lQ (ak jX) ([("parts",av),("one",av),("other",av),("found",av),("step",av),("mine",av),("theirs",av),("isinstance",aB),("tuple",aB),("len",aB),("list",aB),("str",aB),("_law_whole",aB),("min",aB),("_law_facing",aB)])=true:=by decide +kernel
theorem z8:aP ["parts","one","other","found","step","mine","theirs"] ["parts","one","other","found"] (ak jX):=bw
def mgO(F:List Nat):L3.D->L3.D
 | .tup [a,.tup ds,.int i]=>.tup [a,.tup (ds.filter fun d=>!decide (d.BK.toS∈cK)),.int (F.getD i.toNat 0:Nat)]
 | d=>d
theorem RL(F:List Nat)(r:R7):mgO F (qE r)=qE (r.1,r.2.1.filter It.told,F.getD r.2.2 0):=by
 show L3.D.tup [.tup r.1,.tup ((r.2.1.map It.d).filter fun d=>!decide (d.BK.toS∈cK)),.int (F.getD (r.2.2:Int).toNat 0:Nat)]=_
 have e:((fun d:L3.D=>!decide (d.BK.toS∈cK))∘It.d)=It.told:=by
   funext x
   show(!decide (x.sj.w∈cK))=x.told
   rw[sX,Bool.not_not]
 rw[an6,e,amS]
 rfl
abbrev jd:Stmt:=top 12
abbrev je:Type:=List R7×List Nat×Nat
def gU:je->List L3.D:=fun(l,F,n)=>[.lst (l.map qE),.lst ((dF F).map .int)]
def gV:je->Prop:=fun(l,F,n)=>l.length<=100/\(∀r∈l,LX n r)/\F.length=n
def gW:je->T:=fun(l,F,n)=>(.lst (((L4 F l).map qE).map T.sh):T)
structure z9(X:Cx)(CL:Str->Addr):Prop extends cY X where
 bC:Ln X 0 "rows"
 aJ:Ln X 1 "found"
 t6:X.env.kindOf "found" = some .cell
 cW:X.mg "tuple" = none
 y9:Fc X CL "told" 1 1 mz mC mD
theorem Aa{b:Bx}(E:z9 X CL){cC:je}(h:gV cC) :
   aE X CL b jd ["rows","found"] (gU cC) (gW cC):=by
 obtain⟨l,F,n⟩:=cC
 dsimp only [aE,gV,gU,gW]at h ⊢
 obtain⟨h1,h2,h3⟩:=h
 refine bT (aD (i6 (p:=fun _=>true) (g:=fun d=>T.sh (mgO F d)) (bI (.cons E.aJ.1 (.inl E.t6) .nil) (by decide +kernel)) E.g.calm (gH (v_ E.bC.1)) (.inr rfl) (fun C s0 H0 f0 b' d hd=>?xr) (by rw[al8,amE];omega)) ?eq) rfl
 case xr=>
   obtain⟨r,hr,rfl⟩:=amj.mp hd
   have hrw:=h2 r hr
   refine⟨rfl,fun _=>aD (aQ (ds:=[.tup r.1,.tup ((r.2.1.filter It.told).map It.d),.int (F.getD r.2.2 0:Nat)]) (au (uQ E.cW (ic (v_ (cy (i:=0) rfl (by decide +kernel))) (ah aj) (aG (j:=0) rfl)) (dH (by decide +kernel))) (au (fq E.cW (dI (aD (c_ r.2.1 (gC E.y9) (dH (by decide +kernel)) (ai (dN (ah (v_ (cy (i:=0) rfl (by decide +kernel)))) (ah aj) (aG (j:=1) rfl)) aF) hrw.e (aS (cG _))) (t2:=.lst (((r.2.1.filter It.told).map It.d).map T.sh)) rfl)) (cG _) (dH (by decide +kernel))) (au (dO (v_ (cJ (i:=1) rfl (by decide +kernel))) (dN (ah (v_ (cy (i:=0) rfl (by decide +kernel)))) (ah aj) (aG (j:=2) rfl)) (lC (by rw[h3];exact hrw.a))) aW))) (aq rfl)) ?_⟩
   show T.sh _=T.sh (mgO F (qE r))
   rw[RL]
   rfl
 case eq=>
   rw[gk]
   unfold L4
   simp only[amy]
   refine congrArg T.lst (amL fun r _=>?_)
   show T.sh (mgO F (qE r))=_
   rw[RL]
   rfl
theorem kM:lQ (ak jd) ([("rows",av),("found",.cell)])=true:=by decide +kernel
theorem zg:aP ["rows","found"] ["rows","found"] (ak jd):=bw
abbrev uf:Stmt:=top 11
abbrev ug:Type:=List L3.D×List L3.D×List It×List Str×(List (bS×List R7))
def nK:ug->List L3.D:=fun(bs,pr,bg,hs,R)=>[f6 bs (hs.map .str) (bg.map It.d) pr (fj R)]
def nL:ug->Prop:=fun(bs,pr,bg,hs,R)=>oj R hs pr.length/\hs.Nodup/\D.aY bs=true/\D.aY pr=true/\bg.length<=1000
def nM:ug->T:=fun(bs,pr,bg,hs,R)=>(.ins "Table" (qC bs (hs.map .str) ((bg.filter It.told).map It.d) (GA pr (gu R hs pr.length)) (fj (kP R hs (gu R hs pr.length) (cn (gu R hs pr.length)*hs.length)))):T)
structure RM(X:Cx)(CL:Str->Addr):Prop extends cY X where
 aL:Ln X 0 "table"
 iD:X.env.kindOf "table" = some .cell
 aJ:Ln X 1 "found"
 t6:X.env.kindOf "found" = some .cell
 cO:Ln X 2 "number"
 zj:Ln X 3 "chosen"
 bC:Ln X 4 "rows"
 J2:Ln X 5 "place"
 fF:Ln X 6 "sign"
 m8:Ln X 7 "flats"
 mE:Gl X "classes"
 bL:Gl X "range"
 b9:Gl X "len"
 EX:Gl X "enumerate"
 lF:Gl X "merged_rows"
 C3:Gl X "Table"
 G9:Gl X "told"
 vm:Fc X CL "classes" 4 1 jw jx jy
 bM:X.mg "range" = none
 bV:X.mg "len" = none
 EY:X.mg "enumerate" = none
 Ab:Fc X CL "merged_rows" 2 2 gU gV gW
 C4:Fm X CL "Table" 1 6 kH kI kJ
 y9:Fc X CL "told" 1 1 mz mC mD
 aN:x6 X.K (CL "Table")
 aV:bz X.K (CL "Table") "signs"
 fc:bz X.K (CL "Table") "boxes"
 bQ:bz X.K (CL "Table") "flats"
 fh:bz X.K (CL "Table") "begin"
 bN:bz X.K (CL "Table") "rows"
theorem RN{b:Bx}(E:RM X CL){cC:ug}(h:nL cC) :
   aE X CL b uf ["table","found","number","chosen","rows","place","sign","flats"] (nK cC) (nM cC):=by
 obtain⟨bs,pr,bg,hs,R⟩:=cC
 dsimp only [aE,nL,nK,nM]at h ⊢
 obtain⟨ht,nd,ib,ip,gl⟩:=h
 have yd:=ht
 obtain⟨F,hF⟩:∃F,F=gu R hs pr.length:=⟨_,rfl⟩
 obtain⟨n,hn⟩:∃n,n=pr.length:=⟨_,rfl⟩
 have hl:F.length=n:=by rw[hF,hn];exact mV _
 have hN:cE F=F:=by rw[hF];exact pU _
 rw[← hn]at ht
 have hf:=ht.f
 have FE:cn F<=n:=by
   have:=A1 (n:=n) F (by omega)
   rw[hN]at this
   exact this
 have hH:=ht.e
 have tl:=ht.least nd hN hl
 show dZ X CL b _ [some (.sh (f6 bs (hs.map .str) (bg.map It.d) pr (fj R))),none,none,none,none,none,none,none] {nx:=_,rt:=fun zV _=>zV=T.ins "Table" (qC bs (hs.map .str) ((bg.filter It.told).map It.d) (GA pr (gu R hs pr.length)) (fj (kP R hs (gu R hs pr.length) (cn (gu R hs pr.length)*hs.length)))),bk:=_,ct:=_}
 rw[← hF]
 refine aR E.g E.aJ (aD (c_ (bs,bg.map It.d,pr,hs,R) E.vm E.mE (ai (aK E.aL) aF) yd (aS (mX _))) (t2:=.lst (((dF F).map .int).map T.sh)) (by rw[hF];rfl)) ?_
 have hll:((dF F).map L3.D.int).length=n:=by rw[al8,gO,hl]
 have ef:(((ck 0 (n:Int).toNat).filter fun d=>decide (((F.idxOf (F.getD d.uJ.toNat 0):Nat):Int)=d.uJ)).map fun d=>T.sh (.int d.uJ))=((dF ((List.range (cn F)).map fun c=>F.idxOf c)).map L3.D.int).map T.sh:=by
   rw[← Gz hN,hl]
   unfold dF ck
   rw[amS,an6,amy,amy,amy]
   have e1:((fun d:L3.D=>decide (((F.idxOf (F.getD d.uJ.toNat 0):Nat):Int)=d.uJ))∘fun(k:Nat)=>L3.D.int (0+(k:Int)))=fun(k:Nat)=>decide (F.idxOf (F.getD k 0)=k):=by
     funext k
     show decide (((F.idxOf (F.getD (0+(k:Int)).toNat 0):Nat):Int)=0+(k:Int))=_
     rw[am0,amS]
     rw[decide_eq_decide]
     omega
   rw[e1]
   exact amL fun k _=>by show T.sh (.int (0+(k:Int)))=_;rw[am0];rfl
 refine oQ (δc:=[some (.sh (.lst ((dF F).map .int)))]) (p:=fun d=>decide (((F.idxOf (F.getD d.uJ.toNat 0):Nat):Int)=d.uJ)) (gg:=fun d=>T.sh (.int d.uJ)) E.g E.zj (bI (.cons E.aJ.1 (.inl E.t6) .nil) (by decide +kernel)) (cu E.bM (ah (cA hll E.bV (vL E.aJ.1) E.b9)) (by omega) E.bL) (.inl ⟨?cap,fun _ _=>rfl⟩) (fun C s0 H0 f0 b' d hd=>?xr) (by simp[ck,amE];omega) ?rest (by exact amh rfl) (jl ⟨_,rfl⟩)
 case cap=>
   show _=[some (T.sh (T.bP (.lst (((dF F).map L3.D.int).map T.sh))))]
   rw[gD]
 case xr=>
   obtain⟨a,ha,rfl⟩:=iz hd
   have ha:a<n:=by omega
   have hm:F.getD a 0∈F:=jB (by omega)
   obtain⟨j1,j2⟩:=QZ hm
   exact⟨(f9 (ah (O4 (j:=F.idxOf (F.getD a 0)) (ah (v_ (cJ (i:=1) rfl (by decide +kernel)))) (ah (dO (v_ (cJ (i:=1) rfl (by decide +kernel))) (ah (v_ (cy (i:=0) rfl (by decide +kernel)))) (lC (ks:=F) (f:=a) (by omega)))) j1 j2)) (ah (v_ (cy (i:=0) rfl (by decide +kernel))))).1,fun _=>aD (v_ (cy (i:=0) rfl (by decide +kernel))) rfl⟩
 case rest=>
 rw[ef]
 refine aR E.g E.bC (aD oR (t2:=.dct (bZ (fj (kP R hs F 0)))) rfl) ?_
 obtain⟨ch,Ie⟩:∃ch,ch=(List.range (cn F)).map fun c=>F.idxOf c:=⟨_,rfl⟩
 have W7:ch.length=cn F:=by rw[Ie,al8,amv]
 have iO:∀c,c<cn F->ch.getD c 0=F.idxOf c:=fun c hc=>by rw[Ie,amb,amg,amZ hc];rfl
 rw[← Ie]
 have hci:(dF ch).map L3.D.int=ch.map fun(c:Nat)=>L3.D.int (c:Int):=by unfold dF;rw[amy];rfl
 refine FY E.g (BI E.g.nd E.g.calm E.J2 E.cO) (fun j δ=>∃(o2 o5 o6:Option T),δ=[some (.sh (f6 bs (hs.map .str) (bg.map It.d) pr (fj R))),some (.lst (((dF F).map .int).map T.sh)),o2,some (.sh (.lst ((dF ch).map .int))),some (.dct (bZ (fj (kP R hs F (j*hs.length))))),o5,o6,none]) (OS (f:=fun(c:Nat)=>L3.D.int (c:Int)) (l:=ch) 0 E.EY (aD (vFL (ds:=(dF ch).map .int) E.zj.1 rfl) (t2:=.sh (.lst (ch.map fun(c:Nat)=>L3.D.int (c:Int)))) (by rw[hci])) E.EX) ⟨_,_,_,by rw[Nat.zero_mul];rfl⟩ (fun j δ ⟨_,_,_,e⟩=>by subst e;intro i hi;simp only[ami,amw,ani]at hi;rcases hi with rfl|rfl<;>exact amh rfl) ?turn ?fin
 case turn=>
   rintro j d δ hj ⟨o2,o5,o6,rfl⟩
   rw[amg]at hj
   obtain⟨q,hq,rfl⟩:=amG.mp hj
   have hql:q<ch.length:=amH.mp (amt hq)
   have hqj:q=j:=by
     have:=(amf.mp hq)
     obtain⟨h1,h2⟩:=this
     rw[aov]at h2
     exact h2.symm
   subst hqj
   rw[W7]at hql
   refine⟨[.int (q:Nat),.int (F.idxOf q:Nat)],by rw[iO q hql];rfl,?_⟩
   obtain⟨f1,f2⟩:=uY hN hql
   show dZ X CL b _ [some (.sh (f6 bs (hs.map .str) (bg.map It.d) pr (fj R))),some (.lst (((dF F).map .int).map T.sh)),some (.sh (.int (F.idxOf q:Nat))),some (.sh (.lst ((dF ch).map .int))),some (.dct (bZ (fj (kP R hs F (q*hs.length))))),some (.sh (.int (q:Nat))),o6,none] _
   refine ig E.g E.fF (fun t δ=>∃(o6:Option T),δ=[some (.sh (f6 bs (hs.map .str) (bg.map It.d) pr (fj R))),some (.lst (((dF F).map .int).map T.sh)),some (.sh (.int (F.idxOf q:Nat))),some (.sh (.lst ((dF ch).map .int))),some (.dct (bZ (fj (kP R hs F (q*hs.length+t))))),some (.sh (.int (q:Nat))),o6,none]) (gH (gn E.aN E.aV (v_ E.aL.1) eO)) ⟨_,rfl⟩ (fun j δ ⟨_,e⟩=>by subst e;exact amh rfl) ?mj ?fin2
   case fin2=>
     rintro δ ⟨o6,rfl⟩
     rw[al8,show q*hs.length+hs.length=(q+1)*hs.length by rw[aoK,aoL]]
     exact aC ⟨_,_,_,rfl⟩
   case mj=>
   rintro t d δ Mf ⟨o6,rfl⟩
   rw[amg]at Mf
   obtain⟨x,hx,rfl⟩:=amG.mp Mf
   have Rz:=amt hx
   have Wn:t<hs.length:=(amf.mp hx).1
   have ex:hs.getD t Str.empty=x:=by rw[amb,hx];rfl
   obtain⟨q1,q2,q3⟩:=ht.row (i:=F.idxOf q) (by omega) Rz
   have yu:=Wq R F nd (j:=q) Wn
   rw[ex]at yu
   refine wZ (kvs:=bZ (fj (kP R hs F (q*hs.length+t)))) (j6 q x) E.u E.bC.1 (aD (c_ (cV R (F.idxOf q) x,F,n) E.Ab E.lF (ai (ah (gJ (j6 (F.idxOf q) x) E.u (gn E.aN E.bN (v_ E.aL.1) gX) (aD (gb (aU (v_ E.cO.1) (aU (v_ E.fF.1) cS)) (aq rfl)) (t2:=fu (j6 (F.idxOf q) x)) rfl) (kW q1))) (ai (vL E.aJ.1) aF)) ⟨q2,q3,hl⟩ (aS (abn q3))) (t2:=.lst (((L4 F (cV R (F.idxOf q) x)).map qE).map T.sh)) rfl) (aD (gb (aU (v_ E.J2.1) (aU (v_ E.fF.1) cS)) (aq rfl)) (t2:=fu (j6 q x)) rfl) rfl (by rw[mQ,tE];exact yu) ?z (aC ⟨some (.sh (.str x)),?e⟩)
   case z=>
     unfold bZ fj kP
     rw[al8,al8,al8,amv]
     have:q*hs.length<=100*3:=aoj (by omega) hH
     omega
   case e=>
     show _=[_,_,_,_,some (T.dct (bZ (fj (kP R hs F (q*hs.length+t+1))))),_,_,_]
     rw[QT R hs F Wn,ex]
     unfold fj bZ
     rw[ams,ams]
     rfl
 case fin=>
   rintro δ ⟨o2,o5,o6,rfl⟩
   rw[al8,amv,W7]
   refine oQ (p:=fun _=>true) (gg:=fun d=>T.sh (pr.getD d.uJ.toNat .non)) E.g E.m8 (bI (.cons E.aL.1 (.inl E.iD) .nil) (by decide +kernel)) (gH (v_ E.zj.1)) (.inr rfl) (fun C s0 H0 f0 b' d hd=>?abP) (by rw[al8,gO,W7,amE];omega) ?Ru (by exact amh rfl) (jl ⟨_,rfl⟩)
   case abP=>
     rw[hci]at hd
     obtain⟨c,hc,rfl⟩:=amj.mp hd
     have hcn:c<pr.length:=by
       rw[Ie]at hc
       obtain⟨k,hk,rfl⟩:=amj.mp hc
       have:=(uY hN (amH.mp hk)).1
       omega
     refine⟨rfl,fun _=>dO (gn E.aN E.bQ (v_ (cJ (i:=1) rfl (by decide +kernel))) gq) (ah (v_ (cy (i:=0) rfl (by decide +kernel)))) ?_⟩
     refine aG (j:=c) ?_
     rw[al9 hcn]
     show some pr[c]=some (pr.getD (c:Int).toNat .non)
     rw[amS,amb,al9 hcn]
     rfl
   case Ru=>
   have ep:(((dF ch).map L3.D.int).filter fun _=>true).map (fun d=>T.sh (pr.getD d.uJ.toNat .non))=(GA pr F).map T.sh:=by
     rw[gk,hci,Ie]
     unfold GA
     simp only[amy]
     refine amL fun c _=>?_
     show T.sh (pr.getD ((F.idxOf c:Nat):Int).toNat .non)=T.sh (pr.getD (F.idxOf c) .non)
     rw[amS]
   rw[ep]
   exact bT (aD (mk_ (bs,hs.map .str,(bg.filter It.told).map It.d,GA pr F,fj (kP R hs F (cn F*hs.length)),true) E.C4 E.C3
     (ai (jA E.aN E.fc (aK E.aL) oV) (ai (jA E.aN E.aV (aK E.aL) eO) (ai (dI (aD (c_ bg E.y9 E.G9 (ai (jA E.aN E.fh (aK E.aL) oW) aF) gl (aS (cG _))) (t2:=.lst (((bg.filter It.told).map It.d).map T.sh)) rfl)) (ai (vL E.m8.1) (ai (vE E.bC.1 rfl (by rw[T.bP,pQ])) aF)))))
     ⟨cG _,ib,dg _,Cm ip F,kF tl,by rw[tE];exact tl.c,by unfold fj;rw[al8];exact tl.d⟩ (mP ib (dg _) (cG _) (Cm ip F) (kF tl))) (t2:=.ins "Table" (qC bs (hs.map .str) ((bg.filter It.told).map It.d) (GA pr F) (fj (kP R hs F (cn F*hs.length))))) rfl) rfl
theorem cF:lQ (ak uf) ([("table",.cell),("found",.cell),("number",av),("chosen",av),("rows",av),("place",av),("sign",av),("flats",av),("classes",aB),("range",aB),("len",aB),("enumerate",aB),("merged_rows",aB),("Table",aB),("told",aB)])=true:=by decide +kernel
theorem Mw:aP ["table","found","number","chosen","rows","place","sign","flats"] ["table"] (ak uf):=bw
abbrev uh:Stmt:=top 38
abbrev um:Type:=(List (Str×Int))×List Str×List It×List L3.D×(List (bS×List R7))
def nO:um->List L3.D:=fun(bs,hs,bg,pr,R)=>[f6 (bs.map dR) (hs.map .str) (bg.map It.d) pr (fj R),T4 bs hs bg pr R]
def nP:um->Prop:=fun(bs,hs,bg,pr,R)=>Gw bs hs bg pr R
def nQ:um->T:=fun(bs,hs,bg,pr,R)=>(.sh (.bl true):T)
structure RP(X:Cx)(CL:Str->Addr):Prop extends cY X where
 aL:Ln X 0 "table"
 bY:Ln X 1 "parts"
 aN:x6 X.K (CL "Table")
 fc:bz X.K (CL "Table") "boxes"
 aV:bz X.K (CL "Table") "signs"
 fh:bz X.K (CL "Table") "begin"
 bQ:bz X.K (CL "Table") "flats"
 bN:bz X.K (CL "Table") "rows"
theorem RQ{b:Bx}(E:RP X CL){cC:um}(h:nP cC) :
   aE X CL b uh ["table","parts"] (nO cC) (nQ cC):=by
 obtain⟨bs,hs,bg,pr,R⟩:=cC
 dsimp only [aE,nP,nO,nQ]at h ⊢
 have h:Gw bs hs bg pr R:=h
 show dZ X CL b _ [some (.sh (f6 (bs.map dR) (hs.map .str) (bg.map It.d) pr (fj R))),some (.sh (.lst [.lst (bs.map dR),.lst (hs.map .str),.tup (bg.map It.d),.lst pr,.dct (dX (fj R))]))] _
 refine iM (uF (sM (yi E.u (jA E.aN E.fc (aK E.aL) oV) (c5 (aK E.bY) (ah aj) (aG (j:=0) rfl)) h.d0 h.d0).1 (fun _=>sM (yi E.u (jA E.aN E.aV (aK E.aL) eO) (c5 (aK E.bY) (ah aj) (aG (j:=1) rfl)) h.d1 h.d1).1 (fun _=>qY (yi E.u (jA E.aN E.fh (aK E.aL) oW) (c5 (aK E.bY) (ah aj) (aG (j:=2) rfl)) h.d2 h.d2).1)))) (fun hp=>absurd hp (aeV h.d0 h.d1 h.d2)) (fun _=>aC ?_)
 exact bT (aD (Oa (Oo E.u (jA E.aN E.bQ (aK E.aL) gq) (c5 (aK E.bY) (ah aj) (aG (j:=3) rfl)) h.d3 h.d3).2 (fun _=>N9 (Vl E.u (jA E.aN E.bN (aK E.aL) gX) (c5 (aK E.bY) (ah aj) (aG (j:=4) rfl)) h.d4).2)) (t2:=.sh (.bl true)) (by rw[lR h.d3];rfl)) rfl
theorem Bc:lQ (ak uh) ([("table",av),("parts",av)])=true:=by decide +kernel
theorem Mx:aP ["table","parts"] ["table","parts"] (ak uh):=bw
abbrev J3:Stmt:=top 42
abbrev RT:Type:=List Int
def qv:RT->List L3.D:=fun a=>[.lst (a.map .int)]
def qw:RT->Prop:=fun a=>a.length<=63
def qx:RT->T:=fun a=>(.sh (.bl true):T)
structure afi(X:Cx)(CL:Str->Addr):Prop extends cY X where
 aZ:Ln X 0 "script"
 bY:Ln X 1 "parts"
 aL:Ln X 2 "table"
 aJ:Ln X 3 "found"
 iG:Ln X 4 "one"
 e7:Ln X 5 "other"
 vX:Ln X 6 "way"
 jZ:Ln X 7 "least"
 xU:Ln X 8 "small"
 Dh:Gl X "_law_parts"
 Di:Gl X "_law_table"
 mE:Gl X "classes"
 bL:Gl X "range"
 b9:Gl X "len"
 mF:Gl X "parted"
 k9:Gl X "_law_parts_them"
 zk:Gl X "merged"
 JY:Gl X "set"
 Ac:Gl X "_law_stayed"
 Xb:Fc X CL "_law_parts" 6 3 qa qb qc
 Xc:Fc X CL "_law_table" 3 1 qe qf qg
 vm:Fc X CL "classes" 4 1 jw jx jy
 bM:X.mg "range" = none
 bV:X.mg "len" = none
 jz:Fc X CL "parted" 4 3 nE kL nF
 uo:Fc X CL "_law_parts_them" 3 4 iH iI iJ
 RV:Fc X CL "merged" 5 1 nK nL nM
 JZ:X.mg "set" = none
 RW:Fc X CL "_law_stayed" 1 2 nO nP nQ
 aN:x6 X.K (CL "Table")
 fc:bz X.K (CL "Table") "boxes"
 aV:bz X.K (CL "Table") "signs"
 fh:bz X.K (CL "Table") "begin"
 bQ:bz X.K (CL "Table") "flats"
 bN:bz X.K (CL "Table") "rows"
theorem afj{b:Bx}(E:afi X CL){a}(h:qw a) :
   aE X CL b J3 ["script","parts","table","found","one","other","way","least","small"] (qv a) (qx a):=by
 dsimp only [aE,qw,qv,qx]at h ⊢
 have hs:a.length<=1000:=by omega
 have Ng:=abm a (q:=6) (by decide) false
 have hn:=JG a 6
 have TF:1<=n7 a 6/\n7 a 6<=6:=by unfold n7;omega
 have nd:=Gs a
 have gl:(V0 a).length<=1000:=by show 3<=1000;decide
 refine aR E.g E.bY (kT (d:=T4 (xo a) (jF a) (V0 a) (VZ a 6) (M7 a 6 false)) (aD (c_ (a,6,false) E.Xb E.Dh (ai (aK E.aZ) (ai (ah aj) (ai (ah Yb) aF))) ⟨hs,by decide⟩ (LZ Ng)) (t2:=pt7 (xo a) (jF a) (V0 a) (VZ a 6) (M7 a 6 false)) rfl) (V1 ..)) ?_
 generalize M7 a 6 false=R at Ng ⊢
 generalize xo a=bs at Ng ⊢
 generalize V0 a=bg at Ng gl ⊢
 generalize jF a=i7 at Ng nd ⊢
 generalize VZ a 6=pr at Ng hn ⊢
 generalize n7 a 6=n at hn TF
 have tb:=Ng.t
 have ib:D.aY (bs.map dR)=true:=jm (fun _=>rfl) _
 refine aR E.g E.aL (kT (d:=f6 (bs.map dR) (i7.map .str) (bg.map It.d) pr (fj R)) (aD (c_ (bs,i7,bg,pr,R) E.Xc E.Di (ai (aK E.bY) aF) ⟨Ng.i,tb.c,tb.d,fun q hq r hr=>((tb.b q hq).2 r hr).b⟩ (L1 Ng)) (t2:=.ins "Table" (qC (bs.map dR) (i7.map .str) (bg.map It.d) pr (fj R))) rfl) (Ex ..)) ?_
 obtain⟨F,hF⟩:∃F,F=gu R i7 pr.length:=⟨_,rfl⟩
 have hl:F.length=pr.length:=by rw[hF];exact mV _
 have hN:cE F=F:=by rw[hF];exact pU _
 refine aR E.g E.aJ (IV (ds:=(dF F).map .int) (aD (c_ (bs.map dR,bg.map It.d,pr,i7,R) E.vm E.mE (ai (aK E.aL) aF) tb (aS (mX _))) (t2:=.lst (((dF F).map .int).map T.sh)) (by rw[hF];rfl))) ?_
 have hll:((dF F).map L3.D.int).length=pr.length:=by rw[al8,gO,hl]
 have imT:∀{k s:Nat} {R2:List (bS×List R7)},oj R2 i7 k->(Wv R2 i7 k s).clean=true:=fun {k s R2} h2=>by
   unfold Wv
   split
   . rfl
   . rename_i j hj
     have hj:j<(aH (jG R2 i7 k s) (k*k)).length:=amH.mp (an2 hj)
     rw[T.clean,T.cR,T.cR,T.cR,aS (yK (i9 (k*k)) (yJ (aoM h2.f.1 h2.f.1) (fun p _=>xu h2 p) (k*k)) j hj)]
     rfl
 have pdE:T4 bs i7 bg pr R=.lst [.lst (bs.map dR),.lst (i7.map .str),.tup (bg.map It.d),.lst pr,.dct (dX (fj R))]:=rfl
 refine ig E.g E.iG (fun j δ=>∃(o4 o5 o6:Option T),δ=[some (.sh (.lst (a.map .int))),some (.sh (T4 bs i7 bg pr R)),some (.sh (f6 (bs.map dR) (i7.map .str) (bg.map It.d) pr (fj R))),some (.sh (.lst ((dF F).map .int))),o4,o5,o6,none,none]) (cu E.bM (ah (cA hll E.bV (aK E.aJ) E.b9)) (by omega) E.bL) ⟨_,_,_,rfl⟩ (fun j δ ⟨_,_,_,e⟩=>by subst e;exact amh rfl) ?turn ?fin
 case turn=>
   rintro u d δ hj ⟨o4,o5,o6,rfl⟩
   obtain⟨rfl,Fg⟩:=fM hj
   rw[am0]
   have hu:u<pr.length:=by omega
   refine ig E.g E.e7 (fun j δ=>∃(o5 o6:Option T),δ=[some (.sh (.lst (a.map .int))),some (.sh (T4 bs i7 bg pr R)),some (.sh (f6 (bs.map dR) (i7.map .str) (bg.map It.d) pr (fj R))),some (.sh (.lst ((dF F).map .int))),some (.sh (.int (u:Nat))),o5,o6,none,none]) (cu E.bM (aK E.iG) (by omega) E.bL) ⟨_,_,rfl⟩ (fun j δ ⟨_,_,e⟩=>by subst e;exact amh rfl) ?mj ?fin2
   case fin2=>
     rintro δ ⟨o5,o6,rfl⟩
     exact aC ⟨_,_,_,rfl⟩
   case mj=>
   rintro v d δ Mf ⟨o5,o6,rfl⟩
   obtain⟨rfl,hvl⟩:=fM Mf
   rw[am0]
   have hv:v<pr.length:=by omega
   have hau:=lC (ks:=F) (f:=u) (by omega)
   have hav:=lC (ks:=F) (f:=v) (by omega)
   have yd:kL (bs.map dR,bg.map It.d,pr,i7,R,u,v):=⟨tb,nd,hu,hv,by omega⟩
   by_cases W7:F.getD u 0=F.getD v 0
   . have sy:=Mb tb hu hv (by rw[← hF];exact W7)
     refine aR E.g E.vX (aD (c_ (bs.map dR,bg.map It.d,pr,i7,R,u,v) E.jz E.mF (ai (aK E.aL) (ai (aK E.iG) (ai (aK E.e7) aF))) yd (imT tb)) (t2:=.sh .non) (by show Wv R i7 pr.length (u*pr.length+v)=_;unfold Wv;rw[sy])) ?_
     refine iM (uF (uG (f9 (ah (dO (v_ E.aJ.1) (aK E.iG) hau)) (ah (dO (v_ E.aJ.1) (aK E.e7) hav))).1 (fun _=>wW (Em (aK E.vX))))) (fun hp=>by rw[Bool.and_false]at hp;cases hp) (fun _=>aC ?_)
     refine iM (uF (uG (q:=false) (yf (ah (dO (v_ E.aJ.1) (aK E.iG) hau)) (ah (dO (v_ E.aJ.1) (aK E.e7) hav))).1 (fun hp=>by rw[W7,am6 rfl]at hp;cases hp))) (fun hp=>by rw[Bool.and_false]at hp;cases hp) (fun _=>aC (aC ⟨_,_,rfl⟩))
   . obtain⟨qK,y,p,c,e1,hp,hc,hw,hy,yr,hpl⟩:=A7 tb (by omega) hu hv (by rw[← hF];exact W7)
     refine aR E.g E.vX (aD (c_ (bs.map dR,bg.map It.d,pr,i7,R,u,v) E.jz E.mF (ai (aK E.aL) (ai (aK E.iG) (ai (aK E.e7) aF))) yd (imT tb)) (t2:=.tup [.lst ((qK.map yQ).map T.sh),.sh (.str y)]) e1) ?_
     have hd:¬ ((F.getD u 0:Nat):Int)=(F.getD v 0:Nat):=by omega
     refine iM (uF (uG (q:=false) (f9 (ah (dO (v_ E.aJ.1) (aK E.iG) hau)) (ah (dO (v_ E.aJ.1) (aK E.e7) hav))).1 (fun hp=>by rw[amN hd]at hp;cases hp))) (fun hp=>by rw[Bool.and_false]at hp;cases hp) (fun _=>aC ?_)
     refine iM (uF (uG (yf (ah (dO (v_ E.aJ.1) (aK E.iG) hau)) (ah (dO (v_ E.aJ.1) (aK E.e7) hav))).1 (fun _=>wW (oH (nW (aD (c_ (bs.map dR,i7,bg.map It.d,pr,R,u,v,qK,y,p,c,pr.length) E.uo E.k9 (ai (aK E.bY) (ai (aK E.iG) (ai (aK E.e7) (ai (vE E.vX.1 rfl (by rw[T.bP,T.dM,T.dM,T.dM,gD,T.bP])) aF)))) ⟨tb,hu,hv,hp,hc,hw,hy,yr,hpl⟩ rfl) (t2:=.sh (.bl true)) rfl)))))) (fun hp=>by simp at hp) (fun _=>aC (aC ⟨_,_,rfl⟩))
 case fin=>
 rintro δ ⟨o4,o5,o6,rfl⟩
 have tl:=tb.least nd hN hl
 have lpl:(GA pr F).length=cn F:=by unfold GA;rw[al8,amv]
 have tl2:oj (kP R i7 F (cn F*i7.length)) i7 (GA pr F).length:=by rw[lpl];exact tl
 have lim:=Cm Ng.i F
 have FE:cn F<=pr.length:=by
   have:=A1 (n:=pr.length) F (by omega)
   rw[hN]at this
   exact this
 have lcl:(T.ins "Table" (qC (bs.map dR) (i7.map .str) ((bg.filter It.told).map It.d) (GA pr F) (fj (kP R i7 F (cn F*i7.length))))).clean=true:=by
   rw[T.clean]
   exact mP ib (dg _) (cG _) lim (kF tl)
 have ab2:gu (kP R i7 F (cn F*i7.length)) i7 (GA pr F).length=List.range (cn F):=by rw[lpl];exact L6 tb nd hF
 refine aR E.g E.jZ (kT (d:=f6 (bs.map dR) (i7.map .str) ((bg.filter It.told).map It.d) (GA pr F) (fj (kP R i7 F (cn F*i7.length)))) (aD (c_ (bs.map dR,pr,bg,i7,R) E.RV E.zk (ai (aK E.aL) aF) ⟨tb,nd,ib,Ng.i,gl⟩ (by rw[hF]at lcl;exact lcl)) (t2:=.ins "Table" (qC (bs.map dR) (i7.map .str) ((bg.filter It.told).map It.d) (GA pr F) (fj (kP R i7 F (cn F*i7.length))))) (by rw[hF];rfl)) (Ex ..)) ?_
 generalize kP R i7 F (cn F*i7.length)=L at tl2 ab2 ⊢
 generalize (bg.filter It.told).map It.d=lg
 generalize hP:GA pr F=P at lpl tl2 ab2 ⊢
 refine aR E.g E.xU (jI (ds:=[.lst (bs.map dR),.lst (i7.map .str),.tup lg,.lst P,.dct (dX (fj L))]) (au (gn E.aN E.fc (v_ E.jZ.1) oV) (au (gn E.aN E.aV (v_ E.jZ.1) eO) (au (gn E.aN E.fh (v_ E.jZ.1) oW) (au (gn E.aN E.bQ (v_ E.jZ.1) gq) (au (gn E.aN E.bN (v_ E.jZ.1) gX) aW))))) (aq rfl)) ?_
 refine iM (yf (ah (cA lpl E.bV (jA E.aN E.bQ (aK E.jZ) gq) E.b9)) (ah (aD (rz E.g E.bV E.JZ (aK E.aJ) (by rw[gO,hl];omega) E.b9 E.JY) (t2:=.sh (.int (cn F:Nat))) (by rw[Gu])))).1 (fun hp=>by rw[am6 rfl]at hp;cases hp) (fun _=>aC ?_)
 refine ig E.g E.iG (fun j δ=>∃(o4 o5:Option T),δ=[some (.sh (.lst (a.map .int))),some (.sh (T4 bs i7 bg pr R)),some (.sh (f6 (bs.map dR) (i7.map .str) (bg.map It.d) pr (fj R))),some (.sh (.lst ((dF F).map .int))),o4,o5,o6,some (.sh (f6 (bs.map dR) (i7.map .str) lg P (fj L))),some (.lst ([L3.D.lst (bs.map dR),.lst (i7.map .str),.tup lg,.lst P,.dct (dX (fj L))].map T.sh))]) (cu E.bM (ah (cA lpl E.bV (jA E.aN E.bQ (aK E.jZ) gq) E.b9)) (by omega) E.bL) ⟨_,_,rfl⟩ (fun j δ ⟨_,_,e⟩=>by subst e;exact amh rfl) ?Rt ?abO
 case abO=>
   rintro δ ⟨o4,o5,rfl⟩
   exact bT (aD (c_ (bs,i7,bg,pr,R) E.RW E.Ac (ai (aK E.aL) (ai (aK E.bY) aF)) Ng rfl) (t2:=.sh (.bl true)) rfl) rfl
 case Rt=>
 rintro u d δ hj ⟨o4,o5,rfl⟩
 obtain⟨rfl,Fg⟩:=fM hj
 rw[am0]
 have hu:u<P.length:=by omega
 refine ig E.g E.e7 (fun j δ=>∃(o5:Option T),δ=[some (.sh (.lst (a.map .int))),some (.sh (T4 bs i7 bg pr R)),some (.sh (f6 (bs.map dR) (i7.map .str) (bg.map It.d) pr (fj R))),some (.sh (.lst ((dF F).map .int))),some (.sh (.int (u:Nat))),o5,o6,some (.sh (f6 (bs.map dR) (i7.map .str) lg P (fj L))),some (.lst ([L3.D.lst (bs.map dR),.lst (i7.map .str),.tup lg,.lst P,.dct (dX (fj L))].map T.sh))]) (cu E.bM (aK E.iG) (by omega) E.bL) ⟨_,rfl⟩ (fun j δ ⟨_,e⟩=>by subst e;exact amh rfl) ?afl ?aik
 case aik=>
   rintro δ ⟨o5,rfl⟩
   exact aC ⟨_,_,rfl⟩
 case afl=>
 rintro v d δ Mf ⟨o5,rfl⟩
 obtain⟨rfl,hvl⟩:=fM Mf
 rw[am0]
 have hvu:v<u:=by omega
 have hv:v<P.length:=by omega
 obtain⟨qK,y,p,c,e1,hp,hc,hw,hy,yr,hpl⟩:=A7 tl2 (by omega) hv hu (by
   rw[ab2]
   rw[amb,amb,amZ (by omega),amZ (by omega)]
   show ¬ v=u
   omega)
 exact iM (oH (nW (aD (c_ (bs.map dR,i7,lg,P,L,v,u,qK,y,p,c,P.length) E.uo E.k9 (ai (vL E.xU.1) (ai (aK E.e7) (ai (aK E.iG) (ai (ah (kT (d:=.tup [.lst (qK.map yQ),.str y]) (aD (c_ (bs.map dR,lg,P,i7,L,v,u) E.jz E.mF (ai (aK E.jZ) (ai (aK E.e7) (ai (aK E.iG) aF))) ⟨tl2,nd,hv,hu,by omega⟩ (imT tl2)) (t2:=.tup [.lst ((qK.map yQ).map T.sh),.sh (.str y)]) e1) (by rw[T.bP,T.dM,T.dM,T.dM,gD,T.bP]))) aF)))) ⟨tl2,hv,hu,hp,hc,hw,hy,yr,hpl⟩ rfl) (t2:=.sh (.bl true)) rfl))) (fun hp=>by cases hp) (fun _=>aC (aC ⟨_,rfl⟩))
theorem fK:lQ (ak J3) ([("script",av),("parts",av),("table",av),("found",av),("one",av),("other",av),("way",av),("least",av),("small",av),("_law_parts",aB),("_law_table",aB),("classes",aB),("range",aB),("len",aB),("parted",aB),("_law_parts_them",aB),("merged",aB),("set",aB),("_law_stayed",aB)])=true:=by decide +kernel
theorem RX:aP ["script","parts","table","found","one","other","way","least","small"] ["script"] (ak J3):=bw
def cl(aI bE:Addr):Str->Addr:=fun c=>if c="Table" then aI else if c="#parted.<locals>.<lambda>" then bE else 0
variable{aI bE:Addr}
theorem v5:cl aI bE "#parted.<locals>.<lambda>" = bE:=by unfold cl;rw[amq (by decide +kernel)];rw[amx rfl]
theorem gM:cl aI bE "Table" = aI:=by unfold cl;rw[amx rfl]
theorem Xd(h:D0 x=true)(h0:cl aI bE x≠0):(cl aI bE x,KW x)∈([(bE,"parted.<locals>.<lambda>")]:List (Addr×Str)):=by
 unfold cl at h0 ⊢
 rw[amq (fun e=>by rw[e]at h;exact absurd h (by decide +kernel))]at h0 ⊢
 by_cases zl:x="#parted.<locals>.<lambda>"
 . rw[amx zl,zl,show KW ("#parted.<locals>.<lambda>":Str)="parted.<locals>.<lambda>" by decide +kernel];simp
 rw[amq zl]at h0 ⊢
 exact absurd rfl h0
theorem all_mk{l:PySem.W.OpenLaw}{w:World}{K:PySem.W.Frag}{h:Heap}{mg:Str->Option Value}{T0:List Addr}{fa RZ Bd J4 J5 J6 R0 R1 YN R3 J7 R4 EZ R5 J8 j3 J9 zm R6 Be R8 YQ Bf zo qN zq rO n6 zu Ka Bg E1 uq qO E2 E3 YR:Addr}(XX:K.In h)(G:h.Ns mainGlobals mg)(hfa:mg "law" = some (.ref fa))
   {ab3 My Xe Xf Xg ab4 ab5 afm ab6 Xh ab7 R9 ab8 Xi Dj Xj ni G9 u9 ab9 afn mE rM lE Hf rN jC mF Xk Mz Sb Dl lF zk Sd YS:FuncData}
   (Dm:mG K "Table" aI) (zx:PySem.W.plainGet K aI Str.empty=true) (zy:PySem.W.hasDictIn K aI=true) (zA:PySem.W.plainOver K aI=true) (zB:PySem.W.findIn K (.ref aI) "__setattr__" = some (some (.builtin "object.__setattr__"))) (ur:PySem.W.makesIn K aI=true) (uv:PySem.W.keepIn K (.ref aI)=true)
   (lG:PySem.W.findIn K (.ref aI) "boxes" = some none)
   (lH:PySem.W.findIn K (.ref aI) "signs" = some none)
   (lI:PySem.W.findIn K (.ref aI) "begin" = some none)
   (lJ:PySem.W.findIn K (.ref aI) "flats" = some none)
   (nR:PySem.W.findIn K (.ref aI) "rows" = some none)
   (Hg:mG K "_law_name" RZ) (acd:kh K "_law_name" "_law_name" Cr RZ ab3)
   (vn:mG K "_law_cell_at" Bd) (MA:kh K "_law_cell_at" "_law_cell_at" pW Bd My)
   (Dn:mG K "_law_mixed" J4) (Xl:kh K "_law_mixed" "_law_mixed" xx J4 Xe)
   (Dp:mG K "_law_signs" J5) (Xm:kh K "_law_signs" "_law_signs" xB J5 Xf)
   (Dq:mG K "_law_small" J6) (Xn:kh K "_law_small" "_law_small" xC J6 Xg)
   (Hh:mG K "_law_term" R0) (ace:kh K "_law_term" "_law_term" Cw R0 ab4)
   (Hi:mG K "_law_deed" R1) (acf:kh K "_law_deed" "_law_deed" CF R1 ab5)
   (Se:mG K "_law_ask" YN) (afo:kh K "_law_ask" "_law_ask" JR YN afm)
   (Hj:mG K "_law_face" R3) (acg:kh K "_law_face" "_law_face" CH R3 ab6)
   (Dr:mG K "_law_faces" J7) (Xo:kh K "_law_faces" "_law_faces" xG J7 Xh)
   (Hl:mG K "_law_next" R4) (ach:kh K "_law_next" "_law_next" CP R4 ab7)
   (zC:mG K "_law_marked" EZ) (Sf:kh K "_law_marked" "_law_marked" tR EZ R9)
   (Ho:mG K "_law_flat" R5) (aci:kh K "_law_flat" "_law_flat" CT R5 ab8)
   (Ds:mG K "_law_parts" J8) (Xp:kh K "_law_parts" "_law_parts" xK J8 Xi)
   (j4:PySem.W.findIn K (.ref aI) "__init__" = some (some (.ref j3))) (j5:PySem.W.isFn K (.ref j3)=true) (uw:kh K "__init__" "Table.__init__" jK j3 Dj)
   (Dt:mG K "_law_table" J9) (Xq:kh K "_law_table" "_law_table" xO J9 Xj)
   (rP:mG K "numbered" zm) (Hq:kh K "numbered" "numbered" ng zm ni)
   (Hr:mG K "told" R6) (acj:kh K "told" "told" C5 R6 G9)
   (vo:mG K "seen_at" Be) (MB:kh K "seen_at" "seen_at" qh Be u9)
   (Hs:mG K "seen" R8) (ack:kh K "seen" "seen" C7 R8 ab9)
   (Sg:mG K "led" YQ) (afp:kh K "led" "led" JW YQ afn)
   (vp:mG K "classes" Bf) (MC:kh K "classes" "classes" qj Bf mE)
   (rQ:mG K "looks_of" zo) (Ht:kh K "looks_of" "looks_of" nj zo rM)
   (lK:mG K "path_behind" qN) (Ad:kh K "path_behind" "path_behind" jb qN lE)
   (rR:mG K "steps_of" zq) (Hu:kh K "steps_of" "steps_of" nq zq Hf)
   (rS:mG K "searched" rO) (rT:kh K "searched" "searched" ny rO rN)
   (jD:mG K "parting_signs" n6) (wI:kh K "parting_signs" "parting_signs" gS n6 jC)
   (zE:mG K "parted" zu) (zF:kh K "parted" "parted" t8 zu mF)
   {jz:Addr} {MD:Option Addr} {Bh:Array Value} {MF:Array (Option Value)} (vq:mF.code=.ref jz) (Bj:K.lookup jz=some ⟨.type "code",MD,.fields Bh,MF⟩) (Bk:Bh[11]? = some (.ref bE)) (qy:PySem.W.codeHdIn K jz bE=true) (vt:bE≠0) (vz:K.lookup bE=none) (vA:bE∈T0)
   (Du:mG K "_law_whole" Ka) (Xr:kh K "_law_whole" "_law_whole" xT Ka Xk)
   (vC:mG K "_law_told" Bg) (MG:kh K "_law_told" "_law_told" qu Bg Mz)
   (zG:mG K "_law_facing" E1) (Sh:kh K "_law_facing" "_law_facing" uc E1 Sb)
   (nS:mG K "_law_parts_them" uq) (Dv:kh K "_law_parts_them" "_law_parts_them" jX uq Dl)
   (lM:mG K "merged_rows" qO) (Ae:kh K "merged_rows" "merged_rows" jd qO lF)
   (zH:mG K "merged" E2) (Si:kh K "merged" "merged" uf E2 zk)
   (zI:mG K "_law_stayed" E3) (Sj:kh K "_law_stayed" "_law_stayed" uh E3 Sd)
   (Kc:mG K "law" YR) (Sl:kh K "law" "law" J3 YR YS)
   (Dw:PySem.W.nsIn K mainGlobals "range" = some none)
   (Sn:PySem.W.nsIn K mainGlobals "len" = some none)
   (Sq:PySem.W.nsIn K mainGlobals "max" = some none)
   (Dy:PySem.W.nsIn K mainGlobals "tuple" = some none)
   (Hv:PySem.W.nsIn K mainGlobals "list" = some none)
   (Ss:PySem.W.nsIn K mainGlobals "min" = some none)
   (Sv:PySem.W.nsIn K mainGlobals "str" = some none)
   {Kd:Addr} {Sw:Option Addr} {C6:Nat} {Sx:Array (Option Value)} {Hw Hx Hy Hz:Tok} (Dz:PySem.W.nsIn K mainGlobals "MARKS" = some (some (.ref Kd))) (zJ:K.lookup Kd=some ⟨.type "tuple",Sw,.seq #[.str "out" Hw,.str "keep" Hx,.str "way" Hy,.str "in" Hz] C6,Sx⟩)
   (Sy:PySem.W.nsIn K mainGlobals "set" = some none)
   (rV:PySem.W.nsIn K mainGlobals "reversed" = some none)
   (nT:PySem.W.nsIn K mainGlobals "isinstance" = some none)
   (Sz:PySem.W.nsIn K mainGlobals "int" = some none)
   (y_bool:PySem.W.nsIn K mainGlobals "bool" = some none)
   (pM:PySem.W.nsIn K mainGlobals "enumerate" = some none)
   : ∃(fd:FuncData) (ts:List (Addr×Str)),(∀p∈ts,p.1∈T0/\ts.lookup p.1=some p.2/\K.lookup p.1=none/\∃c,PySem.W.CodeHd h c p.1)/\(∀(s:Shared) (v:Value),BindsTo s fd ⟨[v],[]⟩ [("script",v)])/\∀base:Heap,K.In base->base.Ns mainGlobals mg->yx mg base->g9 l.prog w K mg base ou 7 fa fd ["script"] (spT K ts 1 qv qw qx):=by
 have e:=hfa.symm.trans (aop XX G Kc)
 cases e
 have ux:=uw.binds (ps:=["self","boxes","signs","begin","flats","rows"]) fun _ _ _ _ _ _=>by refine yz ?_;exact fun _ _ _ _ _ _=>rfl
 have HB:=aop XX G rS
 have HC:=rT.binds (ps:=["start","steps_of","is_end"]) fun _ _ _ _ _ _=>by refine yz ?_;exact fun _ _ _=>rfl
 have SD:=aop XX G zE
 have SG:=zF.binds (ps:=["table","one","other"]) fun _ _ _ _ _ _=>by refine yz ?_;exact fun _ _ _=>rfl
 have ajA:=aop XX G Kc
 have ajB:=Sl.binds (ps:=["script"]) fun _ _ _ _ _ _=>by refine yz ?_;exact fun _=>rfl
 have Ke:=aop XX G Dm
 have aN:x6 K aI:=⟨zx,zy,zA,zB⟩
 have iK:x6 K ((cl aI bE) "Table"):=by rw[gM];exact aN
 have jf:bz K ((cl aI bE) "Table") "boxes":=by rw[gM];exact lG
 have c7:bz K ((cl aI bE) "Table") "signs":=by rw[gM];exact lH
 have jg:bz K ((cl aI bE) "Table") "begin":=by rw[gM];exact lI
 have fV:bz K ((cl aI bE) "Table") "flats":=by rw[gM];exact lJ
 have fL:bz K ((cl aI bE) "Table") "rows":=by rw[gM];exact nR
 have jh:=anc XX G Dw
 have kN:=anc XX G Sn
 have SJ:=anc XX G Sq
 have lq:=anc XX G Dy
 have zK:=anc XX G Hv
 have YT:=anc XX G Ss
 have YV:=anc XX G Sv
 have Xs:=aop XX G Dz
 have YW:=anc XX G Sy
 have HD:=anc XX G rV
 have uy:=anc XX G nT
 have afq:=anc XX G Sz
 have acm:=anc XX G y_bool
 have E4:=anc XX G pM
 refine⟨YS,[(bE,"parted.<locals>.<lambda>")],?tabs,?bind,fun base kb _ bl=>?_⟩
 case tabs=>
   intro p hp
   simp only[ami,amw,ani]at hp
   rcases hp with rfl
   . exact⟨vA,by simp only[amP,anM],vz,jz,PySem.W.codeHd_of_K XX qy⟩
 case bind=>
   obtain⟨oc,od,kV,doc,pm,an,gB,ct,KC,rfl,lk,iO⟩:=Sl.ex
   exact fun s v=>.of_eq rfl
 have q:=@aaM l.prog w mg base K h (cl aI bE) XX G
 have SK:=q 0 oZ pe pA acd Wy Hg fun _ _ _ _ _ _ _ _ hr u p=>abu (by exact⟨u,bK pV 0,bK pV 1,bK pV 2,bK pV 3,bK pV 4,dQ pV 5,jh⟩) p
 have j7:=q 0 eS eU eV MA GF vn fun _ _ _ _ _ _ _ _ hr u p=>Mh (by exact⟨u,bK rE 0,bK rE 1,dQ rE 2,kN⟩) p
 have nU:=q 0 fP fQ fS Xl Q8 Dn fun _ _ _ _ _ _ _ _ hr u p=>WB (by exact⟨u,bK yR 0,bK yR 1,bK yR 2⟩) p
 have Xu:=q 1 pY pZ p6 Xm Q9 Dp fun _ _ _ _ _ _ _ _ hr u p=>WD (by exact⟨u,bK iB 0,bK iB 1,bK iB 2,bK iB 3,bK iB 4,bK iB 5,dQ iB 6,dQ iB 7,dQ iB 8,di SK hr,di j7 hr,di nU hr⟩) p
 have Kf:=q 0 lX lY lZ Xn Ra Dq fun _ _ _ _ _ _ _ _ hr u p=>WH (by exact⟨u,bK EG 0,bK EG 1⟩) p
 have SM:=q 1 pB pC pD ace WK Hh fun _ _ _ _ _ _ _ _ hr u p=>abx (by exact⟨u,bK CD 0,bK CD 1,dQ CD 2,di Kf hr⟩) p
 have SN:=q 2 pF kG pG acf WL Hi fun _ _ _ _ _ _ _ _ hr u p=>abz (by exact⟨u,bK kY 0,bK kY 1,bK kY 2,bK kY 3,bK kY 4,dQ kY 5,dQ kY 6,dQ kY 7,di SK hr,kN,di SM hr⟩) p
 have afr:=q 2 xD xE xF afo abA Se fun _ _ _ _ _ _ _ _ hr u p=>ae4 (by exact⟨u,bK yU 0,bK yU 1,bK yU 2,dQ yU 3,dQ yU 4,di nU hr,di SM hr⟩) p
 have acn:=q 3 tM mh tN acg WN Hj fun _ _ _ _ _ _ _ _ hr u p=>abD (by exact⟨u,bK cH 0,zL cH 1,cz cH 1 rfl,bK cH 2,zL cH 3,cz cH 3 rfl,zL cH 4,cz cH 4 rfl,bK cH 5,zL cH 6,cz cH 6 rfl,bK cH 7,bK cH 8,zL cH 9,cz cH 9 rfl,bK cH 10,bK cH 11,dQ cH 12,dQ cH 13,dQ cH 14,dQ cH 15,dQ cH 16,dQ cH 17,dQ cH 18,di j7 hr,SJ,kN,di nU hr,jh,lq,di SN hr,di afr hr⟩) p
 have Xv:=q 4 p7 p8 p9 Xo Rj Dr fun _ _ _ _ _ _ _ _ hr u p=>WQ (by exact⟨u,bK dG 0,bK dG 1,bK dG 2,bK dG 3,bK dG 4,bK dG 5,bK dG 6,bK dG 7,bK dG 8,bK dG 9,bK dG 10,dQ dG 11,dQ dG 12,dQ dG 13,dQ dG 14,dQ dG 15,di nU hr,di j7 hr,jh,di acn hr,kN⟩) p
 have aco:=q 1 tO tP tQ ach WT Hl fun _ _ _ _ _ _ _ _ hr u p=>abG (by exact⟨u,bK eY 0,zL eY 1,cz eY 1 rfl,bK eY 2,bK eY 3,bK eY 4,bK eY 5,bK eY 6,zL eY 7,cz eY 7 rfl,bK eY 8,dQ eY 9,dQ eY 10,dQ eY 11,dQ eY 12,dQ eY 13,dQ eY 14,SJ,di nU hr,di j7 hr,jh,kN,zK⟩) p
 have SQ:=q 0 mY mZ m5 Sf Mj zC fun _ _ _ _ _ _ _ _ hr u p=>Rn (by exact⟨u,bK mq 0,bK mq 1,bK mq 2,bK mq 3,bK mq 4⟩) p
 have acp:=q 1 tT pJ tU aci WU Ho fun _ _ _ _ _ _ _ _ hr u p=>abI (by exact⟨u,bK m7 0,bK m7 1,bK m7 2,bK m7 3,dQ m7 4,dQ m7 5,dQ m7 6,di nU hr,di j7 hr,lq⟩) p
 have Xw:=q 5 qa qb qc Xp Rw Ds fun _ _ _ _ _ _ _ _ hr u p=>WZ (by exact⟨u,zL bq 0,cz bq 0 rfl,bK bq 1,bK bq 2,zL bq 3,cz bq 3 rfl,bK bq 4,bK bq 5,zL bq 6,cz bq 6 rfl,bK bq 7,bK bq 8,bK bq 9,bK bq 10,bK bq 11,bK bq 12,bK bq 13,bK bq 14,bK bq 15,bK bq 16,bK bq 17,dQ bq 18,dQ bq 19,dQ bq 20,dQ bq 21,dQ bq 22,dQ bq 23,dQ bq 24,dQ bq 25,dQ bq 26,dQ bq 27,dQ bq 28,SJ,YT,kN,di Xu hr,jh,di nU hr,di j7 hr,di Xv hr,di aco hr,di SQ hr,di SN hr,YV,di Kf hr,di acp hr⟩) p
 have uz:g9 l.prog w K mg base ou 1 j3 _ ["self","boxes","signs","begin","flats","rows"] (spI K (cl aI bE) "Table" 6 kH kI kJ):=UM uw qL fun gB Ar outer s H E b a y hr hp=>by
   obtain⟨p0,p1,p2,p3,p4,p5⟩:=a;refine C2 ?_ p0 p1 p2 p3 p4 p5 y hp
   exact⟨⟨⟨qL.nd,rfl,.never⟩,hr.units⟩,bK c6 0,bK c6 1,bK c6 2,bK c6 3,bK c6 4,bK c6 5,bK c6 6,dQ c6 7,dQ c6 8,zK,lq,iK,jf,c7,jg,fV,fL⟩
 have Xx:=q 2 qe qf qg Xq Rx Dt fun _ _ _ _ _ _ _ _ hr u p=>W3 (by exact⟨u,bK mw 0,bK mw 1,bK mw 2,bK mw 3,dQ mw 4,dQ mw 5,zK,⟨⟨_,_,_,by rw[gM];exact⟨ur,j4,j5,uv⟩,uz,by rw[gM];exact Ke,ux⟩,hr.mono (by decide)⟩⟩) p
 have HF:=q 0 jL jM jN Hq EK rP fun _ _ _ _ _ _ _ _ hr u p=>GK (by exact⟨u,bK jr 0,zL jr 1,cz jr 1 rfl,bK jr 2,dQ jr 3,kN⟩) p
 have HG:=q 0 mz mC mD acj W5 Hr fun _ _ _ _ _ _ _ _ hr u p=>abS (by exact⟨u,bK W4 0,aep Xs zJ (aq rfl) (.cons ⟨_,rfl⟩ (.cons ⟨_,rfl⟩ (.cons ⟨_,rfl⟩ (.cons ⟨_,rfl⟩ (.nil)))))⟩) p
 have Bl:=q 1 jt ju jv MB GN vo fun _ _ _ _ _ _ _ _ hr u p=>Mp (by exact⟨u,bK nh 0,bK nh 1,bK nh 2,dQ nh 3,lq,di HG hr,iK,fL⟩) p
 have acq:=q 2 tW tX tY ack W6 Hs fun _ _ _ _ _ _ _ _ hr u p=>abU (by exact⟨u,zL tZ 0,cz tZ 0 rfl,zL tZ 1,cz tZ 1 rfl,dQ tZ 2,lq,di Bl hr,iK,c7⟩) p
 have afs:=q 0 xQ xR xS afp abV Sg fun _ _ _ _ _ _ _ _ hr u p=>ae8 (by exact⟨u,bK rJ 0,bK rJ 1,bK rJ 2,bK rJ 3,bK rJ 4,bK rJ 5,dQ rJ 6,lq,iK,c7,fL⟩) p
 have Bm:=q 3 jw jx jy MC GO vp fun _ _ _ _ _ _ _ _ hr u p=>Mr (by exact⟨u,zL fG 0,cz fG 0 rfl,zL fG 1,cz fG 1 rfl,bK fG 2,dQ fG 3,dQ fG 4,dQ fG 5,dQ fG 6,di HF hr,jh,kN,YW,di acq hr,di afs hr,iK,fV⟩) p
 have HJ:=q 2 jO jP jQ Ht EL rQ fun _ _ _ _ _ _ _ _ hr u p=>GQ (by exact⟨u,bK gy 0,bK gy 1,bK gy 2,bK gy 3,dQ gy 4,dQ gy 5,dQ gy 6,jh,kN,di Bl hr,iK,c7,fV⟩) p
 have Af:=q 0 gQ fN gR Ad zc lK fun _ _ _ _ _ _ _ _ hr u p=>z6 (by exact⟨u,bK fB 0,bK fB 1,bK fB 2,bK fB 3,dQ fB 4,dQ fB 5,zK,HD⟩) p
 have HK:=q 0 jS jT jU Hu EV rR fun _ _ _ _ _ _ _ _ hr u p=>GY (by exact⟨u,bK eZ 0,bK eZ 1,bK eZ 2,bK eZ 3,bK eZ 4,bK eZ 5,bK eZ 6,dQ eZ 7,dQ eZ 8,jh,kN,iK,c7,fL⟩) p
 have HL:PD l.prog w K mg base 3 rO _ ["start","steps_of","is_end"] (spO l.prog w K mg base (cl aI bE) 2 3 jV iE iF jW nA nB pK pL):=PF rT vZ fun gB Ar outer s H W E a f1 f2 hr hp o1 o2=>by
   obtain⟨p0,p1,p2,p3⟩:=a;refine G0 ?_ p0 p1 p2 p3 f1 f2 hp o1 o2
   exact⟨⟨⟨vZ.nd,rfl,.never⟩,hr.units⟩,bK dh 0,bK dh 1,bK dh 2,bK dh 3,bK dh 4,bK dh 5,bK dh 6,bK dh 7,bK dh 8,dQ dh 9,dQ dh 10,kN,di Af hr,hr.mono (by decide),rfl⟩
 have wJ:=q 0 fX fY fZ wI vf jD fun _ _ _ _ _ _ _ _ hr u p=>wH (by exact⟨u,bK fC 0,zL fC 1,cz fC 1 rfl,zL fC 2,cz fC 2 rfl,iK,c7⟩) p
 have SR:g9 l.prog w K mg base ou 4 zu _ ["table","one","other"] (UG K (cl aI bE) 3 nE kL nF):=OZ zF Bb fun gB Ar outer s H E b a iO hr hp=>by
   refine RG ?_ hp
   exact⟨⟨⟨Bb.nd,rfl,.never⟩,hr.units⟩,zL fU 0,cz fU 0 rfl,bK fU 1,bK fU 2,bK fU 3,zL fU 4,cz fU 4 rfl,dQ fU 5,dQ fU 6,dQ fU 7,di HJ hr,⟨⟨_,_,_,HL,HB,rT.kp,HC⟩,hr.mono (by decide)⟩,di wJ hr,di HK hr,kN,ahu bl kb iO vq (by rw[v5];exact qy) (by rw[v5];exact vt),Va hr,hr,fun _=>rfl⟩
 have SV:=aeq SR SD zF.kp SG
 have Xy:=q 0 qo qp qq Xr RH Du fun _ _ _ _ _ _ _ _ hr u p=>W9 (by exact⟨u,bK ua 0,dQ ua 1,dQ ua 2,dQ ua 3,uy,afq,acm⟩) p
 have MH:=q 0 k6 k7 k8 MG G7 vC fun _ _ _ _ _ _ _ _ hr u p=>Mt (by exact⟨u,bK G6 0⟩) p
 have SW:=q 1 nG nI nJ Sh Mv zG fun _ _ _ _ _ _ _ _ hr u p=>RK (by exact⟨u,bK vh 0,bK vh 1,bK vh 2,di MH hr⟩) p
 have DB:=q 2 iH iI iJ Dv z8 nS fun _ _ _ _ _ _ _ _ hr u p=>Dg (by exact⟨u,bK bD 0,bK bD 1,bK bD 2,bK bD 3,bK bD 4,bK bD 5,bK bD 6,dQ bD 7,dQ bD 8,dQ bD 9,dQ bD 10,dQ bD 11,dQ bD 12,dQ bD 13,dQ bD 14,uy,lq,kN,zK,YV,di Xy hr,YT,di SW hr⟩) p
 have Ag:=q 1 gU gV gW Ae zg lM fun _ _ _ _ _ _ _ _ hr u p=>Aa (by exact⟨u,bK kM 0,zL kM 1,cz kM 1 rfl,lq,di HG hr⟩) p
 have SX:=q 4 nK nL nM Si Mw zH fun _ _ _ _ _ _ _ _ hr u p=>RN (by exact⟨u,zL cF 0,cz cF 0 rfl,zL cF 1,cz cF 1 rfl,bK cF 2,bK cF 3,bK cF 4,bK cF 5,bK cF 6,bK cF 7,dQ cF 8,dQ cF 9,dQ cF 10,dQ cF 11,dQ cF 12,dQ cF 13,dQ cF 14,di Bm hr,jh,kN,E4,di Ag hr,⟨⟨_,_,_,by rw[gM];exact⟨ur,j4,j5,uv⟩,uz,by rw[gM];exact Ke,ux⟩,hr.mono (by decide)⟩,di HG hr,iK,c7,jf,fV,jg,fL⟩) p
 have SY:=q 0 nO nP nQ Sj Mx zI fun _ _ _ _ _ _ _ _ hr u p=>RQ (by exact⟨u,bK Bc 0,bK Bc 1,iK,jf,c7,jg,fV,fL⟩) p
 have aft:g9 l.prog w K mg base ou 7 _ _ ["script"] (UG K (cl aI bE) 1 qv qw qx):=IK Sl RX fun gB Ar outer s H E b a hr hp=>by
   refine afj ?_ hp
   exact⟨⟨⟨RX.nd,rfl,.never⟩,hr.units⟩,bK fK 0,bK fK 1,bK fK 2,bK fK 3,bK fK 4,bK fK 5,bK fK 6,bK fK 7,bK fK 8,dQ fK 9,dQ fK 10,dQ fK 11,dQ fK 12,dQ fK 13,dQ fK 14,dQ fK 15,dQ fK 16,dQ fK 17,dQ fK 18,di Xw hr,di Xx hr,di Bm hr,jh,kN,di SV hr,di DB hr,di SX hr,YW,di SY hr,iK,jf,c7,jg,fV,fL⟩
 exact aft.imp (U8 (fun _=>rfl) (fun _=>rfl) fun x hx h0=>Xd hx h0)
theorem walk{l:PySem.W.OpenLaw}{q:Program}{loose:List Str}{XP:(Str->Option Value)->Heap->Prop}{YP:World->Heap->Prop}{d:DefRec}{K:Params->PySem.W.Frag}{T0:List Addr}(hn:l.most=some 63)(hdf:d.params.defaults=[])
   (hY:∀(w:World) (h:Heap),YP w h->(K w.params).In h) (hT:∀(w:World) (h:Heap),YP w h->∀P∈T0,h.get? P=some (PySem.W.tabObj #[]))
   (F:∀(w:World) (mg:Str->Option Value) (fa:Addr) (h:Heap),(K w.params).In h->h.Ns mainGlobals mg->mg d.name=some (.ref fa) →
     ∃(fd:FuncData) (ts:List (Addr×Str)),(∀p∈ts,p.1∈T0/\ts.lookup p.1=some p.2/\(K w.params).lookup p.1=none/\∃c,PySem.W.CodeHd h c p.1)/\(∀(s:Shared) (u:Value),BindsTo s fd ⟨[u],[]⟩ [("script",u)])/\∀base:Heap,(K w.params).In base->base.Ns mainGlobals mg->yx mg base->g9 l.prog w (K w.params) mg base ou 7 fa fd ["script"] (spT (K w.params) ts 1 qv qw qx)) :
   PySem.W.WalkO q loose XP YP l.row.toRowW d [] (fun f vs=>PySem.call f vs):=
 O1 (n:=63) (k:=7) (x:="script") (sp:=fun w ts=>spT (K w.params) ts 1 qv qw qx) hn (by decide) hdf ⟨rfl,by decide,by decide⟩ hY hT F (fun _ _ _ a ns hl hS ht=>U9 rfl hl rfl hS ht)
end Law
end
namespace PySem.W.Fast
 def tw5755773242380614361 := 0
 def tw15041579608090452568 := 0
 def tw13480833349368531786 := 0
 def tw17234345952466975316 := 0
 def tw4134801436012597677 := 0
 def tw4284918882831998993 := 0
 def tw17126166789362839415 := 0
 def tw17791960174439810068 := 0
 def tw6750153001765854273 := 0
 def tw9421860495481610171 := 0
 def tw11470170212406602064 := 0
 def tw9017949765211784907 := 0
 def tw7338021657272021359 := 0
 def tw1422083164164854256 := 0
 def tw332785702138229230 := 0
 def tw6778682245293556890 := 0
 def tw15483778831181212976 := 0
 def tw12051881804694052773 := 0
 def tw5250933590670548091 := 0
 def tw2612823733190872262 := 0
 def tw3213297239687222859 := 0
 def tw18108914371433613507 := 0
 def tw17976444762900722142 := 0
 def tw4392929705113666416 := 0
 def tw9654343086980506959 := 0
 def tw10487172761367349188 := 0
 def tw17476150191252532623 := 0
 def tw4883468977481827759 := 0
 def tw592079099637032058 := 0
 def tw15482657621371257663 := 0
 def tw15485321606316672293 := 0
 def tw9239987400323855524 := 0
 def tw18257816607713474693 := 0
 def tw10352813169530294765 := 0
 def tw3154792921849953722 := 0
 def tw16383752259528297803 := 0
 def tw14892082876874553583 := 0
 def tw9903497653737286330 := 0
 def tw2354656829644265980 := 0
 def tw6397893015330343401 := 0
 def tw14472610715387225288 := 0
 def tw5878384690755634411 := 0
 def tw16014207056600228243 := 0
 def tw13032600066488498058 := 0
 def tw13156425448907482043 := 0
 def tw13179639944764166554 := 0
 def tw15987268160916379082 := 0
 def tw13392422603964230244 := 0
end PySem.W.Fast
open PySem PySem.W PyProof.Rows
set_option maxRecDepth 100000 in
set_option maxHeartbeats 0 in
theorem PySem.Challenge.cw_moodtree_k60_whole_least_is_least_holds : PySem.Challenge.rw_moodtree_k60_whole_least_is_least.Holds := by
 w_on; o_law; k_head; (case hw => w_witness2)
 k_fill
 refine Law.walk (l := PySem.Challenge.rw_moodtree_k60_whole_least_is_least) rfl rfl (fun w h Y => PySem.W.km_in_of Y) (fun w h Y => PySem.W.km_tabs_of Y) ?F
 case F =>
   intro w mg fa h KX G hmg
   refine' Law.all_mk KX G hmg ?Dm ?zx ?zy ?zA ?zB ?ur ?uv ?lG ?lH ?lI ?lJ ?nR ?Hg (L2.bR ?lD ?acr ?acs) ?vn (L2.bR ?MJ ?MK ?ML) ?Dn (L2.bR ?cB ?Xz ?XA) ?Dp (L2.bR ?C1 ?XC ?XD) ?Dq (L2.bR ?xU ?XE ?XF) ?Hh (L2.bR ?acu ?acv ?acw) ?Hi (L2.bR ?acy ?acz ?acA) ?Se (L2.bR ?afu ?afv ?afw) ?Hj (L2.bR ?acB ?acC ?acD) ?Dr (L2.bR ?kZ ?XG ?XH) ?Hl (L2.bR ?acE ?acF ?acG) ?zC (L2.bR ?S6 ?S7 ?S8) ?Ho (L2.bR ?gw ?acH ?k_flat) ?Ds (L2.bR ?bY ?XI ?XJ) ?j4 ?j5 (L2.bR ?DC ?DE ?DF) ?Dt (L2.bR ?aL ?XM ?iD) ?rP (L2.bR ?HM ?HN ?HP) ?Hr (L2.bR ?acI ?acJ ?acK) ?vo (L2.bR ?MN ?MP ?MQ) ?Hs (L2.bR ?acL ?acM ?acN) ?Sg (L2.bR ?afx ?afy ?afz) ?vp (L2.bR ?MR ?MS ?MT) ?rQ (L2.bR ?HQ ?HR ?HS) ?lK (L2.bR ?Ah ?Ai ?Aj) ?rR (L2.bR ?rL ?HV ?HW) ?rS (L2.bR ?HX ?HY ?HZ) ?jD (L2.bR ?wK ?wL ?wM) ?zE (L2.bR ?S9 ?Tc ?Td) ?vq ?Bj ?Bk ?qy ?vt ?vz ?vA ?Du (L2.bR ?XO ?XQ ?k_whole) ?vC (L2.bR ?MV ?MX ?MY) ?zG (L2.bR ?Te ?Tf ?Tg) ?nS (L2.bR ?DG ?DH ?DI) ?lM (L2.bR ?Ak ?Al ?Am) ?zH (L2.bR ?Ti ?Tj ?Tp) ?zI (L2.bR ?Tq ?Tr ?Tt) ?Kc (L2.bR ?afA ?afB ?afC) ?Dw ?Sn ?Sq ?Dy ?Hv ?Ss ?Sv ?Dz ?zJ ?Sy ?rV ?nT ?Sz ?y_bool ?pM
   case Dm | zx | zy | zA | zB | ur | uv | lG | lH | lI | lJ | nR | Hg | lD | acr | acs | vn | MJ | MK | ML | Dn | cB | Xz | XA | Dp | C1 | XC | XD | Dq | xU | XE | XF | Hh | acu | acv | acw | Hi | acy | acz | acA | Se | afu | afv | afw | Hj | acB | acC | acD | Dr | kZ | XG | XH | Hl | acE | acF | acG | zC | S6 | S7 | S8 | Ho | gw | acH | k_flat | Ds | bY | XI | XJ | j4 | j5 | DC | DE | DF | Dt | aL | XM | iD | rP | HM | HN | HP | Hr | acI | acJ | acK | vo | MN | MP | MQ | Hs | acL | acM | acN | Sg | afx | afy | afz | vp | MR | MS | MT | rQ | HQ | HR | HS | lK | Ah | Ai | Aj | rR | rL | HV | HW | rS | HX | HY | HZ | jD | wK | wL | wM | zE | S9 | Tc | Td => (try delta L3.mG); k_is
   case vq => exact rfl
   case Bj => (try delta L3.mG); k_is
   case Bk => exact rfl
   case qy => kernel_rfl
   case vt => decide
   case vz => kernel_rfl
   case vA => decide
   case Du | XO | XQ | k_whole | vC | MV | MX | MY | zG | Te | Tf | Tg | nS | DG | DH | DI | lM | Ak | Al | Am | zH | Ti | Tj | Tp | zI | Tq | Tr | Tt | Kc | afA | afB | afC | Dw | Sn | Sq | Dy | Hv | Ss | Sv | Dz | zJ | Sy | rV | nT | Sz | y_bool | pM => (try delta L3.mG); k_is
