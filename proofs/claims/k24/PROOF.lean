import PyProof.Rows.All
import Wide.All
import OpenK.AllK
import Wide.FinOn
import Lean
import PyProof.EqAt
import PyProof.EqKinds
import PyProof.TupleCall
import PySem.Challenge.RW_moodtree_k24_whole_read_back
set_option Elab.async false
set_option linter.all false
set_option maxRecDepth 100000
set_option maxHeartbeats 4000000
open PySem.W (instObj methodObj Frag lookIn plainGet hasDictIn findIn handedIn plainOver takerIn makesIn emptyDict keepIn callWith_K isFn cellsFrom_some fnOf codeIn nsIn KeysLit mapOf_K)
set_option hygiene false
local macro_rules | `($x:ident) => let u:=Lean.Macro.throwUnsupported; match x.getId with
 | .str (.str .anonymous "Q") s => (match s.front with
|'a'=>(match s with
|"a"=>`(We)
|_=>u)
|'b'=>(match s with
|"b"=>`(Wl)
|_=>u)
|'c'=>(match s with
|"c"=>`(Wp)
|_=>u)
|'d'=>(match s with
|"d"=>`(model X.prog X.w)
|_=>u)
|'e'=>(match s with
|"e"=>`(Inv X pins σ H s)
|_=>u)
|'f'=>(match s with
|"f"=>`(Wl)
|_=>u)
|'g'=>(match s with
|"g"=>`(fun _ _ h r k=>.cons (h fun a ha=>k a (aBN _ ha)) (r fun a ha=>k a (aBw _ ha)))
|_=>u)
 |_=>u)
 | _ => u
def We{p:Prop}(h:p:=by omega):p:=h
def Wl{p:Prop}(h:p:=by decide +kernel):p:=h
def Wp{p:Prop}(h:p:=by decide):p:=h
def Uf{p:Prop}(h:p:=by simp):p:=h
noncomputable section
namespace L2
open PySem PySem.Spec PyProof.Rows
abbrev aBp:=@List.length_map
abbrev aBq:=@List.mem_cons
abbrev aBr:=@List.mem_cons_self
abbrev aBs:=@List.getD_eq_getElem?_getD
abbrev aBt:=@List.mem_cons_of_mem
abbrev aBu:=@Nat.le_of_ble_eq_true
abbrev aBv:=@of_decide_eq_true
abbrev aBw:=@List.mem_append_right
abbrev aBx:=@if_neg
abbrev aBy:=@List.mem_append
abbrev aBz:=@List.length_append
abbrev aBA:=@List.append_assoc
abbrev aBB:=@List.mem_singleton
abbrev aBC:=@List.getElem?_eq_getElem
abbrev aBD:=@Nat.le_refl
abbrev aBE:=@if_pos
abbrev aBF:=@List.map_append
abbrev aBG:=@of_decide_eq_false
abbrev aBH:=@decide_eq_true
abbrev aBI:=@List.mem_map
abbrev aBJ:=@List.not_mem_nil
abbrev aBK:=@List.map_cons
abbrev aBL:=@List.map_map
abbrev aBM:=@Bool.false_ne_true
abbrev aBN:=@List.mem_append_left
abbrev aBO:=@List.length_range
abbrev aBP:=@List.length_cons
abbrev aBQ:=@List.mem_of_getElem?
abbrev aBR:=@List.getElem?_map
abbrev aBS:=@decide_eq_false
abbrev aBT:=@List.cons.inj
abbrev aBU:=@Heap.get?_push_of_some
abbrev aBV:=@List.length_singleton
abbrev aBW:=@List.append_nil
abbrev aBX:=@Option.some.inj
abbrev aBY:=@wpAny_bind
abbrev aBZ:=@Int.emod_lt_of_pos
abbrev aB0:=@Nat.zero_le
abbrev aB1:=@Heap.lt_size
abbrev aB2:=@Int.emod_nonneg
abbrev aB3:=@List.cons_append
abbrev aB4:=@List.getElem?_eq_some_iff
abbrev aB5:=@List.mem_range
abbrev aB6:=@Bool.and_eq_true
abbrev aB7:=@List.size_toArray
abbrev aB8:=@sizeLine_eq
abbrev aB9:=@List.getElem?_range
abbrev aCa:=@Nat.le_trans
abbrev aCb:=@wpAny_pure
abbrev aCc:=@PySem.W.mg_of
abbrev aCd:=@List.lookup_cons
abbrev aCe:=@List.length_take
abbrev aCf:=@List.foldl_cons
abbrev aCg:=@or_false
abbrev aCh:=@Heap.get?_push_size
abbrev aCi:=@List.Perm.append_left
abbrev aCj:=@Nat.le_of_lt
abbrev aCk:=@Nat.le_succ_of_le
abbrev aCl:=@Int.toNat_natCast
abbrev aCm:=@List.Sublist.refl
abbrev aCn:=@Nat.lt_of_lt_of_le
abbrev aCo:=@List.Sublist.append
abbrev aCp:=@List.map_congr_left
abbrev aCq:=@Nat.ne_of_lt
abbrev aCr:=@List.perm_append_comm
abbrev aCs:=@List.getElem?_eq_none
abbrev aCt:=@List.foldl_append
abbrev aCu:=@List.nodup_cons
abbrev aCv:=@List.take_length
abbrev aCw:=@List.nodup_append
abbrev aCx:=@Bool.and_false
abbrev aCy:=@List.cons_ne_nil
abbrev aCz:=@List.flatMap_cons
abbrev aCA:=@List.getElem?_append_right
abbrev aCB:=@Bool.not_eq_true'
abbrev aCC:=@PySem.W.mg_none_of
abbrev aCD:=@List.length_replicate
abbrev aCE:=@Nat.add_sub_cancel
abbrev aCF:=@List.mem_filter
abbrev aCG:=@decide_eq_true_eq
abbrev aCH:=@List.take_add_one
abbrev aCI:=@List.eq_nil_of_length_eq_zero
abbrev aCJ:=@List.length_pos_iff
abbrev aCK:=@wpAny_truthy_bool
abbrev aCL:=@PyProof.Rows.callWith_type1
abbrev aCM:=@List.filter_append
abbrev aCN:=@List.perm_middle
abbrev aCO:=@List.all_eq_true
abbrev aCP:=@List.ext_getElem?
abbrev aCQ:=@List.flatten_cons
abbrev aCR:=@beq_eq_false_iff_ne
abbrev aCS:=@List.filterMap_cons
abbrev aCT:=@Array.length_toList
abbrev aCU:=@List.length_set
abbrev aCV:=@List.find?_cons
abbrev aCW:=@List.sublist_append_right
abbrev aCX:=@List.mem_or_eq_of_mem_set
abbrev aCY:=@Nat.succ_ne_zero
abbrev aCZ:=@List.any_cons
abbrev aC0:=@Ne.symm
abbrev aC1:=@decide_eq_false_iff_not
abbrev aC2:=@List.reverse_cons
abbrev aC3:=@PySem.mem_of_lookup
abbrev aC4:=@PySem.F.plainAttrs_str
abbrev aC5:=@wpAny_mono
abbrev aC6:=@Nat.lt_succ_self
abbrev aC7:=@Str.append_assoc
abbrev aC8:=@Nat.lt_of_le_of_lt
abbrev aC9:=@Bool.not_eq_false'
abbrev aDa:=@List.nil_append
abbrev aDb:=@List.range_succ
abbrev aDc:=@PySem.F.plainAttrs_list
abbrev aDd:=@List.flatMap_append
abbrev aDe:=@beq_self_eq_true
abbrev aDf:=@List.getElem_mem
abbrev aDg:=@List.flatMap_nil
abbrev aDh:=@beq_iff_eq
abbrev aDi:=@Nat.le_succ
abbrev aDj:=@Option.map_eq_some_iff
abbrev aDk:=@List.filter_eq_nil_iff
abbrev aDl:=@Nat.sub_self
abbrev aDm:=@Int.natAbs_natCast
abbrev aDn:=@wpAny_passesOwn
abbrev aDo:=@Bool.eq_iff_iff
abbrev aDp:=@Bool.or_eq_true
abbrev aDq:=@List.getElem?_append_left
abbrev aDr:=@PySem.F.args_tuple_add_2
abbrev aDs:=@F.called_set
abbrev aDt:=@List.map_eq_nil_iff
abbrev aDu:=@PyProof.Rows.slot_tuple_getitem
abbrev aDv:=@PySem.F.entry_tuple_add
abbrev aDw:=@wpAny_getItem_str_slice
abbrev aDx:=@PySem.StrLaws.found_one
abbrev aDy:=@Int.eq_ofNat_of_zero_le
abbrev aDz:=@List.all_cons
abbrev aDA:=@PySem.W.kia_one
abbrev aDB:=@PySem.F.slot_tuple_add
abbrev aDC:=@List.append_eq_nil_iff
abbrev aDD:=@wpAny_newObj_type
abbrev aDE:=@Bool.false_and
abbrev aDF:=@List.map_set
abbrev aDG:=@Classical.choose_spec
abbrev aDH:=@Int.zero_add
abbrev aDI:=@typeIs_str
abbrev aDJ:=@call_meets
abbrev aDK:=@List.mem_of_mem_take
abbrev aDL:=@Nat.succ_le_succ
abbrev aDM:=@Nat.mul_le_mul_right
abbrev aDN:=@Bool.or_eq_false_iff
abbrev aDO:=@Nat.lt_irrefl
abbrev aDP:=@wpAny_holding
abbrev aDQ:=@if_true
abbrev aDR:=@List.replicate_succ
abbrev aDS:=@List.replicate_zero
abbrev aDT:=@PySem.F.slot_dict_getitem
abbrev aDU:=@Nat.le_add_left
abbrev aDV:=@codeAny_mono
abbrev aDW:=@wpAny_Call_Name_kw
abbrev aDX:=@List.getElem?_take_of_lt
abbrev aDY:=@List.map_nil
abbrev aDZ:=@tupleKind_room_in1
abbrev aD0:=@PySem.F.slot_list_append
abbrev aD1:=@PySem.F.type_list_append
abbrev aD2:=@F.args_str_split_2
abbrev aD3:=@List.find?_range_eq_some
abbrev aD4:=@List.find?_eq_none
abbrev aD5:=@List.Perm.refl
abbrev aD6:=@List.nodup_nil
abbrev aD7:=@Nat.add_sub_cancel_left
abbrev aD8:=@List.filter_cons_of_neg
abbrev aD9:=@List.filter_cons_of_pos
abbrev aEa:=@F.plain_set_update_loop
abbrev aEb:=@Option.isSome_map
abbrev aEc:=@List.getElem?_set
abbrev aEd:=@F.entry_str_split
abbrev aEe:=@StrLaws.joinTotal
abbrev aEf:=@StrLaws.subAt_one
abbrev aEg:=@List.pairwise_map
abbrev Key:=Sum Int Str
def QF:Key->Value->Bool
 | .inl k,v=>Value.isInt k v
 | .inr x,v=>Value.isStrOf x v
def awa(w:World):Key->Int
 | .inl k=>hashInt k
 | .inr x=>hashStr w x
theorem gE:∀{k:Key} {v:Value},QF k v=true->(∃i t,k=Sum.inl i/\v=Value.int i t)\/(∃x t,k=Sum.inr x/\v=Value.str x t)
 | .inl i,v,h=>by
   obtain⟨t,e⟩:=Value.isInt_shape (k:=i) (v:=v) h;exact .inl ⟨i,t,rfl,e⟩
 | .inr x,v,h=>by
   obtain⟨t,e⟩:=Value.isStrOf_shape (x:=x) (v:=v) h;exact .inr ⟨x,t,rfl,e⟩
def ad6(i:Int)(t:Tok):QF (.inl i) (.int i t)=true:=by simp[QF,Value.isInt]
def ad7(x:Str)(t:Tok):QF (.inr x) (.str x t)=true:=by simp[QF,Value.isStrOf]
def apP(a b:Int):decide ((Sum.inl a:Key)=Sum.inl b)=(a==b):=by
 by_cases e:a=b
 . subst e;simp
 . have h:¬ (Sum.inl a:Key)=Sum.inl b:=fun q=>e (Sum.inl.inj q);rw[aBS h];exact(aCR.mpr e).symm
def apQ(a b:Str):decide ((Sum.inr a:Key)=Sum.inr b)=decide (a=b):=by
 by_cases e:a=b
 . subst e;simp
 . have h:¬ (Sum.inr a:Key)=Sum.inr b:=fun q=>e (Sum.inr.inj q);rw[aBS h,aBS e]
def apR(a:Int)(b:Str):decide ((Sum.inl a:Key)=Sum.inr b)=false:=aBS (fun q=>nomatch q)
def apS(a:Str)(b:Int):decide ((Sum.inr a:Key)=Sum.inl b)=false:=aBS (fun q=>nomatch q)
def je(prog:Program)(w:World):PySem.KeyKind prog w Key where
 is:=QF
 hash:=awa w
 inj:=fun v a b ha hb=>by
   rcases gE ha with⟨i,t,rfl,rfl⟩|⟨x,t,rfl,rfl⟩
   . rcases gE hb with⟨j,u,rfl,e⟩|⟨y,u,rfl,e⟩
     . injection e with e1 _;rw[e1]
     . exact nomatch e
   . rcases gE hb with⟨j,u,rfl,e⟩|⟨y,u,rfl,e⟩
     . exact nomatch e
     . injection e with e1 _;rw[e1]
 byValue:=fun k v h=>by
   rcases gE h with⟨i,t,rfl,rfl⟩|⟨x,t,rfl,rfl⟩<;>rfl
 pyHash:=fun hv h=>by
   rcases gE hv with⟨i,t,rfl,rfl⟩|⟨x,t,rfl,rfl⟩
   . exact wpAny_pyHash_int h
   . exact wpAny_pyHash_str h
 eqBool:=fun hu hv h=>by
   rcases gE hu with⟨i,t,rfl,rfl⟩|⟨x,t,rfl,rfl⟩
   . rcases gE hv with⟨j,u,rfl,rfl⟩|⟨y,u,rfl,rfl⟩
     . rw[apP]at h;exact wpAny_eqBool_int h
     . rw[apR]at h;exact SeqAt.EqAt.int_str i t y u _ _ _ _ h
   . rcases gE hv with⟨j,u,rfl,rfl⟩|⟨y,u,rfl,rfl⟩
     . rw[apS]at h;exact SeqAt.EqAt.str_int x t j u _ _ _ _ h
     . rw[apQ]at h;exact wpAny_eqBool_str h
 «strs»:=fun k x t v h=>by
   rcases gE h with⟨i,u,rfl,e⟩|⟨y,u,rfl,e⟩
   . exact nomatch e
   . injection e with e1 _;subst e1;cases v<;>rfl
def U6(prog:Program)(w:World)(i:Int)(t:Tok):(je prog w).is (.inl i) (.int i t)=true:=ad6 i t
def U7(prog:Program)(w:World)(x:Str)(t:Tok):(je prog w).is (.inr x) (.str x t)=true:=ad7 x t
inductive V where
 | non|bl (b:Bool)|int (i:Int)|str (x:Str)|byt (b:Array UInt8)|flt (b:UInt64)|ref (a:Addr)|ty (n:String)
 deriving DecidableEq
def RelV:V->Value->Prop
 | .non,u=>u=Value.none
 | .bl b,u=>u=Value.bool b
 | .int i,u=>∃t,u=Value.int i t
 | .str x, u => ∃ t, u = Value.str x t
 | .byt b,u=>∃t,u=Value.bytes b t
 | .flt b,u=>∃t,u=Value.float b t
 | .ref a,u=>u=Value.ref a
 | .ty n,u=>u=Value.type n
abbrev _root_.BS:=List V
abbrev _root_.BY:=List Value
abbrev Vals:BS->BY->Prop:=Paired RelV
variable{xs:BS}{us:BY}
theorem Vals.length(r:Vals xs us):xs.length=us.length:=Paired.length r
theorem Vals.get:∀{xs:BS} {us:BY} {i:Nat} {x:V},Vals xs us->xs[i]? = some x->∃u,us[i]? = some u/\RelV x u
 | _,_,_,_,.nil,e=>by simp at e
 | _,_,0,_,.cons r _,e=>by simp at e;subst e;exact⟨_,rfl,r⟩
 | _,_,i+1,x,.cons _ t,e=>by
   obtain⟨u,h1,h2⟩:=Vals.get (i:=i) (x:=x) t (by simpa using e);exact⟨u,by simpa using h1,h2⟩
theorem Vals.set{x:V}{u:Value}(r:RelV x u):∀{xs:BS} {us:BY} (i:Nat),Vals xs us->Vals (xs.set i x) (us.set i u)
 | _,_,_,.nil=>.nil
 | _,_,0,.cons _ t=>.cons r t
 | _,_,i+1,.cons q t=>.cons q (Vals.set r i t)
theorem Vals.append:∀{xs ys:BS} {us ws:BY},Vals xs us->Vals ys ws->Vals (xs++ys) (us++ws)
 | _,_,_,_,.nil,s=>s
 | _,_,_,_,.cons r t,s=>.cons r (Vals.append t s)
theorem Vals.take:∀{xs:BS} {us:BY} (n:Nat),Vals xs us->Vals (xs.take n) (us.take n)
 | _,_,0,_=>.nil
 | _,_,_+1,.nil=>.nil
 | _,_,n+1,.cons r t=>.cons r (Vals.take n t)
theorem Vals.drop:∀{xs:BS} {us:BY} (n:Nat),Vals xs us->Vals (xs.drop n) (us.drop n)
 | _,_,0,r=>r
 | _,_,_+1,.nil=>.nil
 | _,_,n+1,.cons _ t=>Vals.drop n t
def GA:Option V->Option Value->Prop
 | some v,some u=>RelV v u
 | none,none=>True
 | _,_=>False
def KV{κ:Type}:List (κ×V)->List (κ×Value)->Prop:=Paired fun(p:κ×V) (q:κ×Value)=>p.1=q.1/\RelV p.2 q.2
def kV:Key->V
 | .inl i=>.int i
 | .inr x=>.str x
abbrev _root_.D1:=List Key
abbrev _root_.B1:=List (D1×V)
abbrev _root_.Bi:=List (Str×V)
abbrev _root_.Bz:=List (Key×V)
abbrev _root_.DA:=Array Value
inductive HO where
 | lst (xs:BS)
 | tup (xs:BS)
 | dK (aY:Bz)|dT (aY:B1)
 | set (S:Int->Bool) (n:Nat)
 | ins (C dx:Addr) (fs:Bi)
 | own (x:Addr)
 | xd (fs:Bi)
 | met (f x:Addr)
 | rng (lo hi:Int)
 | fj (o:Obj) (u:HO)
 | tbl (ps:DA)
 | tabs (q:Str)
 | cod (q:Str)
 | ext (φ:Heap->Prop)
abbrev Hp:=Addr->Option HO
def upd(H:Hp)(a:Addr)(o:HO):Hp:=fun b=>if b=a then some o else H b
variable{H:Hp}{a:Addr}{o:HO}
def bA:upd H a o a=some o:=by unfold upd;rw[aBE rfl]
variable{b:Addr}
def aA(h:b≠a):upd H a o b=H b:=by unfold upd;rw[aBx h]
def asZ{u:HO}(h:H a=some o)(h':H b=some u)(d:o≠u):a≠b:=by
 intro e;subst e;rw[h]at h';exact d (aBX h')
def cy(h:H a=some o)(h':H b=none):a≠b:=by
 intro e;subst e;rw[h]at h';cases h'
section
variable(P:Program)(w:World)
def lu(H:Hp)(h:Heap)(a:Addr):HO->Prop
 | .lst xs=>xs.length<=sizeLine/\∃(its:BY) (n:Nat),Vals xs its/\h.get? a=some {cls:=.type "list",data:=.seq its.toArray n}
 | .tup xs=>xs.length<=sizeLine/\∃its:BY,Vals xs its/\IsTup h a its.toArray
 | .dK aY=>aY.length<=sizeLine/\(a==sysModules)=false/\∃vs,KV aY vs/\h.DictOf (je P w) a vs
 | .dT aY=>aY.length<=sizeLine/\(a==sysModules)=false/\∃xs:List (D1×Addr×Value),
     Paired (fun(p:D1×V) (q:D1×Addr×Value)=>p.1=q.1/\H q.2.1=some (.tup (p.1.map kV))/\RelV p.2 q.2.2) aY xs ∧
     ∃o es ep,h.get? a=some o/\o.ExactDict/\o.data=.dict es ep/\es.toList=xs.map (entryOfKey (tupleKind (je P w)))/\(xs.map (·.1)).Nodup
 | .set S n=>h.SetOf (intKind P w) a S n
 | .ins C dx fs=>H dx=some (.own a)/\fs.length<=1000/\dx≠a/\h.get? a=some (instObj C dx) ∧
     ∃mA,h.Ns1 dx mA/\(∀f,GA (fs.lookup f) (mA f))/\PySem.Within mA (fs.map (·.1))
 | .own _=>∃o,h.get? a=some o
 | .xd fs=>∃mA,h.Ns1 a mA/\∀f,GA (fs.lookup f) (mA f)
 | .rng lo hi=>∃t u v,h.get? a=some {cls:=.type "range",data:=.fields #[.int lo t,.int hi u,.int 1 v]}
 | .fj o u=>h.get? a=some o/\lu H h a u
 | .tbl ps=>h.get? a=some {cls:=.none,data:=.fields ps}
 | .tabs q=>∃ps:DA,h.get? a=some {cls:=.none,data:=.fields ps}/\TriplesOk ps.toList/\∀pos cv,codeAmong pos ps.toList=some cv->∃c,cv=.ref c/\H c=some (.cod q)
 | .cod q=>∃o vs t,h.get? a=some o/\o.data=.fields vs/\vs[1]? = some (.str q t)
 | .met f x=>h.get? a=some (methodObj (.ref f) (.ref x))
 | .ext φ=>φ h/\(∃o,h.get? a=some o)/\∀h1 h2:Heap,φ h1->(∀o,h1.get? a=some o->h2.get? a=some o)->φ h2
def En(H:Hp)(h:Heap):Prop:=∀a o,H a=some o->lu P w H h a o
end
variable{P:Program}{w:World}{H':Hp}{h h':Heap}
theorem lu.lt(x:lu P w H h a o):a<h.objs.size:=by
 cases o with
 | lst xs=>obtain⟨_,_,_,_,e⟩:=x;exact aB1 e
 | tup xs=>obtain⟨_,_,_,p⟩:=x;exact p.lt
 | dK aY=>obtain⟨_,_,_,_,o,_,_,e,_⟩:=x;exact aB1 e
 | dT aY=>obtain⟨_,_,_,_,o,_,_,e,_⟩:=x;exact aB1 e
 | set S n=>obtain⟨o,_,_,_,e,_⟩:=x;exact aB1 e
 | ins C dx fs=>obtain⟨_,_,_,e,_⟩:=x;exact aB1 e
 | own y=>obtain⟨_,e⟩:=x;exact aB1 e
 | xd fs=>obtain⟨_,⟨_,_,_,e,_⟩,_⟩:=x;exact aB1 e
 | rng lo hi=>obtain⟨_,_,_,e⟩:=x;exact aB1 e
 | fj ob u=>obtain⟨e,_⟩:=x;exact aB1 e
 | tbl ps=>exact aB1 (show h.get? a=some _ from x)
 | tabs q=>obtain⟨_,e,_⟩:=x;exact aB1 e
 | cod q=>obtain⟨_,_,_,e,_⟩:=x;exact aB1 e
 | met f y=>exact aB1 (show h.get? a=some _ from x)
 | ext φ=>obtain⟨_,⟨_,e⟩,_⟩:=x;exact aB1 e
theorem Paired.apV{α β:Type}{F G:α->β->Prop}:∀{l₁:List α} {l₂:List β},Paired F l₁ l₂->(∀a b,F a b->G a b)->Paired G l₁ l₂
 | _,_,.nil,_=>.nil
 | _,_,.cons r t,f=>.cons (f _ _ r) (Paired.apV t f)
theorem lu.RJ(x:lu P w H h a o)(k:∀b u,(b=a\/H b=some (.own a))->h.get? b=some u->h'.get? b=some u)
   (ho:∀b,H b=some (.own a)->H' b=some (.own a)) (ht:∀b xs,H b=some (.tup xs)->H' b=some (.tup xs)) (uG:∀b q,H b=some (.cod q)->H' b=some (.cod q):=by intro _ _ q;exact q):lu P w H' h' a o:=by
 induction o with
 | lst xs=>obtain⟨z,its,n,r,e⟩:=x;exact⟨z,its,n,r,k _ _ (.inl rfl) e⟩
 | tup xs=>obtain⟨z,its,r,ob,e,c⟩:=x;exact⟨z,its,r,ob,k _ _ (.inl rfl) e,c⟩
 | dK aY=>obtain⟨z,y,vs,r,ob,es,ep,e,c⟩:=x;exact⟨z,y,vs,r,ob,es,ep,k _ _ (.inl rfl) e,c⟩
 | dT aY=>
   obtain⟨z,y,xs,r,ob,es,ep,e,c⟩:=x;exact⟨z,y,xs,Paired.apV r fun p q z=>⟨z.1,ht _ _ z.2.1,z.2.2⟩,ob,es,ep,k _ _ (.inl rfl) e,c⟩
 | set S n=>obtain⟨ob,es,ep,t,e,c⟩:=x;exact⟨ob,es,ep,t,k _ _ (.inl rfl) e,c⟩
 | ins C dx fs=>
   obtain⟨d,z,ne,e,mA,⟨od,es,ep,e2,c⟩,r⟩:=x;exact⟨ho _ d,z,ne,k _ _ (.inl rfl) e,mA,⟨od,es,ep,k _ _ (.inr d) e2,c⟩,r⟩
 | own y=>obtain⟨ob,e⟩:=x;exact⟨ob,k _ _ (.inl rfl) e⟩
 | xd fs=>obtain⟨mA,⟨od,es,ep,e,c⟩,r⟩:=x;exact⟨mA,⟨od,es,ep,k _ _ (.inl rfl) e,c⟩,r⟩
 | rng lo hi=>obtain⟨t,u,v,e⟩:=x;exact⟨t,u,v,k _ _ (.inl rfl) e⟩
 | fj ob u ih=>obtain⟨e,q⟩:=x;exact⟨k _ _ (.inl rfl) e,ih q⟩
 | tbl ps=>
   have e:h.get? a=some {cls:=.none,data:=.fields ps}:=x;show h'.get? a=some {cls:=.none,data:=.fields ps};exact k a _ (.inl rfl) e
 | met f y=>
   have e:h.get? a=some (methodObj (.ref f) (.ref y)):=x;show h'.get? a=some (methodObj (.ref f) (.ref y));exact k a _ (.inl rfl) e
 | tabs q=>obtain⟨ps,e,tr,cs⟩:=x;exact⟨ps,k _ _ (.inl rfl) e,tr,fun pos cv z=>let ⟨c,e1,e2⟩:=cs pos cv z;⟨c,e1,uG _ _ e2⟩⟩
 | cod q=>obtain⟨ob,vs,t,e,r⟩:=x;exact⟨ob,vs,t,k _ _ (.inl rfl) e,r⟩
 | ext φ=>obtain⟨p,⟨o,e⟩,st⟩:=x;exact⟨st _ _ p fun o q=>k _ _ (.inl rfl) q,⟨o,k _ _ (.inl rfl) e⟩,st⟩
theorem En.lt(x:En P w H h)(e:H a=some o):a<h.objs.size:=(x a o e).lt
theorem En.fresh(x:En P w H h)(e:h.objs.size<=a):H a=none:=by
 cases q:H a with
 | none=>rfl
 | some u=>exact absurd (aCn (x.lt q) e) (aDO _)
theorem En.kept(x:En P w H h)(k:∀b u,h.get? b=some u->h'.get? b=some u):En P w H h':=fun a o e=>
 (x a o e).RJ (fun b u _ q=>k b u q) (fun _ q=>q) fun _ _ q=>q
theorem En.laid(x:En P w H h)(k:∀b u,h.get? b=some u->h'.get? b=some u)(hp:h.objs.size<=a)(new:lu P w (upd H a o) h' a o):En P w (upd H a o) h':=fun b u e=>by
 have hn:=x.fresh hp;by_cases hb:b=a
 . subst hb;rw[bA]at e;cases e;exact new
 . rw[aA hb]at e;exact(x b u e).RJ (fun c v _ q=>k c v q) (fun c q=>by rw[aA (cy q hn)];exact q) (fun c xs q=>by rw[aA (cy q hn)];exact q) fun c z q=>by rw[aA (cy q hn)];exact q
def Rd(H:Hp)(a:Addr)(u:HO):Prop:=H a=some u\/∃o,H a=some (.fj o u)
theorem Rd.ok{u:HO}(r:Rd H a u)(x:En P w H h):lu P w H h a u:=by
 rcases r with r|⟨o,r⟩
 . exact x a u r
 . obtain⟨_,q⟩:=x a _ r;exact q
def Mut:Option HO->Prop
 | some (.lst _)=>True
 | some (.dK _)=>True
 | some (.dT _)=>True
 | some (.set _ _)=>True
 | some (.ins _ _ _)=>True
 | some (.ext _)=>True
 | some (.tabs _)=>True
 | _=>False
variable{x e:Addr}{o':HO}
theorem En.write(ok:En P w H h)(mu:Mut (H x))(he:e=x\/H e=some (.own x))(k:∀b u,b≠e->h.get? b=some u->h'.get? b=some u)(heo:∃u,h'.get? e=some u)
   (new:lu P w (upd H x o') h' x o'):En P w (upd H x o') h':=fun b u q=>by
 have as2:∀c y,H c=some (.own y)->c≠x:=fun c y r z=>by subst z;rw[r]at mu;exact mu
 have awc:∀c xs,H c=some (.tup xs)->c≠x:=fun c xs r z=>by subst z;rw[r]at mu;exact mu
 have awd:∀c q,H c=some (.cod q)->c≠x:=fun c q r z=>by subst z;rw[r]at mu;exact mu
 by_cases hb:b=x
 . subst hb;rw[bA]at q;cases q;exact new
 . rw[aA hb]at q;by_cases hbe:b=e
   . have q':H b=some (.own x):=by
       rcases he with z|z
       . exact absurd (hbe.trans z) hb
       . rw[hbe];exact z
     rw[q]at q';cases q';obtain⟨v,hv⟩:=heo;exact⟨v,by rw[hbe];exact hv⟩
   . refine(ok b u q).RJ (fun c v hc r=>k c v ?_ r) (fun c r=>by rw[aA (as2 c b r)];exact r) (fun c xs r=>by rw[aA (awc c xs r)];exact r) fun c z r=>by rw[aA (awd c z r)];exact r
     rcases hc with rfl|hc
     . exact hbe
     . rintro rfl;rcases he with z|z
       . exact as2 c b hc z
       . rw[hc]at z;cases z;exact hb rfl
abbrev _root_.BT:=List Addr
structure Un(fs ex:BT)(H H':Hp)(h h':Heap):Prop where
 keep:∀b o,h.get? b=some o->H b=none->b∉fs->b∉ex->h'.get? b=some o
 slot:∀b o,h.get? b=some o->H b=none->b∈fs->b∉ex->∃sl,h'.get? b=some {o with slots:=sl}
 free:∀b o,h.get? b=some o->H b=none->b∉ex->H' b=none
 there:∀b o,h.get? b=some o->b∉ex->∃o',h'.get? b=some o'
 RK:∀b xs,H b=some (.tup xs)->H' b=some (.tup xs)
 ni:∀b o u,H b=some (.fj o u)->H' b=some (.fj o u)
 RL:∀b ps,H b=some (.tbl ps)->∃more,H' b=some (.tbl (ps++more))
section
variable{fs ex:BT}{H1:Hp}{h1:Heap}
theorem Un.any(u:Un fs ex H H1 h h1){ob:Obj}(q:h.get? b=some ob)(n:H b=none)(hx:b∉ex):∃sl,h1.get? b=some {ob with slots:=sl}:=by
 by_cases hb:b∈fs
 . exact u.slot b ob q n hb hx
 . exact⟨ob.slots,u.keep b ob q n hb hx⟩
theorem Un.kept(k:∀b u,h.get? b=some u->h'.get? b=some u):Un fs ex H H h h':=
 ⟨fun b ob q _ _ _=>k b ob q,fun b ob q _ _ _=>⟨ob.slots,k b ob q⟩,fun _ _ _ n _=>n,fun b ob q _=>⟨ob,k b ob q⟩,fun _ _ q=>q,fun _ _ _ q=>q,fun _ ps q=>⟨#[],by rw[q];simp⟩⟩
theorem Un.refl:Un fs ex H H h h:=Un.kept fun _ _ q=>q
theorem Un.laid(k:∀b u,h.get? b=some u->h'.get? b=some u)(hp:h.objs.size<=a)(hn:H a=none):Un fs ex H (upd H a o) h h' where
 keep:=fun b u q _ _ _=>k b u q
 slot:=fun b u q _ _ _=>⟨u.slots,k b u q⟩
 free:=fun b u q n _=>by rw[aA (aCq (aCn (aB1 q) hp))];exact n
 there:=fun b u q _=>⟨u,k b u q⟩
 RK:=fun b xs q=>by rw[aA (cy q hn)];exact q
 ni:=fun b u xs q=>by rw[aA (cy q hn)];exact q
 RL:=fun b ps q=>⟨#[],by rw[aA (cy q hn),q];simp⟩
theorem Un.write(mu:Mut (H x))(he:e=x\/H e=some (.own x))(k:∀b u,b≠e->h.get? b=some u->h'.get? b=some u)(heo:∃u,h'.get? e=some u):Un fs ex H (upd H x o) h h':=by
 have hx:∀b,H b=none->b≠x:=fun b n z=>by subst z;rw[n]at mu;exact mu
 have hb:∀b,H b=none->b≠e:=fun b n z=>by
   subst z;rcases he with r|r
   . exact hx b n r
   . rw[n]at r;cases r
 have hm:∀b u,H b=some u->¬ Mut (some u)->b≠x:=fun b u q nm z=>by subst z;rw[q]at mu;exact nm mu
 refine⟨fun b u q n _ _=>k b u (hb b n) q,fun b u q n _ _=>⟨u.slots,k b u (hb b n) q⟩,fun b u q n _=>by rw[aA (hx b n)];exact n,fun b u q _=>?_,
   fun b xs q=>by rw[aA (hm b _ q fun z=>z)];exact q,fun b u xs q=>by rw[aA (hm b _ q fun z=>z)];exact q,fun b ps q=>⟨#[],by rw[aA (hm b _ q fun z=>z),q];simp⟩⟩
 by_cases hbe:b=e
 . subst hbe;exact heo
 . exact⟨u,k b u hbe q⟩
end
def trk(h:Heap)(H:Hp):BT:=(List.range h.objs.size).filter fun a=>(H a).isSome
def RM(h:Heap)(H:Hp):Heap:=PySem.W.hideAll h (trk h H)
def ad8(h:Heap)(H:Hp):(RM h H).objs.size=h.objs.size:=PySem.W.hideAll_size _ _
def ag5{o:Obj}(e:h.get? b=some o)(n:H b=none):(RM h H).get? b=some o:=
 PySem.W.hideAll_get _ e fun hm=>by
   have q:(H b).isSome=true:=(aCF.mp hm).2;rw[n]at q;simp at q
theorem alZ{o:Obj}(e:(RM h H).get? b=some o):h.get? b=some o/\H b=none:=by
 have e':h.get? b=some o:=PySem.W.of_hideAll (trk h H) e;refine⟨e',?_⟩;cases q:H b with
 | none=>rfl
 | some x=>
   have hm:b∈trk h H:=aCF.mpr ⟨aB5.mpr (aB1 e'),by simp[q]⟩;have z:(RM h H).get? b=none:=PySem.W.hideAll_none (trk h H) hm;rw[z]at e;cases e
abbrev _root_.BC:=List (Addr×Obj)
def al0(g h:Heap)(L:Addr):BC:=(List.range h.objs.size).filterMap fun a=>if a=L\/(g.get? a).isSome=true then none else(h.get? a).map fun o=>(a,o)
def rest(g h:Heap)(L d:Addr):BC:=(al0 g h L).filter fun p=>decide (p.1≠d)
abbrev _root_.B0:=Str->Option Value
structure Mod(K:Frag)(mg:B0)(base:Heap):Prop where
 kin:K.In base
 glob:base.Ns mainGlobals mg
 blt:∃mb,base.Ns builtinsNs mb/\∀x:Str,x≠"__name__"->mb x=bootBuiltins x
 nolimit:base.NoLimit
abbrev _root_.AT:=List Str
abbrev _root_.BM:=Value->Shared->Prop
abbrev _root_.Da:=List Env
structure Cx where
 prog:Program
 w:World
 K:Frag
 mg:Str->Option Value
 base:Heap
 A:Around
 N:AT
 s₀:Shared
 H₀:Hp
 env:Env
 outer:Da
 stack:Da
 ex:BT
 fn:Str->Bool
 calm:Bool
 pn:BC
 xe:Value->Shared->Prop
def frs(l:Da):BT:=l.filterMap (·.frame)
abbrev Cx.fs(X:Cx):BT:=frs X.outer
def Vis(sc:Scope)(x:Str):Prop:=sc.names.lookup x=some .local\/sc.names.lookup x=some .cell\/sc.names.lookup x=some .free
def Loc(sc:Scope)(x:Str):Prop:=sc.names.lookup x=some .local\/sc.names.lookup x=some .cell
def Look(env:Env)(h:Heap)(m:B0)(x:Str)(u:Value):Prop:=
 (env.kindOf x=some .local/\m x=some u)\/((env.kindOf x=some .cell\/env.kindOf x=some .free)/\∃c,env.cells.lookup x=some c/\h.IsCell c (some u))
structure Cx.Ok(X:Cx):Prop where
 mod:Mod X.K X.mg X.base
 kind:X.env.scope.kind=.function
 glob:X.env.globals=mainGlobals
 blt:X.env.builtins=builtinsNs
 above:X.s₀.heap.objs.size<=X.env.locals
 inj:∀x y c,X.env.cells.lookup x=some c->X.env.cells.lookup y=some c->x=y
 has:∀x,(X.env.kindOf x=some .cell\/X.env.kindOf x=some .free)->∃c,X.env.cells.lookup x=some c
 cab:∀x c,X.fn x=true->X.env.cells.lookup x=some c->X.s₀.heap.objs.size<=c
 hd:X.calm=true->X.A.handled=none
 frames:X.A.frames=some X.stack
 stk:X.stack=X.outer\/(X.stack=X.env::X.outer/\X.env.frame=some X.env.locals)
 exf:∀b∈X.ex,b≠X.env.locals/\∀x c,X.env.cells.lookup x=some c->c≠b
 bs:∀b o,X.base.get? b=some o->X.s₀.heap.get? b=some o/\X.H₀ b=none
 bsz:X.base.objs.size<=X.s₀.heap.objs.size
 ag6:∀b o,X.base.get? b=some o->b∉X.ex
 al2:∀b∈X.ex,b∉X.fs
 JX:X.s₀.heap.FunFrames X.base X.outer
 frf:∀b∈X.fs,X.H₀ b=none
structure Inv(X:Cx)(pins:BC)(σ:List (Option V))(H:Hp)(s:Shared):Prop where
 ok:X.Ok
 os:s.os=X.s₀.os
 bare:AllBare s.gens
 base:Un X.fs X.ex X.H₀ H X.s₀.heap s.heap
 loc:∃m,s.heap.Ns X.env.locals m/\∀(i:Nat) (x:Str) (v:V),X.N[i]? = some x->σ[i]? = some (some v)->Vis X.env.scope x->∃u,RelV v u/\Look X.env s.heap m x u
 cell:∀x c,X.env.cells.lookup x=some c->∃v,s.heap.IsCell c v
 free:H X.env.locals=none
 Ct:∀x c,X.env.cells.lookup x=some c->H c=none
 pin:∀p∈X.pn++pins,s.heap.get? p.1=some p.2/\H p.1=none/\p.1≠X.env.locals/\p.1∉X.fs/\∀v,p.2.data ≠ .cell v
 dI:En X.prog X.w H s.heap
 len:σ.length=X.N.length
variable{X:Cx}{pins:BC}{σ:List (Option V)}{s:Shared}
theorem Cx.Ok.awe(ok:X.Ok){o:Obj}(e:X.base.get? b=some o):b∉X.fs:=fun hb=>by
 have:=(ok.JX.mem hb).1;rw[e]at this;cases this
theorem Inv.bs(I:Q.e):∀b o,X.base.get? b=some o->s.heap.get? b=some o/\H b=none:=fun b o e=>
 ⟨I.base.keep b o (I.ok.bs b o e).1 (I.ok.bs b o e).2 (I.ok.awe e) (I.ok.ag6 b o e),I.base.free b o (I.ok.bs b o e).1 (I.ok.bs b o e).2 (I.ok.ag6 b o e)⟩
theorem Inv.bk(I:Q.e):∀b o,X.base.get? b=some o->s.heap.get? b=some o:=fun b o e=>(I.bs b o e).1
theorem Inv.mod(I:Q.e):Mod X.K X.mg X.base:=I.ok.mod
theorem Inv.QG(I:Q.e):X.K.In s.heap:=I.ok.mod.kin.keeps I.bk
theorem Inv.lt(I:Q.e):X.env.locals<s.heap.objs.size:=let ⟨_,hn,_⟩:=I.loc;hn.lt
theorem Inv.sz(I:Q.e):X.s₀.heap.objs.size<=s.heap.objs.size:=aCa I.ok.above (aCj I.lt)
theorem Inv.awf(I:Q.e)(h:s.heap.objs.size<=a):a∉X.fs:=fun hb=>by
 obtain⟨_,o,ho,_⟩:=I.ok.JX.mem hb;exact absurd (aCn (aB1 ho) (aCa I.sz h)) (aDO _)
theorem Inv.cne(I:Q.e):∀x c,X.env.cells.lookup x=some c->c≠X.env.locals:=fun x c e z=>by
 obtain⟨v,o,ho,hd⟩:=I.cell x c e;obtain⟨m,⟨o',es,ep,YC,hd',_⟩,_⟩:=I.loc;rw[z,YC]at ho;cases ho;rw[hd']at hd;cases hd
theorem Inv.JX(I:Q.e):s.heap.FunFrames X.base X.outer:=by
 have all:∀(l:Da),(∀b∈frs l,b∈X.fs)->X.s₀.heap.FunFrames X.base l->s.heap.FunFrames X.base l:=by
   intro l
   induction l with
   | nil=>intro _ _;trivial
   | cons env r ih=>
     intro hs hl;obtain⟨hk,⟨L,o,hf,hn,ho,hd⟩,hr⟩:=hl;have hL:L∈X.fs:=hs L (by unfold frs;rw[aCS,hf];exact aBr);obtain⟨sl,e⟩:=I.base.slot L o ho (I.ok.frf L hL) hL fun z=>I.ok.al2 L z hL;exact⟨hk,⟨L,_,hf,hn,e,hd⟩,ih (fun b hb=>hs b (by unfold frs;rw[aCS,hf];exact aBt _ hb)) hr⟩
 exact all X.outer (fun _ hb=>hb) I.ok.JX
theorem Inv.stack(I:Q.e):s.heap.FunFrames X.base X.stack:=by
 rcases I.ok.stk with e|⟨e,hf⟩
 . rw[e];exact I.JX
 . rw[e];obtain⟨m,hn,_⟩:=I.loc;refine .cons (by rw[I.ok.kind];decide) hf hn ?_ I.JX;exact Heap.get?_none_of_le (aCa I.ok.bsz I.ok.above)
theorem Inv.RN(I:Q.e):∀b∈frs X.stack,b∈X.env.locals::X.fs:=fun b hb=>by
 rcases I.ok.stk with e|⟨e,hf⟩
 . rw[e]at hb;exact aBt _ hb
 . rw[e]at hb;unfold frs at hb;rw[aCS,hf]at hb;exact hb
theorem Inv.acm(I:Q.e):∀b∈frs X.stack,H b=none:=fun b hb=>by
 rcases aBq.mp (I.RN b hb) with e|hb
 . rw[e];exact I.free
 . obtain⟨_,o,ho,_⟩:=I.ok.JX.mem hb;exact I.base.free b o ho (I.ok.frf b hb) fun z=>I.ok.al2 b z hb
variable{t':Nat}
theorem Inv.step{g':Array GenState}{d':Drawn}{ch:BT}(I:Q.e)
   (hch:∀b∈ch,(b∈X.ex\/X.s₀.heap.objs.size<=b)/\b≠X.env.locals/\(∀x c,X.env.cells.lookup x=some c->c≠b)/\∀p∈X.pn++pins,p.1≠b)
   (keep:∀b o,b≠X.env.locals->b∉X.fs->b∉ch->s.heap.get? b=some o->H b=none->h'.get? b=some o)
   (slot:∀b o,b≠X.env.locals->b∈X.fs->b∉ch->s.heap.get? b=some o->H b=none->∃sl,h'.get? b=some {o with slots:=sl}) (free:∀b o,b∉ch->s.heap.get? b=some o->H b=none->H' b=none)
   (there:∀b o,b∉ch->s.heap.get? b=some o->∃o',h'.get? b=some o')
   (RK:∀b xs,H b=some (.tup xs)->H' b=some (.tup xs)) (ni:∀b o u,H b=some (.fj o u)->H' b=some (.fj o u)) (RL:∀b ps,H b=some (.tbl ps)->∃more,H' b=some (.tbl (ps++more)))
   (ns:∀m,s.heap.Ns X.env.locals m->h'.Ns X.env.locals m) (dI:En X.prog X.w H' h') (hg:AllBare g') :
   Inv X pins σ H' {s with heap:=h',gens:=g',drawn:=d',toks:=t'}:=by
 have neL:∀b o,X.s₀.heap.get? b=some o->b≠X.env.locals:=fun b o e=>aCq (aCn (aB1 e) I.ok.above);have neC:∀b o,X.s₀.heap.get? b=some o->b∉X.ex->b∉ch:=fun b o e hx hb=>by
   rcases(hch b hb).1 with z|z
   . exact hx z
   . exact absurd (aCn (aB1 e) z) (aDO _)
 have cellK:∀x c,X.env.cells.lookup x=some c->∀v,s.heap.IsCell c v->h'.IsCell c v:=fun x c e v ⟨o,ho,hd⟩=>by
   have nch:c∉ch:=fun z=>(hch c z).2.2.1 x c e rfl;by_cases hc:c∈X.fs
   . obtain⟨sl,q⟩:=slot c o (I.cne x c e) hc nch ho (I.Ct x c e);exact⟨_,q,hd⟩
   . exact⟨o,keep c o (I.cne x c e) hc nch ho (I.Ct x c e),hd⟩
 refine⟨I.ok,I.os,hg,⟨fun b o e n hb hx=>?_,fun b o e n hb hx=>?_,fun b o e n hx=>?_,fun b o e hx=>?_,fun b xs e=>RK b xs (I.base.RK b xs e),fun b o xs e=>ni b o xs (I.base.ni b o xs e),fun b ps e=>?_⟩,?_,fun x c e=>?_,?_,fun x c e=>?_,fun p hp=>?_,dI,I.len⟩
 . exact keep b o (neL b o e) hb (neC b o e hx) (I.base.keep b o e n hb hx) (I.base.free b o e n hx)
 . obtain⟨sl,e1⟩:=I.base.slot b o e n hb hx;obtain⟨sl',e2⟩:=slot b _ (neL b o e) hb (neC b o e hx) e1 (I.base.free b o e n hx);exact⟨sl',e2⟩
 . obtain⟨o',e1⟩:=I.base.there b o e hx;exact free b o' (neC b o e hx) e1 (I.base.free b o e n hx)
 . obtain⟨o',e1⟩:=I.base.there b o e hx;exact there b o' (neC b o e hx) e1
 . obtain⟨m1,e1⟩:=I.base.RL b ps e;obtain⟨m2,e2⟩:=RL b _ e1;exact⟨m1++m2,by rw[e2,Array.append_assoc]⟩
 . obtain⟨m,hn,hl⟩:=I.loc;refine⟨m,ns m hn,fun i x v e1 e2 e3=>?_⟩;obtain⟨u,r,l⟩:=hl i x v e1 e2 e3;refine⟨u,r,?_⟩;rcases l with l|⟨k,c,e,z⟩
   . exact .inl l
   . exact .inr ⟨k,c,e,cellK x c e _ z⟩
 . obtain⟨v,z⟩:=I.cell x c e;exact⟨v,cellK x c e v z⟩
 . obtain⟨m,⟨o,_,_,ho,_⟩,_⟩:=I.loc;exact free _ o (fun z=>(hch _ z).2.1 rfl) ho I.free
 . obtain⟨v,o,ho,hd⟩:=I.cell x c e;exact free c o (fun z=>(hch c z).2.2.1 x c e rfl) ho (I.Ct x c e)
 . obtain⟨e,n,ne,nf,d⟩:=I.pin p hp;have nch:p.1∉ch:=fun z=>(hch p.1 z).2.2.2 p hp rfl;exact⟨keep p.1 p.2 ne nf nch e n,free p.1 p.2 nch e n,ne,nf,d⟩
theorem Inv.un(I:Q.e)(u:Un X.fs [] H H' s.heap h')(dI:En X.prog X.w H' h'):Inv X pins σ H' {s with heap:=h',toks:=t'}:=by
 obtain⟨m,⟨o,es,ep,ho,r⟩,_⟩:=id I.loc;obtain⟨sl,hL⟩:=u.any ho I.free Uf;exact I.step (g':=s.gens) (d':=s.drawn) (ch:=[]) (fun _ z=>nomatch z) (fun b o _ hb _ e n=>u.keep b o e n hb Uf) (fun b o _ hb _ e n=>u.slot b o e n hb Uf) (fun b o _ e n=>u.free b o e n Uf) (fun b o _ e=>u.there b o e Uf) u.RK u.ni u.RL (fun m' hm=>by
   obtain⟨o',es',ep',YC,r'⟩:=hm;rw[ho]at YC;cases YC;exact⟨_,es',ep',hL,r'⟩) dI I.bare
theorem Inv.call{g':Array GenState}{d':Drawn}{ch:BT}(I:Q.e)(u:Un (frs X.stack) ch H H' s.heap h')(dI:En X.prog X.w H' h')(hg:AllBare g')
   (hch:∀b∈ch,(b∈X.ex\/X.s₀.heap.objs.size<=b)/\b≠X.env.locals/\(∀x c,X.env.cells.lookup x=some c->c≠b)/\∀p∈X.pn++pins,p.1≠b) :
   Inv X pins σ H' {s with heap:=h',gens:=g',drawn:=d',toks:=t'}:=by
 obtain⟨m,⟨o,es,ep,ho,r⟩,_⟩:=id I.loc;obtain⟨sl,hL⟩:=u.any ho I.free fun z=>(hch _ z).2.1 rfl;exact I.step (ch:=ch) hch (fun b o hL hb hc e n=>u.keep b o e n (fun z=>(aBq.mp (I.RN b z)).elim hL hb) hc) (fun b o _ _ hc e n=>u.any e n hc) (fun b o hc e n=>u.free b o e n hc) (fun b o hc e=>u.there b o e hc) u.RK u.ni u.RL (fun m' hm=>by
   obtain⟨o',es',ep',YC,r'⟩:=hm;rw[ho]at YC;cases YC;exact⟨_,es',ep',hL,r'⟩) dI hg
theorem Inv.turned{it:Addr}(I:Q.e)(k:∀b o,b≠it->s.heap.get? b=some o->h'.get? b=some o)(hn:H it=none)(hL:it≠X.env.locals)
   (h1:it∈X.ex\/X.s₀.heap.objs.size<=it) (h2:∀x c,X.env.cells.lookup x=some c->c≠it) (h3:∀p∈X.pn++pins,p.1≠it):Inv X pins σ H {s with heap:=h',toks:=t'}:=by
 have nit:∀b u,H b=some u->b≠it:=fun b u e z=>by rw[z,hn]at e;cases e
 refine I.step (g':=s.gens) (d':=s.drawn) (ch:=[it]) (fun b hb=>?_) (fun b o _ _ hc e _=>k b o (fun z=>hc (by simp[z])) e) (fun b o _ _ hc e _=>⟨o.slots,k b o (fun z=>hc (by simp[z])) e⟩) (fun _ _ _ _ n=>n)
   (fun b o hc e=>⟨o,k b o (fun z=>hc (by simp[z])) e⟩) (fun _ _ e=>e) (fun _ _ _ e=>e) (fun b ps e=>⟨#[],by rw[e];simp⟩) (fun m hm=>?_) (fun b u e=>?_) I.bare
 . have e:b=it:=by simpa using hb
   subst e;exact⟨h1,hL,h2,h3⟩
 . obtain⟨o,es,ep,ho,r⟩:=hm;exact⟨o,es,ep,k _ o (aC0 hL) ho,r⟩
 . refine(I.dI b u e).RJ (fun c v hc q=>k c v ?_ q) (fun _ q=>q) fun _ _ q=>q;rcases hc with z|z
   . rw[z];exact nit b u e
   . exact nit c _ z
theorem Inv.tok(I:Q.e)(t:Nat):Inv X pins σ H {s with toks:=t}:=I.un (h':=s.heap) (t':=t) Un.refl I.dI
theorem Inv.kept(I:Q.e)(k:∀b u,s.heap.get? b=some u->h'.get? b=some u):Inv X pins σ H {s with heap:=h',toks:=t'}:=I.un (Un.kept k) (I.dI.kept k)
theorem Inv.laid(I:Q.e)(k:∀b u,s.heap.get? b=some u->h'.get? b=some u)(hp:s.heap.objs.size<=a)(new:lu X.prog X.w (upd H a o) h' a o) :
   Inv X pins σ (upd H a o) {s with heap:=h',toks:=t'}:=I.un (Un.laid k hp (I.dI.fresh hp)) (I.dI.laid k hp new)
theorem Inv.write(I:Q.e)(mu:Mut (H x))(he:e=x\/H e=some (.own x))(k:∀b u,b≠e->s.heap.get? b=some u->h'.get? b=some u)(heo:∃u,h'.get? e=some u)
   (new:lu X.prog X.w (upd H x o) h' x o):Inv X pins σ (upd H x o) {s with heap:=h',toks:=t'}:=I.un (Un.write mu he k heo) (I.dI.write mu he k heo new)
theorem Inv.Lf{acn:BC}(I:Q.e)(h:∀p∈acn,s.heap.get? p.1=some p.2/\H p.1=none/\p.1≠X.env.locals/\p.1∉X.fs/\∀v,p.2.data ≠ .cell v):Inv X acn σ H s:=
 ⟨I.ok,I.os,I.bare,I.base,I.loc,I.cell,I.free,I.Ct,fun p hp=>(aBy.mp hp).elim (fun z=>I.pin p (aBN _ z)) (h p),I.dI,I.len⟩
variable{i:Nat}
def U8{N:AT}(hN:N.Nodup){j:Nat}{x:Str}(a:N[i]? = some x)(b:N[j]? = some x):i=j:=by
 obtain⟨h1,e1⟩:=aB4.mp a;obtain⟨h2,e2⟩:=aB4.mp b;exact(List.getElem_inj hN).mp (e1.trans e2.symm)
variable{M:Model}{A:Around}{E:BM}{v:V}{u:Value}{Q:Unit->Shared->Prop}
abbrev _root_.AB(X:Cx)(p:Pos)(e:Expr):Prop:=((backTo p (starEach [e] X.env)).all (fun x=>!x.1)&&(backToKw p (keywordEach [] X.env)).all (fun x=>x.1.isSome)&&decide ([e].length+([]:List Keyword).length+(if ([]:List Keyword).isEmpty then 0 else 1)<30))=true
abbrev _root_.CA:=List Expr
abbrev _root_.AC(X:Cx)(e:Expr)(es:CA):Prop:=starEach (e::es) X.env=(false,eval e X.env)::starEach es X.env
abbrev _root_.AD(x:Str):Prop:=(x==("__debug__":Str))=false
abbrev _root_.AE(x:Str):Prop:=(x==("__classdict__":Str))=false
abbrev _root_.AL(X:Cx)(p:Pos)(es:CA):Prop:=(backTo p (starEach es X.env)).any (·.1)=false
abbrev _root_.AM(X:Cx)(y:Str):Prop:=X.fn y=true\/X.env.scope.names.lookup y=some .local
abbrev _root_.AN(X:Cx)(e:Expr):Prop:=∀x,foldedSetIterable e X.env x=pure x
abbrev _root_.AR(X:Cx)(e d:Expr):Prop:=starEach [e,d] X.env=[(false,eval e X.env),(false,eval d X.env)]
abbrev _root_.AS(X:Cx)(e:Expr)(f:Str):Prop:=attributeBase e f X.env (eval e X.env)=eval e X.env
def ad9{x:Str}(I:Q.e)(hN:X.N.Nodup)(hi:X.N[i]? = some x)(hx:Loc X.env.scope x)(r:RelV v u)
   (h:∀s',Inv X pins (σ.set i (some v)) H s'->(∃a,Heap.SameBut a s.heap s'.heap/\(a=X.env.locals\/X.env.cells.lookup x=some a))->Q () s') (hf:AM X x:=by first|exact .inl rfl|exact .inr rfl|assumption):wpAny M A (storeName X.env x u) Q E s:=by
 obtain⟨m,hn,hl⟩:=id I.loc;have awh:(X.env.scope.kind == .class || (X.env.scope.kind == .module&&X.env.locals != X.env.globals))=false:=by rw[I.ok.kind];rfl
 have hiσ:i<σ.length:=by rw[I.len];exact(aB4.mp hi).1
 have cne:=I.cne;have tracked:∀{a:Addr} {h':Heap},(∃o,s.heap.get? a=some o/\H a=none)->Heap.SameBut a s.heap h'->En X.prog X.w H h':=fun {a h'} ha hs b ob e=>by
   obtain⟨_,_,aoH⟩:=ha;refine(I.dI b ob e).RJ (fun c w' hc q=>(hs.2 c ?_).trans q) (fun _ q=>q) fun _ _ q=>q;rintro rfl;rcases hc with rfl|hc
   . rw[aoH]at e;cases e
   . rw[aoH]at hc;cases hc
 rcases hx with hk|hk
 . refine wpAny_storeName_local hk hn (fun h' hn' hs=>?_) awh;obtain⟨oL,_,_,hoL,_⟩:=id hn;refine h _ ⟨I.ok,I.os,I.bare,⟨fun b o e n hb hx=>?_,fun b o e n hb hx=>?_,I.base.free,fun b o e hx=>?_,I.base.RK,I.base.ni,I.base.RL⟩,⟨_,hn',fun j y v' e1 e2 e3=>?_⟩,fun y c e=>?_,I.free,I.Ct,fun p hp=>?_,tracked ⟨oL,hoL,I.free⟩ hs,by simpa using I.len⟩ ⟨_,hs,.inl rfl⟩
   . exact(hs.2 b (aCq (aCn (aB1 e) I.ok.above))).trans (I.base.keep b o e n hb hx)
   . obtain⟨sl,e1⟩:=I.base.slot b o e n hb hx;exact⟨sl,(hs.2 b (aCq (aCn (aB1 e) I.ok.above))).trans e1⟩
   . obtain⟨o',e1⟩:=I.base.there b o e hx;exact⟨o',(hs.2 b (aCq (aCn (aB1 e) I.ok.above))).trans e1⟩
   . by_cases hj:j=i
     . subst hj;rw[hi]at e1;cases e1;rw[List.getElem?_set_self hiσ]at e2;cases e2;exact⟨u,r,.inl ⟨hk,Uf⟩⟩
     . rw[List.getElem?_set_ne (aC0 hj)]at e2;obtain⟨u',r',q⟩:=hl j y v' e1 e2 e3;refine⟨u',r',?_⟩;rcases q with⟨k,e⟩|⟨k,c,e,z⟩
       . refine .inl ⟨k,?_⟩;have:y≠x:=fun e=>hj (U8 hN e1 (e▸hi));simp[this,e]
       . exact .inr ⟨k,c,e,z.sameBut hs (cne y c e)⟩
   . obtain⟨w',z⟩:=I.cell y c e;exact⟨w',z.sameBut hs (cne y c e)⟩
   . obtain⟨e,n,ne,nf,d⟩:=I.pin p hp;exact⟨(hs.2 p.1 ne).trans e,n,ne,nf,d⟩
 . have hfn:X.fn x=true:=by
     rcases hf with z|z
     . exact z
     . rw[z]at hk;cases hk
   obtain⟨c,hc⟩:=I.ok.has x (.inl hk);obtain⟨w',z⟩:=I.cell x c hc;refine wpAny_storeName_cell I.ok.kind hk hc z (fun h' hc' hs=>?_);obtain⟨oc,hoc,awj⟩:=id z;refine h {s with heap:=h'} ⟨I.ok,I.os,I.bare,⟨fun b o e n hb hx=>?_,fun b o e n hb hx=>?_,I.base.free,fun b o e hx=>?_,I.base.RK,I.base.ni,I.base.RL⟩,⟨m,hn.sameBut hs (Ne.symm (cne x c hc)),fun j y v' e1 e2 e3=>?_⟩,fun y c' e=>?_,I.free,I.Ct,fun p hp=>?_,tracked ⟨oc,hoc,I.Ct x c hc⟩ hs,by simpa using I.len⟩ ⟨c,hs,.inr hc⟩
   . exact(hs.2 b (aCq (aCn (aB1 e) (I.ok.cab x c hfn hc)))).trans (I.base.keep b o e n hb hx)
   . obtain⟨sl,e1⟩:=I.base.slot b o e n hb hx;exact⟨sl,(hs.2 b (aCq (aCn (aB1 e) (I.ok.cab x c hfn hc)))).trans e1⟩
   . obtain⟨o',e1⟩:=I.base.there b o e hx;exact⟨o',(hs.2 b (aCq (aCn (aB1 e) (I.ok.cab x c hfn hc)))).trans e1⟩
   . by_cases hj:j=i
     . subst hj;rw[hi]at e1;cases e1;rw[List.getElem?_set_self hiσ]at e2;cases e2;exact⟨u,r,.inr ⟨.inl hk,c,hc,hc'⟩⟩
     . rw[List.getElem?_set_ne (aC0 hj)]at e2;obtain⟨u',r',q⟩:=hl j y v' e1 e2 e3;refine⟨u',r',?_⟩;rcases q with q|⟨k,c',e,z'⟩
       . exact .inl q
       . refine .inr ⟨k,c',e,z'.sameBut hs ?_⟩;rintro rfl;exact hj (U8 hN e1 (I.ok.inj _ _ _ e hc▸hi))
   . by_cases hcc:c'=c
     . subst hcc;exact⟨_,hc'⟩
     . obtain⟨w2,z2⟩:=I.cell y c' e;exact⟨w2,z2.sameBut hs hcc⟩
   . obtain⟨e,n,ne,nf,d⟩:=I.pin p hp;refine⟨(hs.2 p.1 ?_).trans e,n,ne,nf,d⟩;intro q;rw[q,hoc]at e;have q':oc=p.2:=aBX e;exact d w' (by rw[← q'];exact awj)
def L4{x:Str}(I:Q.e)(hN:X.N.Nodup)(hi:X.N[i]? = some x)(hx:Loc X.env.scope x)(r:RelV v u)
   (h:∀s',Inv X pins (σ.set i (some v)) H s'->Q () s') (hf:AM X x:=by first|exact .inl rfl|exact .inr rfl|assumption):wpAny M A (storeName X.env x u) Q E s:=
 ad9 I hN hi hx r (fun s' I' _=>h s' I') hf
abbrev _root_.Cs:=Option Addr
abbrev XK:=Value->Cs->Hp->Prop
abbrev St:=List (Option V)
abbrev VK:=V->Hp->Prop
abbrev TE:=St->Hp->VK->Prop
abbrev _root_.Do:=Bool->Hp->Prop
abbrev TT:=St->Hp->Do->Prop
abbrev TA:=St->Hp->(BS->Hp->Prop)->Prop
structure Ends where
 nx:St->Hp->Prop
 rt:VK
 bk:St->Hp->Prop:=fun _ _=>False
 ct:St->Hp->Prop:=fun _ _=>False
abbrev TS:=Ends->St->Hp->Prop
def EP(X:Cx)(pins:BC)(σ:St)(Q:VK)(u:Value)(s':Shared):Prop:=∃v H',Inv X pins σ H' s'/\RelV v u/\Q v H'
def TP(X:Cx)(pins:BC)(σ:St)(Q:Do)(b:Bool)(s':Shared):Prop:=∃H',Inv X pins σ H' s'/\Q b H'
def AP(X:Cx)(pins:BC)(σ:St)(Q:BS->Hp->Prop)(us:BY)(s':Shared):Prop:=∃vs H',Inv X pins σ H' s'/\Vals vs us/\Q vs H'
def SP(X:Cx)(pins:BC)(D:Ends)(f:Flow)(s':Shared):Prop:=
 match f with
 | .next=>∃σ' H',Inv X pins σ' H' s'/\D.nx σ' H'
 | .brk=>∃σ' H',Inv X pins σ' H' s'/\D.bk σ' H'
 | .cont=>∃σ' H',Inv X pins σ' H' s'/\D.ct σ' H'
 | .ret u=>∃v σ' H',Inv X pins σ' H' s'/\RelV v u/\D.rt v H'
def PE(X:Cx)(e:Expr)(t:TE):Prop:=
 ∀(pins:BC) (s:Shared) (σ:St) (H:Hp) (Q:VK),Inv X pins σ H s->t σ H Q->wpAny Q.d X.A (eval e X.env) (EP X pins σ Q) X.xe s
def PT(X:Cx)(e:Expr)(t:TT):Prop:=
 ∀(pins:BC) (s:Shared) (σ:St) (H:Hp) (Q:Do),Inv X pins σ H s->t σ H Q->wpAny Q.d X.A (isTrue e X.env (eval e X.env)) (TP X pins σ Q) X.xe s
def PW(X:Cx)(e:Expr)(t:TT):Prop:=
 ∀(whole:Sem Value) (pins:BC) (s:Shared) (σ:St) (H:Hp) (Q:Do),Inv X pins σ H s->t σ H Q->wpAny Q.d X.A (isTrue e X.env whole) (TP X pins σ Q) X.xe s
def PA(X:Cx)(es:CA)(t:TA):Prop:=
 ∀(pos:Pos) (pins:BC) (s:Shared) (σ:St) (H:Hp) (Q:BS->Hp->Prop),Inv X pins σ H s->t σ H Q->wpAny Q.d X.A (spliced (backTo pos (starEach es X.env))) (AP X pins σ Q) X.xe s
def PS(X:Cx)(st:Stmt)(t:TS):Prop:=
 ∀(pins:BC) (s:Shared) (σ:St) (H:Hp) (D:Ends),Inv X pins σ H s->t D σ H->wpAny Q.d X.A (exec st X.env) (SP X pins D) X.xe s
abbrev _root_.Cl:=List Stmt
def PSs(X:Cx)(st:Cl)(t:TS):Prop:=
 ∀(pins:BC) (s:Shared) (σ:St) (H:Hp) (D:Ends),Inv X pins σ H s->t D σ H->wpAny Q.d X.A (execs st X.env) (SP X pins D) X.xe s
def eZ{α:Type}{t:Sem α}{Q Q':α->Shared->Prop}(h:wpAny M A t Q E s)(hQ:∀a s,Q a s->Q' a s):wpAny M A t Q' E s:=aC5 h hQ fun _ _ x=>x
section
def awk(i:Nat):TE:=fun σ H Q=>∃v,σ[i]? = some (some v)/\Q v H
def tC(v:V):TE:=fun _ H Q=>Q v H
def qI{x:Str}{pos:Pos}(hN:X.N[i]? = some x)(hv:Vis X.env.scope x)(hd:AD x:=by decide)(uG:AE x:=by decide):PE X (.Name x pos) (awk i):=by
 intro pins s σ H Q I h;obtain⟨v,e,h⟩:=h;obtain⟨m,hn,hl⟩:=I.loc;obtain⟨u,r,l⟩:=hl i x v hN e hv;have fin:EP X pins σ Q u s:=⟨v,H,I,r,h⟩;rcases l with⟨hk,hm⟩|⟨hk,c,hc,Ja⟩
 . exact wpAny_Name (wpAny_loadName_local I.ok.kind hk hn hm fin) hd
 . rcases hk with hk|hk
   . exact wpAny_Name (wpAny_loadName_cell I.ok.kind hk hc Ja fin) hd
   . exact wpAny_Name (wpAny_loadName_free I.ok.kind hk hc Ja fin uG) hd
def ap1{i j pos}:PE X (.Constant (.int i) j pos) (tC (.int i)):=fun _ _ _ H _ I h=>wpAny_Constant_int ⟨.int i,H,I.tok _,⟨_,rfl⟩,h⟩
def as7{b j pos}:PE X (.Constant (.bool b) j pos) (tC (.bl b)):=fun _ _ _ H _ I h=>Constant_bool ⟨.bl b,H,I,rfl,h⟩
def ap2{x j pos}:PE X (.Constant (.str x) j pos) (tC (.str x)):=fun _ _ _ H _ I h=>Calls.Constant_str ⟨.str x,H,I.tok _,⟨_,rfl⟩,h⟩
def Gl(X:Cx)(x:Str):Prop:=X.env.kindOf x=some .globalImplicit
def Bw{σ:St}{x:Str}{pos:Pos}{Q:BM}(I:Q.e)(hg:Gl X x)(hm:X.mg x=some u)(h:Q u s)
   (hd:AD x:=by decide):wpAny Q.d X.A (eval (.Name x pos) X.env) Q E s:=
 Calls.Name_function_global I.ok.kind hg (Calls.loadGlobal_global (by rw[I.ok.glob];exact I.mod.glob.keeps I.bk) hm h) hd
def zN{σ:St}{x:Str}{pos:Pos}{Q:BM}(I:Q.e)(hg:Gl X x)(hm:X.mg x=none)(hv:bootBuiltins x=some u)(h:Q u s)
   (hn:x≠"__name__":=by decide) (hd:AD x:=by decide):wpAny Q.d X.A (eval (.Name x pos) X.env) Q E s:=by
 obtain⟨mb,h1,h2⟩:=I.mod.blt;exact Calls.Name_function_global I.ok.kind hg (Calls.loadGlobal_builtin (by rw[I.ok.glob];exact I.mod.glob.keeps I.bk) hm (by rw[I.ok.blt];exact h1.keeps I.bk) ((h2 x hn).trans hv) h) hd
def RP{x:Str}{pos:Pos}(hg:Gl X x)(hm:X.mg x=some u)(r:RelV v u)(hd:AD x:=by decide):PE X (.Name x pos) (tC v):=
 fun _ _ _ H _ I h=>Bw I hg hm ⟨v,H,I,r,h⟩ hd
def al3{x:Str}{pos:Pos}(hg:Gl X x)(hm:X.mg x=none)(hv:bootBuiltins x=some u)(r:RelV v u)(hn:x≠"__name__":=by decide)(hd:AD x:=by decide):PE X (.Name x pos) (tC v):=
 fun _ _ _ H _ I h=>zN I hg hm hv ⟨v,H,I,r,h⟩ hn hd
variable{a b:Expr}{ta tb:TE}{pos:Pos}
def PC(X:Cx)(op:CmpOp)(a b:Expr)(t:TE):Prop:=
 ∀(pins:BC) (s:Shared) (σ:St) (H:Hp) (Q:VK),Inv X pins σ H s->t σ H Q →
   wpAny Q.d X.A (eval a X.env) (fun v s₁=>wpAny Q.d X.A (eval b X.env) (fun u s₂=>wpAny Q.d X.A (compareOp op v u) (EP X pins σ Q) X.xe s₂) X.xe s₁) X.xe s
def U9(b:Expr){op:CmpOp}(h:op ≠ .In)(h2:op ≠ .NotIn):behindInMarks op b=false:=by
 have e1:(op==CmpOp.In)=false:=by cases op<;>first|rfl|exact absurd rfl h
 have e2:(op==CmpOp.NotIn)=false:=by cases op<;>first|rfl|exact absurd rfl h2
 cases b<;>simp[behindInMarks,e1,e2]
def tB(t:TE):TT:=fun σ H Q=>t σ H fun x H1=>∃c,x=.bl c/\Q c H1
def ap3{op:CmpOp}{t:TE}(h:PC X op a b t)(h1:behindInMarks op b=false:=by first|exact U9 _ Q.c Q.c|rfl):PE X (.Compare a [op] [b] pos) t:=fun pins s σ H Q I hw=>wpAny_Compare1 (h pins s σ H Q I hw) h1
def ag7{op:CmpOp}{t:TE}(h:PC X op a b t)(h1:behindInMarks op b=false:=by first|exact U9 _ Q.c Q.c|rfl):PT X (.Compare a [op] [b] pos) (tB t):=by
 intro pins s σ H Q I hw;refine wpAny_isTrue_Compare1 (eZ (h pins s σ H _ I hw) fun v s1 h1=>eZ h1 fun u s2 h2=>eZ h2 fun c s3 zz=>?_) h1;obtain⟨x,H1,I1,r1,q1⟩:=zz;obtain⟨d,rfl,q⟩:=q1;cases r1;exact aCK ⟨H1,I1,q⟩
def ap4{e:Expr}{t:TE}(h:PE X e t)(he:∀whole,isTrue e X.env whole=(do let v ← whole;standAt e.pos;holding [v] (truthy v)):=by intro _;rfl):PT X e (tB t):=by
 intro pins s σ H Q I hw;refine isTrue_plain (eZ (h pins s σ H _ I hw) fun v s1 zz=>?_) (he _);obtain⟨x,H1,I1,r1,q1⟩:=zz;obtain⟨d,rfl,q⟩:=q1;cases r1;exact aCK ⟨H1,I1,q⟩
variable{tA tB':TT}{rest:CA}
def awl(t u:TT):TT:=fun σ H Q=>t σ H fun c H1=>if c=true then u σ H1 Q else Q false H1
def tOr(t u:TT):TT:=fun σ H Q=>t σ H fun c H1=>if c=true then Q true H1 else u σ H1 Q
def awm(t:TT):TT:=fun σ H Q=>t σ H fun c H1=>Q (!c) H1
theorem al4(ha:PT X a tA):PW X (.BoolOp .And [a] pos) tA:=by
 intro wh pins s σ H Q I h;refine isTrue_and (eZ (ha pins s σ H Q I h) fun c s1 e=>?_);cases c with
 | true=>exact isTrue_and_nil e
 | false=>exact e
theorem ap5(ha:PT X a tA):PW X (.BoolOp .Or [a] pos) tA:=by
 intro wh pins s σ H Q I h;refine isTrue_or (eZ (ha pins s σ H Q I h) fun c s1 e=>?_);cases c with
 | false=>exact isTrue_or_nil e
 | true=>exact e
theorem ap6(ha:PT X a tA)(hb:PW X (.BoolOp .And (b::rest) pos) tB'):PW X (.BoolOp .And (a::b::rest) pos) (awl tA tB'):=by
 intro wh pins s σ H Q I h;refine isTrue_and (eZ (ha pins s σ H _ I h) fun c s1 zz=>?_);obtain⟨H1,I1,q1⟩:=zz;cases c with
 | true=>exact hb wh pins s1 σ H1 Q I1 q1
 | false=>exact⟨H1,I1,q1⟩
theorem as8(ha:PT X a tA)(hb:PW X (.BoolOp .Or (b::rest) pos) tB'):PW X (.BoolOp .Or (a::b::rest) pos) (tOr tA tB'):=by
 intro wh pins s σ H Q I h;refine isTrue_or (eZ (ha pins s σ H _ I h) fun c s1 zz=>?_);obtain⟨H1,I1,q1⟩:=zz;cases c with
 | true=>exact⟨H1,I1,q1⟩
 | false=>exact hb wh pins s1 σ H1 Q I1 q1
def ap7(ha:PT X a tA):PT X (.UnaryOp .Not a pos) (awm tA):=by
 intro pins s σ H Q I h;exact isTrue_not (ha pins s σ H (fun c H1=>Q (!c) H1) I h)
def as9(ta tb:TE):TE:=fun σ H Q=>ta σ H fun x H1=>∃c,x=.bl c/\if c=true then tb σ H1 Q else Q (.bl false) H1
def awn(ta tb:TE):TE:=fun σ H Q=>ta σ H fun x H1=>∃c,x=.bl c/\if c=true then Q (.bl true) H1 else tb σ H1 Q
def ata(ta:TE):TE:=fun σ H Q=>ta σ H fun x H1=>∃c,x=.bl c/\Q (.bl (!c)) H1
def ap8{op}{t:TE}(h:PE X a t):PE X (.BoolOp op [a] pos) t:=fun pins s σ H Q I hw=>BoolOp_one (h pins s σ H Q I hw)
theorem ap9(ha:PE X a ta)(hb:PE X (.BoolOp .And (b::rest) pos) tb):PE X (.BoolOp .And (a::b::rest) pos) (as9 ta tb):=by
 intro pins s σ H Q I h;refine BoolOp_and (eZ (ha pins s σ H _ I h) fun v s1 zz=>?_);obtain⟨x,H1,I1,r1,q1⟩:=zz;obtain⟨c,rfl,q1⟩:=q1;cases r1;refine aCK ?_;cases c with
 | true=>exact hb pins s1 σ H1 Q I1 q1
 | false=>exact⟨.bl false,H1,I1,rfl,q1⟩
theorem atb(ha:PE X a ta)(hb:PE X (.BoolOp .Or (b::rest) pos) tb):PE X (.BoolOp .Or (a::b::rest) pos) (awn ta tb):=by
 intro pins s σ H Q I h;refine BoolOp_or (eZ (ha pins s σ H _ I h) fun v s1 zz=>?_);obtain⟨x,H1,I1,r1,q1⟩:=zz;obtain⟨c,rfl,q1⟩:=q1;cases r1;refine aCK ?_;cases c with
 | false=>exact hb pins s1 σ H1 Q I1 q1
 | true=>exact⟨.bl true,H1,I1,rfl,q1⟩
def aqa(ha:PE X a ta):PE X (.UnaryOp .Not a pos) (ata ta):=by
 intro pins s σ H Q I h;refine UnaryOp_ (eZ (ha pins s σ H _ I h) fun v s1 zz=>?_);obtain⟨x,H1,I1,r1,q1⟩:=zz;obtain⟨c,rfl,q1⟩:=q1;cases r1;exact not_of (aCK ⟨.bl (!c),H1,I1,rfl,q1⟩)
def tIf(t:TT)(ta tb:TE):TE:=fun σ H Q=>t σ H fun c H1=>if c=true then ta σ H1 Q else tb σ H1 Q
theorem ag8{c:Expr}(hc:PT X c tA)(ha:PE X a ta)(hb:PE X b tb):PE X (.IfExp c a b pos) (tIf tA ta tb):=by
 intro pins s σ H Q I h;refine wpAny_IfExp (eZ (hc pins s σ H _ I h) fun d s1 zz=>?_);obtain⟨H1,I1,q1⟩:=zz;cases d with
 | true=>exact ha pins s1 σ H1 Q I1 q1
 | false=>exact hb pins s1 σ H1 Q I1 q1
end
def sX(K:Frag)(H:Hp)(a:Addr)(xs:BS):Prop:=
 Rd H a (.lst xs) ∨
   ∃(o:Obj) (its:DA) (n:Nat),K.lookup a=some o/\o.cls=.type "list" /\ o.dict=none/\o.data=.seq its n/\its.size<=sizeLine/\Vals xs its.toList
def xJ(K:Frag)(H:Hp)(a:Addr)(xs:BS):Prop:=
 Rd H a (.tup xs) ∨
   ∃(o:Obj) (its:DA) (n:Nat),K.lookup a=some o/\o.cls=.type "tuple" /\ o.data=.seq its n/\its.size<=sizeLine/\Vals xs its.toList
def awo:Value->Option V
 | .none=>some .non
 | .bool b=>some (.bl b)
 | .int i _=>some (.int i)
 | .str x _ => some (.str x)
 | .bytes b _=>some (.byt b)
 | .float b _=>some (.flt b)
 | .ref a=>some (.ref a)
 | .type n=>some (.ty n)
 | _=>none
theorem RelV.abs{x:V}(r:RelV x u):awo u=some x:=by
 cases x with
 | non=>cases r;rfl
 | bl _=>cases r;rfl
 | int _=>obtain⟨t,rfl⟩:=r;rfl
 | str _=>obtain⟨t,rfl⟩:=r;rfl
 | byt _=>obtain⟨t,rfl⟩:=r;rfl
 | flt _=>obtain⟨t,rfl⟩:=r;rfl
 | ref _=>cases r;rfl
 | ty _=>cases r;rfl
theorem RelV.inj{x y:V}(r:RelV x u)(q:RelV y u):x=y:=aBX (r.abs.symm.trans q.abs)
theorem Vals.inj{ys:BS}(h:Vals xs us)(q:Vals ys us):xs=ys:=by
 induction h generalizing ys with
 | nil=>cases q;rfl
 | cons r _ i=>cases q with
   | cons r' t'=>rw[r.inj r',i t']
variable{σ:St}{ys:BS}{K:Frag}
theorem sX.of(h:H a=some (.lst xs)):sX K H a xs:=.inl (.inl h)
theorem xJ.of(h:H a=some (.tup xs)):xJ K H a xs:=.inl (.inl h)
theorem Inv.list(I:Q.e)(h:sX X.K H a xs):∃its:BY,Vals xs its/\PlainL s.heap a its.toArray/\xs.length<=sizeLine:=by
 rcases h with h|⟨o,its,n,hk,hc,hd,hs,hz,r⟩
 . obtain⟨z,its,n,r,e⟩:=h.ok I.dI;exact⟨its,r,⟨_,n,e,rfl,rfl,rfl⟩,z⟩
 . refine⟨its.toList,r,⟨o,n,I.QG a o hk,hc,hd,by simpa using hs⟩,?_⟩;have e:=r.length;simp only[aCT]at e;omega
theorem Inv.tuple(I:Q.e)(h:xJ X.K H a xs):∃its:BY,Vals xs its/\IsTup s.heap a its.toArray/\xs.length<=sizeLine:=by
 rcases h with h|⟨o,its,n,hk,hc,hs,hz,r⟩
 . obtain⟨z,its,r,p⟩:=h.ok I.dI;exact⟨its,r,p,z⟩
 . refine⟨its.toList,r,⟨o,I.QG a o hk,hc,n,by simpa using hs⟩,?_⟩;have e:=r.length;simp only[aCT]at e;omega
theorem Inv.Eo(I:Q.e)(h:sX X.K H a xs)(h':sX X.K H a ys):xs=ys:=by
 obtain⟨its,r,⟨o,n,e,_,_,d⟩,_⟩:=I.list h;obtain⟨its',r',⟨o',n',e',_,_,d'⟩,_⟩:=I.list h';rw[e]at e';cases e';rw[d]at d';injection d' with d1 _;have:its=its':=by simpa using congrArg Array.toList d1
 subst this;exact r.inj r'
theorem Inv.aea(I:Q.e)(h:xJ X.K H a xs)(h':xJ X.K H a ys):xs=ys:=by
 obtain⟨its,r,⟨o,e,_,n,d⟩,_⟩:=I.tuple h;obtain⟨its',r',⟨o',e',_,n',d'⟩,_⟩:=I.tuple h';rw[e]at e';cases e';rw[d]at d';injection d' with d1 _;have:its=its':=by simpa using congrArg Array.toList d1
 subst this;exact r.inj r'
abbrev Cx.wish(X:Cx)(E:BM):Cx:={X with xe:=E}
abbrev Cx.nox(X:Cx):Cx:=X.wish fun _ _=>False
theorem Cx.Ok.wish(ok:X.Ok)(E:BM):(X.wish E).Ok:=
 ⟨ok.mod,ok.kind,ok.glob,ok.blt,ok.above,ok.inj,ok.has,ok.cab,ok.hd,ok.frames,ok.stk,ok.exf,ok.bs,ok.bsz,ok.ag6,ok.al2,ok.JX,ok.frf⟩
theorem Cx.Ok.zO(ok:(X.wish E).Ok):X.Ok:=
 ⟨ok.mod,ok.kind,ok.glob,ok.blt,ok.above,ok.inj,ok.has,ok.cab,ok.hd,ok.frames,ok.stk,ok.exf,ok.bs,ok.bsz,ok.ag6,ok.al2,ok.JX,ok.frf⟩
theorem Inv.wish(I:Q.e)(E:BM):Inv (X.wish E) pins σ H s:=⟨I.ok.wish E,I.os,I.bare,I.base,I.loc,I.cell,I.free,I.Ct,I.pin,I.dI,I.len⟩
theorem Inv.zO(I:Inv (X.wish E) pins σ H s):Inv X pins σ H s:=⟨I.ok.zO,I.os,I.bare,I.base,I.loc,I.cell,I.free,I.Ct,I.pin,I.dI,I.len⟩
theorem SP.zO{D:Ends}{f:Flow}{s':Shared}(h:SP (X.wish E) pins D f s'):SP X pins D f s':=by
 cases f with
 | next=>obtain⟨σ',H',I,q⟩:=h;exact⟨σ',H',I.zO,q⟩
 | brk=>obtain⟨σ',H',I,q⟩:=h;exact⟨σ',H',I.zO,q⟩
 | cont=>obtain⟨σ',H',I,q⟩:=h;exact⟨σ',H',I.zO,q⟩
 | ret u=>obtain⟨v,σ',H',I,r,q⟩:=h;exact⟨v,σ',H',I.zO,r,q⟩
theorem PSs.nox{st:Cl}{t:TS}(h:PSs X.nox st t):PSs X st t:=fun pins s σ H D I hw=>
 aC5 (h pins s σ H D (I.wish _) hw) (fun _ _ q=>q.zO) fun _ _ z=>False.elim z
section
variable{st:Stmt}{rest:Cl}{t u:TS}{e:Expr}{te:TE}{pos:Pos}
def atc:TS:=fun D σ H=>D.nx σ H
def awp(t u:TS):TS:=fun D σ H=>t {D with nx:=u D} σ H
def al5:PSs X [] atc:=fun _ _ σ H _ I h=>wpAny_execs_nil ⟨σ,H,I,h⟩
theorem ag9(h1:PS X st t)(h2:PSs X rest u):PSs X (st::rest) (awp t u):=by
 intro pins s σ H D I h;refine wpAny_execs_cons (eZ (h1 pins s σ H {D with nx:=u D} I h) fun f s1 q=>?_);cases f with
 | next=>
   obtain⟨σ',H',I',q⟩:=q;exact h2 pins s1 σ' H' D I' q
 | ret v=>exact q
 | brk=>exact q
 | cont=>exact q
theorem Inv.quiet(I:Q.e):interactive X.env=false:=by simp[interactive,I.ok.kind]
def atd(te:TE):TS:=fun D σ H=>te σ H fun _ H1=>D.nx σ H1
def Ep(he:PE X e te)(hs:swapsWith e none pos.line X.env=pure false:=by rfl):PS X (.Expr e pos) (atd te):=by
 intro pins s σ H D I h;exact wpAny_Expr_any (eZ (he pins s σ H _ I h) fun v s1 ⟨x,H1,I1,r1,q1⟩=>⟨σ,H1,I1,q1⟩) I.quiet hs
def awq(te:TE):TS:=fun D σ H=>te σ H D.rt
def aqb(he:PE X e te):PS X (.Return (some e) pos) (awq te):=by
 intro pins s σ H D I h;exact wpAny_Return_some (eZ (he pins s σ H _ I h) fun v s1 ⟨x,H1,I1,r1,q1⟩=>⟨x,σ,H1,I1,r1,q1⟩)
def awr(c:TT)(t u:TS):TS:=fun D σ H=>c σ H fun b H1=>if b=true then t D σ H1 else u D σ H1
theorem ate{c:Expr}{a b:Cl}{tc:TT}(hc:PT X c tc)(ha:PSs X a t)(hb:PSs X b u):PS X (.If c a b pos) (awr tc t u):=by
 intro pins s σ H D I h;refine wpAny_If (eZ (hc pins s σ H _ I h) fun d s1 zz=>?_);obtain⟨H1,I1,q1⟩:=zz;cases d with
 | true=>exact ha pins s1 σ H1 D I1 q1
 | false=>exact hb pins s1 σ H1 D I1 q1
end
abbrev TG:=V->St->Hp->(St->Hp->Prop)->Prop
abbrev TGs:=BS->St->Hp->(St->Hp->Prop)->Prop
def PG(X:Cx)(target:Expr)(t:TG):Prop:=
 ∀(pins:BC) (s:Shared) (σ:St) (H:Hp) (v:V) (u:Value) (Q:St->Hp->Prop),Inv X pins σ H s->RelV v u->t v σ H Q →
   wpAny Q.d X.A (assign target X.env u) (fun _ s'=>∃σ' H',Inv X pins σ' H' s'/\Q σ' H') X.xe s
def PGs(X:Cx)(ts:CA)(t:TGs):Prop:=
 ∀(pins:BC) (s:Shared) (σ:St) (H:Hp) (vs:BS) (us:BY) (Q:St->Hp->Prop),Inv X pins σ H s->Vals vs us->t vs σ H Q →
   wpAny Q.d X.A (assignInOrder ((assignEach ts X.env).map (·.2)) us) (fun _ s'=>∃σ' H',Inv X pins σ' H' s'/\Q σ' H') X.xe s
abbrev aqd:=V->V->V->Hp->(Hp->Prop)->Prop
def atf(X:Cx)(t:aqd):Prop:=
 ∀(pins:BC) (s:Shared) (σ:St) (H:Hp) (o i v:V) (ov iv u:Value) (Q:Hp->Prop),Inv X pins σ H s->RelV o ov->RelV i iv->RelV v u->t o i v H Q →
   wpAny Q.d X.A (setItem ov iv u) (fun _ s'=>∃H',Inv X pins σ H' s'/\Q H') X.xe s
abbrev TIp:=V->V->Hp->VK->Prop
def PIp(X:Cx)(op:Operator)(t:TIp):Prop:=
 ∀(pins:BC) (s:Shared) (σ:St) (H:Hp) (x y:V) (v u:Value) (Q:VK),Inv X pins σ H s->RelV x v->RelV y u->t x y H Q →
   wpAny Q.d X.A (inplaceOp op v u) (EP X pins σ Q) X.xe s
variable{pos:Pos}
def Jb(i:Nat):TG:=fun v σ H Q=>Q (σ.set i (some v)) H
def Er{x:Str}(hN:X.N.Nodup)(hi:X.N[i]? = some x)(hx:Loc X.env.scope x)(hf:AM X x:=by first|exact .inl rfl|exact .inr rfl|assumption):PG X (.Name x pos) (Jb i):=by
 intro pins s σ H v u Q I r h;exact wpAny_assign_Name (L4 I hN hi hx r (fun s' I'=>⟨_,H,I',h⟩) hf)
def aqe:TGs:=fun vs σ H Q=>vs=[]/\Q σ H
def Va(t:TG)(u:TGs):TGs:=fun vs σ H Q=>∃v r,vs=v::r/\t v σ H fun σ' H'=>u r σ' H' Q
def al6:PGs X [] aqe:=by
 intro pins s σ H vs us Q I r h;obtain⟨e,h⟩:=h;subst e;cases r;exact assignInOrder_nil ⟨σ,H,I,h⟩
variable{es:CA}
def Vb{e:Expr}{t:TG}{u:TGs}(h1:PG X e t)(h2:PGs X es u)
   (hs:(assignEach (e::es) X.env).map (·.2)=assign e X.env::(assignEach es X.env).map (·.2):=by rfl):PGs X (e::es) (Va t u):=by
 intro pins s σ H vs us Q I r h;obtain⟨v,vr,e1,h⟩:=h;subst e1;cases r with
 | cons r rr=>
   rw[hs];refine assignInOrder_cons (eZ (h1 pins s σ H _ _ _ I r h) fun _ s1 zz=>?_);obtain⟨σ1,H1,I1,q1⟩:=zz;exact h2 pins s1 σ1 H1 _ _ Q I1 rr q1
def aqf(K:Frag)(n:Nat)(t:TGs):TG:=fun v σ H Q=>∃a xs,v=.ref a/\xJ K H a xs/\xs.length=n/\t xs σ H Q
variable{k:Nat}
def aqg{t:TGs}{n:Nat}(hc:X.calm=true)(h:PGs X es t)
   (hn:(assignEach es X.env).length=n:=by rfl) (YM:(assignEach es X.env).findIdx? (·.1)=none:=by rfl):PG X (.Tuple es k pos) (aqf X.K n t):=by
 intro pins s σ H v u Q I r hw;obtain⟨a,xs,e1,hq,hl,hw⟩:=hw;subst e1;cases r;obtain⟨its,rv,ht,hz⟩:=I.tuple hq;refine assign_Tuple_tuple (I.ok.hd hc) ht (by simp[hn,← hl,rv.length]) YM fun h' hx=>?_;have I1:Inv X pins σ H {s with heap:=h'}:=I.kept (t':=s.toks) fun b o e=>hx b o (aCq (aB1 e)) e;exact h pins _ σ H xs _ Q I1 (by simpa using rv) hw
def awt(to ti:TE)(t:aqd):TG:=fun v σ H Q=>to σ H fun o H1=>ti σ H1 fun i H2=>t o i v H2 fun H3=>Q σ H3
def aqh{o i:Expr}{to ti:TE}{t:aqd}(ho:PE X o to)(hi:PE X i ti)(hs:atf X t)
   (ha:∀v,assign (.Subscript o i pos) X.env v=(do
     let ov ← holding [v] (eval o X.env)
     let iv ← holding [v,ov] (eval i X.env)
     standAt pos
     holding [v,ov,iv] (setItem ov iv v)
     release [v,ov,iv] []):=by intro _;rfl):PG X (.Subscript o i pos) (awt to ti t):=by
 intro pins s σ H v u Q I r h;rw[ha];refine aBY (aDP (eZ (ho pins s σ H _ I h) fun ov s1 zz=>?_));obtain⟨x,H1,I1,r1,q1⟩:=zz;refine aBY (aDP (eZ (hi pins s1 σ H1 _ I1 q1) fun iv s2 zz=>?_));obtain⟨y,H2,I2,r2,q2⟩:=zz;refine aBY (wpAny_standAt (aBY (aDP (eZ (hs pins s2 σ H2 x y v ov iv u _ I2 r1 r2 r q2) fun _ s3 zz=>?_))));obtain⟨H3,I3,q3⟩:=zz;exact wpAny_release ⟨σ,H3,I3,q3⟩
def atg(te:TE)(g:TG):TS:=fun D σ H=>te σ H fun x H1=>g x σ H1 D.nx
variable{tg:Expr}{te:TE}
def aqi{e:Expr}{g:TG}(he:PE X e te)(hg:PG X tg g)(hs:swapsWithSole [tg] e pos.line X.env=pure false:=by rfl)(hw:swappedStores [tg] e X.env=pure none:=by rfl)
   (h1:(assignEach [tg] X.env).map (·.2)=[assign tg X.env]:=by rfl):PS X (.Assign [tg] e pos) (atg te g):=by
 intro pins s σ H D I h;refine wpAny_Assign_stores (eZ (he pins s σ H _ I h) fun v s1 zz=>?_) hs hw;obtain⟨x,H1,I1,r1,q1⟩:=zz;rw[h1];exact eZ (hg pins s1 σ H1 x v _ I1 r1 q1) fun _ s2 q=>q
def aqj{x:Str}{e:Expr}{pos':Pos}(hN:X.N.Nodup)(hi:X.N[i]? = some x)(hx:Loc X.env.scope x)(he:PE X e te)(hs:swapsWith e (some (.Name x pos')) pos.line X.env=pure false:=by rfl)(hf:AM X x:=by first|exact .inl rfl|exact .inr rfl|assumption) :
   PS X (.Assign [.Name x pos'] e pos) (atg te (Jb i)):=by
 intro pins s σ H D I h;refine wpAny_Assign_Name (eZ (he pins s σ H _ I h) fun v s1 zz=>?_) hs;obtain⟨y,H1,I1,r1,q1⟩:=zz;exact L4 I1 hN hi hx r1 (fun s2 I2=>⟨_,H1,I2,q1⟩) hf
def awu(i:Nat)(te:TE)(ti:TIp):TS:=fun D σ H=>∃x,σ[i]? = some (some x)/\te σ H fun y H1=>ti x y H1 fun z H2=>D.nx (σ.set i (some z)) H2
def aqk{x:Str}{e:Expr}{op:Operator}{ti:TIp}{pos':Pos}(hN:X.N.Nodup)(hi:X.N[i]? = some x)(hx:Loc X.env.scope x)(he:PE X e te)(ho:PIp X op ti)(hf:AM X x:=by first|exact .inl rfl|exact .inr rfl|assumption) :
   PS X (.AugAssign (.Name x pos') op e pos) (awu i te ti):=by
 intro pins s σ H D I h;obtain⟨v,e1,h⟩:=h;obtain⟨m,hn,hl⟩:=I.loc;have vis:Vis X.env.scope x:=by rcases hx with k|k;exact .inl k;exact .inr (.inl k)
 obtain⟨u,r,l⟩:=hl i x v hi e1 vis;refine wpAny_AugAssign_Name ?_;have go:wpAny Q.d X.A (eval e X.env) (fun w s₂=>wpAny Q.d X.A (inplaceOp op u w) (fun r s₃=>wpAny Q.d X.A (storeName X.env x r) (fun _=>SP X pins D .next) X.xe s₃) X.xe s₂) X.xe s:=by
   refine eZ (he pins s σ H _ I h) fun w s1 zz=>?_;obtain⟨y,H1,I1,r1,q1⟩:=zz;refine eZ (ho pins s1 σ H1 v y u w _ I1 r r1 q1) fun z s2 zz=>?_;obtain⟨zv,H2,I2,r2,q2⟩:=zz;exact L4 I2 hN hi hx r2 (fun s3 I3=>⟨_,H2,I3,q2⟩) hf
 rcases l with⟨hk,hm⟩|⟨hk,c,hc,Ja⟩
 . exact wpAny_loadName_local I.ok.kind hk hn hm go
 . rcases hk with hk|hk
   . exact wpAny_loadName_cell I.ok.kind hk hc Ja go
   . rcases hx with k|k
     . have:X.env.scope.names.lookup x=some .free:=hk;rw[k]at this;cases this
     . have:X.env.scope.names.lookup x=some .free:=hk;rw[k]at this;cases this
def ipI(f:Int->Int->Int):TIp:=fun x y H Q=>∃i j,x=.int i/\y=.int j/\Q (.int (f i j)) H
def aql:PIp X .Add (ipI fun i j=>i+j):=by
 intro pins s σ H x y v u Q I r1 r2 h;obtain⟨i,j,e1,e2,q⟩:=h;subst e1;subst e2;obtain⟨t,rfl⟩:=r1;obtain⟨t',rfl⟩:=r2;exact iadd_int ⟨.int _,H,I.tok _,⟨_,rfl⟩,q⟩
def aqm(c:TT)(tb:TS):TS:=fun D σ H=>∃W:Nat->St->Hp->Prop,(∃m,W m σ H)/\∀m σ H,W m σ H →
 c σ H fun b H1=>if b=true then ∃N:St->Hp->Prop,(∀σ' H',N σ' H'->∃m',m'<m/\W m' σ' H')/\tb {D with nx:=N,ct:=N,bk:=D.nx} σ H1 else D.nx σ H1
variable{c:Expr}
theorem aha{body:Cl}{tc:TT}{tb:TS}(hp:PassesOwn Q.d X.A X.env X.xe)(hc:PT X c tc)(hb:PSs X body tb):PS X (.While c body [] pos) (aqm tc tb):=by
 intro pins s σ H D I h;obtain⟨W,⟨m0,w0⟩,turn⟩:=h;refine wpAny_While (codeAny_whileLoop (fun n s'=>∃σ' H',Inv X pins σ' H' s'/\W n σ' H') ?_ m0 ⟨σ,H,I,w0⟩);rintro n s1 ⟨σ1,H1,I1,w1⟩;refine aDn hp (eZ (hc pins s1 σ1 H1 _ I1 (turn n σ1 H1 w1)) fun b s2 zz=>?_);obtain⟨H2,I2,q2⟩:=zz;cases b with
 | true=>
   obtain⟨N,hN,q2⟩:=q2;rw[aBE rfl];refine aDn hp (eZ (hb pins s2 σ1 H2 _ I2 q2) fun f s3 q3=>?_);cases f with
   | next=>
     obtain⟨σ3,H3,I3,n3⟩:=q3;obtain⟨m',hm,w3⟩:=hN σ3 H3 n3;exact⟨m',hm,σ3,H3,I3,w3⟩
   | cont=>
     obtain⟨σ3,H3,I3,n3⟩:=q3;obtain⟨m',hm,w3⟩:=hN σ3 H3 n3;exact⟨m',hm,σ3,H3,I3,w3⟩
   | brk=>exact q3
   | ret v=>exact q3
 | false=>
   rw[aBx aBM];exact wpAny_execs_nil ⟨σ1,H2,I2,q2⟩
structure It where
 go:Nat->Hp->Prop
 yld:Nat->Hp->V->Hp->Prop
 stop:Nat->Hp->Prop
def JY(X:Cx)(pins:BC)(H:Hp)(b:Addr):Prop:=
 H b=none/\b≠X.env.locals/\b∉X.fs/\(b∈X.ex\/X.s₀.heap.objs.size<=b)/\(∀x c,X.env.cells.lookup x=some c->c≠b)/\∀p∈X.pn++pins,p.1≠b
theorem Inv.JZ(I:Q.e)(hb:s.heap.objs.size<=b)(hn:H' b=none):JY X pins H' b:=by
 refine⟨hn,Nat.ne_of_gt (aCn I.lt hb),I.awf hb,.inr (aCa I.sz hb),fun x c e z=>?_,fun p hp z=>?_⟩
 . obtain⟨v,q⟩:=I.cell x c e;exact absurd (aCn q.lt (by rw[z];exact hb)) (aDO _)
 . exact absurd (aCn (aB1 (I.pin p hp).1) (by rw[z];exact hb)) (aDO _)
structure Turn(P:Program)(w:World)(K:Frag)(tg:Expr)(J:It)(fp:BT)(it:Addr)(tn:Nat->Heap->Prop):Prop where
 mem:it∈fp
 obj:∀i h,tn i h->∀b∈fp,∃o,h.get? b=some o/\∀v,o.data ≠ .cell v
 keep:∀i h h',tn i h->(∀b∈fp,∀o,h.get? b=some o->h'.get? b=some o)->tn i h'
 item:∀(X:Cx),X.prog=P->X.w=w->X.K=K->X.calm=true->∀(i:Nat) (pins:BC) (s:Shared) (σ:St) (H:Hp) (E:BM),Inv X pins σ H s->(∀b∈fp,JY X pins H b)->tn i s.heap->J.go i H →
   wpAny (model P w) X.A (pyNext (.ref it)) (fun r s1=>∃u,r=some u ∧
     wpAny (model P w) X.A (letOwnedTupleGo tg (.ref it) u) (fun _ s2=>∃x H',Inv X pins σ H' s2/\RelV x u/\J.yld i H x H'/\tn (i+1) s2.heap/\∀b∈fp,H' b=none) E s1) E s
 done:∀(X:Cx),X.prog=P->X.w=w->X.K=K->X.calm=true->∀(i:Nat) (pins:BC) (s:Shared) (σ:St) (H:Hp) (E:BM),Inv X pins σ H s->(∀b∈fp,JY X pins H b)->tn i s.heap->J.stop i H →
   wpAny (model P w) X.A (pyNext (.ref it)) (fun r s1=>r=none/\Inv X pins σ H s1) E s
 self:∀(A:Around) (i:Nat) (s:Shared) (Q:BM) (E:BM),tn i s.heap->Q (.ref it) s->wpAny (model P w) A (pyIter (.ref it)) Q E s
abbrev TI:=St->Hp->(It->Hp->Prop)->Prop
def PIE(X:Cx)(pins:BC)(σ:St)(tg:Expr)(R:It->Hp->Prop)(itv:Value)(s2:Shared):Prop:=
 ∃(it:Addr) (fp:BT) (tn:Nat->Heap->Prop) (J:It) (H':Hp),itv=.ref it/\Inv X pins σ H' s2/\Turn X.prog X.w X.K tg J fp it tn/\tn 0 s2.heap/\(∀b∈fp,JY X pins H' b)/\R J H'
def PI(X:Cx)(tg iter:Expr)(wi:TI):Prop:=
 ∀(pins:BC) (s:Shared) (σ:St) (H:Hp) (R:It->Hp->Prop),Inv X pins σ H s->wi σ H R →
   wpAny Q.d X.A (eval iter X.env) (fun v s1=>wpAny Q.d X.A (pyIter v) (PIE X pins σ tg R) X.xe s1) X.xe s
def QH{it:Addr}{o:Obj}{n:String}{vs:DA}(ho:s.heap.get? it=some o)(hc:o.cls=.type n)(hd:o.data=.fields vs)
   (hn:["enumerate","zip","dict_itemiterator","dict_reverseitemiterator","odict_iterator","itertools.zip_longest","itertools.pairwise"].contains n=false) (hQ:Q () s):wpAny M A (letOwnedTupleGo tg (.ref it) u) Q E s:=by
 unfold letOwnedTupleGo;cases tg<;>first
   | exact aCb hQ
   | (cases u<;>first
       | exact aCb hQ
       | (refine aBY (wpAny_load ho ?_)
          rw[hc,hd];show wpAny M A (if (["enumerate","zip","dict_itemiterator","dict_reverseitemiterator","odict_iterator","itertools.zip_longest","itertools.pairwise"].contains n&&vs[0]? == some (rawInt _))=true then _ else _) Q E s;rw[aBx (by intro h;rw[hn,aDE]at h;cases h)];exact aCb hQ))
def Itl(K:Frag)(a:Addr):It:=
 ⟨fun i H=>∃xs x,sX K H a xs/\xs[i]? = some x,fun i H x H'=>H'=H/\∀xs,sX K H a xs->xs[i]? = some x,fun i H=>∃xs,sX K H a xs/\xs.length<=i⟩
def Itt(K:Frag)(a:Addr):It:=
 ⟨fun i H=>∃xs x,xJ K H a xs/\xs[i]? = some x,fun i H x H'=>H'=H/\∀xs,xJ K H a xs->xs[i]? = some x,fun i H=>∃xs,xJ K H a xs/\xs.length<=i⟩
def Itr(lo:Int)(n:Nat):It:=⟨fun i _=>i<n,fun i H x H'=>H'=H/\x=.int (lo+i),fun i _=>n<=i⟩
def aeb(a it:Addr):Turn P w K tg (Itl K a) [it] it (fun i h=>h.IsListIter it a i) where
 mem:=by simp
 obj:=fun i h st b hb=>by
   have e:b=it:=by simpa using hb
   subst e;obtain⟨o,e,c,d⟩:=st;exact⟨o,e,fun v z=>by rw[d]at z;cases z⟩
 keep:=fun i h h' st k=>st.at fun o e=>k it Uf o e
 item:=by
   intro X hP hw hK hc i pins s σ H E I hf st hg;subst hP hw hK;obtain⟨xs,x,hq,hx⟩:=hg;obtain⟨its,rv,p,hz⟩:=I.list hq;obtain⟨u,hu,ru⟩:=rv.get hx;obtain⟨f0,f1,f2,f3,f4,f5⟩:=hf it Uf;refine wpAny_pyNext_list_item st p.isList (x:=u) (by simpa using hu) fun h' Vc sb=>?_;have I1:Inv X pins σ H {s with heap:=h'}:=I.turned (t':=s.toks) (fun b o hb e=>(sb.2 b hb).trans e) f0 f1 f3 f4 f5;obtain⟨o,e,c,d⟩:=id Vc;exact⟨u,rfl,QH (s:={s with heap:=h'}) e c d Q.c ⟨x,H,I1,ru,⟨rfl,fun ys hy=>by rw[I.Eo hy hq];exact hx⟩,Vc,fun b hb=>(hf b hb).1⟩⟩
 done:=by
   intro X hP hw hK hc i pins s σ H E I hf st hg;subst hP hw hK;obtain⟨xs,hq,hx⟩:=hg;obtain⟨its,rv,p,hz⟩:=I.list hq;obtain⟨f0,f1,f2,f3,f4,f5⟩:=hf it Uf;have hl:=rv.length;exact wpAny_pyNext_list_end (I.ok.hd hc) st p.isList (by simp;omega) fun h' eb=>⟨rfl,I.turned (t':=s.toks) (fun b o hb e=>eb b o hb e) f0 f1 f3 f4 f5⟩
 self:=fun _ _ _ _ _ st h=>wpAny_pyIter_listiter st h
def YN(a it:Addr):Turn P w K tg (Itt K a) [it] it (fun i h=>h.IsTupleIter it a i) where
 mem:=by simp
 obj:=fun i h st b hb=>by
   have e:b=it:=by simpa using hb
   subst e;obtain⟨o,e,c,d⟩:=st;exact⟨o,e,fun v z=>by rw[d]at z;cases z⟩
 keep:=fun i h h' st k=>st.at fun o e=>k it Uf o e
 item:=by
   intro X hP hw hK hc i pins s σ H E I hf st hg;subst hP hw hK;obtain⟨xs,x,hq,hx⟩:=hg;obtain⟨its,rv,p,hz⟩:=I.tuple hq;obtain⟨u,hu,ru⟩:=rv.get hx;obtain⟨f0,f1,f2,f3,f4,f5⟩:=hf it Uf;refine wpAny_pyNext_tuple_item st (show s.heap.IsTuple a its.toArray from p) (x:=u) (by simpa using hu) fun h' Vc sb=>?_;have I1:Inv X pins σ H {s with heap:=h'}:=I.turned (t':=s.toks) (fun b o hb e=>(sb.2 b hb).trans e) f0 f1 f3 f4 f5;obtain⟨o,e,c,d⟩:=id Vc;exact⟨u,rfl,QH (s:={s with heap:=h'}) e c d Q.c ⟨x,H,I1,ru,⟨rfl,fun ys hy=>by rw[I.aea hy hq];exact hx⟩,Vc,fun b hb=>(hf b hb).1⟩⟩
 done:=by
   intro X hP hw hK hc i pins s σ H E I hf st hg;subst hP hw hK;obtain⟨xs,hq,hx⟩:=hg;obtain⟨its,rv,p,hz⟩:=I.tuple hq;obtain⟨f0,f1,f2,f3,f4,f5⟩:=hf it Uf;have hl:=rv.length;exact wpAny_pyNext_tuple_end (I.ok.hd hc) st (show s.heap.IsTuple a its.toArray from p) (by simp;omega) fun h' eb=>⟨rfl,I.turned (t':=s.toks) (fun b o hb e=>eb b o hb e) f0 f1 f3 f4 f5⟩
 self:=fun _ _ _ _ _ st h=>wpAny_pyIter_tupleiter st h
def YQ(it:Addr)(lo:Int)(n:Nat):Turn P w K tg (Itr lo n) [it] it (fun i h=>IsRangeIter h it (lo+(i:Nat)*1) ((n:Int)-(i:Nat)) 1) where
 mem:=by simp
 obj:=fun i h st b hb=>by
   have e:b=it:=by simpa using hb
   subst e;exact⟨_,st,fun v z=>by
     have z':Data.fields _=Data.cell v:=z;cases z'⟩
 keep:=fun i h h' st k=>k it Uf _ st
 item:=by
   intro X hP hw hK hc i pins s σ H E I hf st hg;subst hP hw hK;obtain⟨f0,f1,f2,f3,f4,f5⟩:=hf it Uf;have W:=Walks.range (prog:=X.prog) (w:=X.w) (I.ok.hd hc) it lo 1 n;refine W.item i s _ _ hg st fun v h' tk hv Vc kk=>?_;obtain⟨t,rfl⟩:=hv;have I1:Inv X pins σ H {s with heap:=h',toks:=tk}:=I.turned (fun b o hb e=>kk b o (by simpa using hb) e) f0 f1 f3 f4 f5;refine⟨_,rfl,QH (s:={s with heap:=h',toks:=tk}) (n:="range_iterator") Vc rfl rfl Q.c ⟨.int (lo+i),H,I1,⟨t,?_⟩,⟨rfl,rfl⟩,Vc,fun b hb=>(hf b hb).1⟩⟩;rw[Int.mul_one]
 done:=by
   intro X hP hw hK hc i pins s σ H E I hf st hg;subst hP hw hK;obtain⟨f0,f1,f2,f3,f4,f5⟩:=hf it Uf;exact wpAny_pyNext_range_end (I.ok.hd hc) st (by have:n<=i:=hg;omega) fun h' eb=>⟨rfl,I.turned (t':=s.toks) (fun b o hb e=>eb b o hb e) f0 f1 f3 f4 f5⟩
 self:=fun _ _ _ _ _ st h=>wpAny_pyIter_rangeiter st h
def ath(K:Frag)(tl:TE):TI:=fun σ H R=>tl σ H fun x H1=>∃a,x=.ref a/\(∃xs,sX K H1 a xs)/\R (Itl K a) H1
def awv(K:Frag)(tl:TE):TI:=fun σ H R=>tl σ H fun x H1=>∃a,x=.ref a/\(∃xs,xJ K H1 a xs)/\R (Itt K a) H1
def al7{l:Expr}{tl:TE}(hl:PE X l tl):PI X tg l (ath X.K tl):=by
 intro pins s σ H R I h;refine eZ (hl pins s σ H _ I h) fun v s1 zz=>?_;obtain⟨x,H1,I1,r1,q1⟩:=zz;obtain⟨a,e,⟨xs,hq⟩,q⟩:=q1;subst e;cases r1;obtain⟨its,rv,p,hz⟩:=I1.list hq;refine wpAny_pyIter_list p.isList ?_;refine⟨s1.heap.objs.size,[s1.heap.objs.size],_,_,H1,rfl,I1.kept (t':=s1.toks) fun b o e=>aBU _ e,aeb a _,⟨_,aCh _ rfl,rfl,rfl⟩,fun b hb=>?_,q⟩;have e:b=s1.heap.objs.size:=by simpa using hb
 subst e;exact I1.JZ (aBD _) (I1.dI.fresh (aBD _))
def aqn{l:Expr}{tl:TE}(hl:PE X l tl):PI X tg l (awv X.K tl):=by
 intro pins s σ H R I h;refine eZ (hl pins s σ H _ I h) fun v s1 zz=>?_;obtain⟨x,H1,I1,r1,q1⟩:=zz;obtain⟨a,e,⟨xs,hq⟩,q⟩:=q1;subst e;cases r1;obtain⟨its,rv,p,hz⟩:=I1.tuple hq;refine wpAny_pyIter_tuple (show s1.heap.IsTuple a its.toArray from p) ?_;refine⟨s1.heap.objs.size,[s1.heap.objs.size],_,_,H1,rfl,I1.kept (t':=s1.toks) fun b o e=>aBU _ e,YN a _,⟨_,aCh _ rfl,rfl,rfl⟩,fun b hb=>?_,q⟩;have e:b=s1.heap.objs.size:=by simpa using hb
 subst e;exact I1.JZ (aBD _) (I1.dI.fresh (aBD _))
def Vd{R:It->Hp->Prop}{lo hi:Int}{t u v:Tok}{tk:Nat}(I:Q.e)(h1:-(2 ^ 62)<=lo)(h2:lo<2 ^ 62)(h3:-(2 ^ 62)<=hi)(h4:hi<2 ^ 62)
   (q:R (Itr lo (hi-lo).toNat) H):wpAny Q.d X.A (pyIter (.ref s.heap.objs.size)) (PIE X pins σ tg R) E {s with heap:=s.heap.push {cls:=.type "range",data:=.fields #[.int lo t,.int hi u,.int 1 v]},toks:=tk}:=by
 refine wpAny_pyIter_range (IsRange.new ..) (small_one h1 h2 h3 h4) ?_;have I1:Inv X pins σ H {s with heap:=s.heap.push {cls:=.type "range",data:=.fields #[.int lo t,.int hi u,.int 1 v]},toks:=tk}:=I.kept fun b o e=>aBU _ e;refine⟨(s.heap.push {cls:=.type "range",data:=.fields #[.int lo t,.int hi u,.int 1 v]}).objs.size,[(s.heap.push {cls:=.type "range",data:=.fields #[.int lo t,.int hi u,.int 1 v]}).objs.size],_,_,H,rfl,
   I1.kept (t':=tk) fun b o e=>aBU _ e,YQ _ lo (hi-lo).toNat,?_,fun b hb=>?_,q⟩
 . have e1:lo+((0:Nat):Int)*1=lo:=by simp
   have e2:(((hi-lo).toNat:Nat):Int)-((0:Nat):Int)=Builtin.Range.rangeSize lo hi 1:=by rw[rangeSize_one];split<;>omega
   show IsRangeIter _ _ (lo+((0:Nat):Int)*1) ((((hi-lo).toNat:Nat):Int)-((0:Nat):Int)) 1;rw[e1,e2];exact aCh _ rfl
 . have e:b=(s.heap.push {cls:=.type "range",data:=.fields #[.int lo t,.int hi u,.int 1 v]}).objs.size:=by simpa using hb
   subst e;exact I1.JZ (aBD _) (I1.dI.fresh (aBD _))
def ati(ta:TA):TI:=fun σ H R=>ta σ H fun vs H1=>∃j:Int,vs=[.int j] /\ -(2 ^ 62)<=j/\j<2 ^ 62/\R (Itr 0 j.toNat) H1
def atj(ta:TA):TI:=fun σ H R=>ta σ H fun vs H1=>∃i j:Int,vs=[.int i,.int j]/\(-(2 ^ 62)<=i/\i<2 ^ 62 /\ -(2 ^ 62)<=j/\j<2 ^ 62)/\R (Itr i (j-i).toNat) H1
variable{p:Pos}
theorem aec{a:Expr}{ta:TA}(hg:Gl X "range")(hm:X.mg "range" = none)(ha:PA X [a] ta)(hs:starEach [a] X.env=[(false,eval a X.env)]:=by rfl):PI X tg (.Call (.Name "range" p) [a] [] pos) (ati ta):=by
 intro pins s σ H R I h;refine Call_ (zN I hg hm boot_range (aCL (eZ (ha pos pins s σ H _ I h) fun us s1 zz=>?_) hs rfl));obtain⟨vs,H1,I1,r1,q1⟩:=zz;obtain⟨j,e,q1,q2,q⟩:=q1;subst e;cases r1 with
 | cons r rr=>
   cases rr;obtain⟨t,rfl⟩:=r;exact call_range_1 (Vd I1 Q.a Q.a q1 q2 (by simpa using q))
def aed{a b:Expr}{ta:TA}(hg:Gl X "range")(hm:X.mg "range" = none)(ha:PA X [a,b] ta)(hs:AR X a b:=by rfl)(zF:starEach [b] X.env=[(false,eval b X.env)]:=by rfl) :
   PI X tg (.Call (.Name "range" p) [a,b] [] pos) (atj ta):=by
 intro pins s σ H R I h;refine Call_ (zN I hg hm boot_range (aCL (eZ (ha pos pins s σ H _ I h) fun us s1 zz=>?_) (by rw[hs,zF]) (by rw[zF];rfl)));obtain⟨vs,H1,I1,r1,q1⟩:=zz;obtain⟨i,j,e,⟨q1,q2,q3,q4⟩,q⟩:=q1;subst e;cases r1 with
 | cons r rr=>
   cases rr with
   | cons r' rr=>
     cases rr;obtain⟨t,rfl⟩:=r;obtain⟨t',rfl⟩:=r';exact call_range_2 (Vd I1 q1 q2 q3 q4 q)
def aww(wi:TI)(g:TG)(tb:TS):TS:=fun D σ H=>wi σ H fun J H1=>∃W:Nat->Nat->St->Hp->Prop,(∃m,W 0 m σ H1)/\∀i m σ H,W i m σ H →
 (J.stop i H/\D.nx σ H)\/(J.go i H/\∃N:St->Hp->Prop,(∀σ' H',N σ' H'->∃m',m'<m/\W (i+1) m' σ' H')/\∀x H',J.yld i H x H'->g x σ H' fun σ2 H2=>tb {D with nx:=N,ct:=N,bk:=D.nx} σ2 H2)
def L5(fp:BT)(h:Heap):BC:=fp.filterMap fun b=>(h.get? b).map fun o=>(b,o)
def xK{fp:BT}{o:Obj}(hb:b∈fp)(e:h.get? b=some o):(b,o)∈L5 fp h:=List.mem_filterMap.mpr ⟨b,hb,by rw[e];rfl⟩
theorem aee{fp:BT}{p:Addr×Obj}(hp:p∈L5 fp h):p.1∈fp/\h.get? p.1=some p.2:=by
 obtain⟨b,hb,e⟩:=List.mem_filterMap.mp hp;cases q:h.get? b with
 | none=>rw[q]at e;cases e
 | some o=>
   rw[q]at e;have e':(b,o)=p:=aBX e;subst e';exact⟨hb,q⟩
theorem Inv.pinned{fp:BT}(I:Q.e)(hf:∀b∈fp,JY X pins H b)(ho:∀b∈fp,∃o,s.heap.get? b=some o/\∀v,o.data ≠ .cell v):Inv X (pins++L5 fp s.heap) σ H s:=
 I.Lf fun p hp=>(aBy.mp hp).elim (fun z=>I.pin p (aBw _ z)) fun z=>by
   obtain⟨hb,e⟩:=aee z;obtain⟨f0,f1,f2,_⟩:=hf p.1 hb;obtain⟨o,e',d⟩:=ho p.1 hb;rw[e]at e';cases e';exact⟨e,f0,f1,f2,d⟩
theorem Inv.Es{pl:BC}(I:Inv X (pins++pl) σ H s):Inv X pins σ H s:=I.Lf fun p hp=>I.pin p (aBw _ (aBN _ hp))
def ahb{iter:Expr}{body:Cl}{wi:TI}{g:TG}{tb:TS}(hp:PassesOwn Q.d X.A X.env X.xe)(hc:X.calm=true)(hi:PI X tg iter wi)(hg:PG X tg g)(hb:PSs X body tb)
   (hs:AN X iter:=by intro _;rfl):PS X (.For tg iter body [] pos) (aww wi g tb):=by
 intro pins s σ H D I h;refine wpAny_For (eZ (hi pins s σ H _ I h) fun v s1 h1=>eZ h1 fun itv s2 h2=>?_) hs;obtain⟨it,fp,tn,J,H2,e,I2,T,st2,f2,W,⟨m0,w0⟩,turn⟩:=h2;subst e;have stat:∀{H':Hp},(∀b∈fp,H' b=none)->∀b∈fp,JY X pins H' b:=fun hn b hb=>⟨hn b hb,(f2 b hb).2⟩;refine codeAny_forLoop_any (fun n s'=>∃i σ' H',Inv X pins σ' H' s'/\tn i s'.heap/\(∀b∈fp,H' b=none)/\W i n σ' H') ?_ m0 ⟨0,σ,H2,I2,st2,fun b hb=>(f2 b hb).1,w0⟩;rintro n s3 ⟨i,σ3,H3,I3,st3,fr3,w3⟩;rcases turn i n σ3 H3 w3 with⟨stop,qn⟩|⟨go,N,hN,step⟩
 . refine aDn hp (eZ (T.done X rfl rfl rfl hc i pins s3 σ3 H3 X.xe I3 (stat fr3) st3 stop) fun r s4 zz=>?_);obtain⟨hr,I4⟩:=zz;subst hr;exact wpAny_execs_nil ⟨σ3,H3,I4,qn⟩
 . refine aDn hp (eZ (T.item X rfl rfl rfl hc i pins s3 σ3 H3 X.xe I3 (stat fr3) st3 go) fun r s4 zz=>?_);obtain⟨u,hr,h4⟩:=zz;subst hr;refine aDn hp (eZ h4 fun _ s5 zz=>?_);obtain⟨x,H5,I5,r5,y5,st5,fr5⟩:=zz;have I5':=I5.pinned (stat fr5) (T.obj _ _ st5);refine aDn hp (eZ (hg _ s5 σ3 H5 x u _ I5' r5 (step x H5 y5)) fun _ s6 zz=>?_);obtain⟨σ6,H6,I6,q6⟩:=zz;refine aDn hp (eZ (hb _ s6 σ6 H6 _ I6 q6) fun f s7 q7=>?_);have again:∀{σ7:St} {H7:Hp},Inv X (pins++L5 fp s5.heap) σ7 H7 s7->N σ7 H7->∃m,m<n/\∃i σ' H',Inv X pins σ' H' s7/\tn i s7.heap/\(∀b∈fp,H' b=none)/\W i m σ' H':=fun {σ7 H7} I7 n7=>by
     obtain⟨m',hm,w7⟩:=hN σ7 H7 n7;refine⟨m',hm,i+1,σ7,H7,I7.Es,T.keep _ _ _ st5 fun b hb o e=>(I7.pin (b,o) (aBw _ (aBw _ (xK hb e)))).1,fun b hb=>?_,w7⟩;obtain⟨o,e,d⟩:=T.obj _ _ st5 b hb;exact(I7.pin (b,o) (aBw _ (aBw _ (xK hb e)))).2.1
   cases f with
   | next=>obtain⟨σ7,H7,I7,n7⟩:=q7;exact again I7 n7
   | cont=>obtain⟨σ7,H7,I7,n7⟩:=q7;exact again I7 n7
   | brk=>obtain⟨σ7,H7,I7,q7⟩:=q7;exact⟨σ7,H7,I7.Es,q7⟩
   | ret v=>obtain⟨x7,σ7,H7,I7,r7,q7⟩:=q7;exact⟨x7,σ7,H7,I7.Es,r7,q7⟩
abbrev R2:=V->V->Hp->VK->Prop
def zG(X:Cx)(f:Value->Value->Sem Value)(r:R2):Prop:=
 ∀(pins:BC) (s:Shared) (σ:St) (H:Hp) (x y:V) (v u:Value) (Q:VK),Inv X pins σ H s->RelV x v->RelV y u->r x y H Q →
   wpAny Q.d X.A (f v u) (EP X pins σ Q) X.xe s
def UnR(X:Cx)(f:Value->Sem Value)(r:V->Hp->VK->Prop):Prop:=
 ∀(pins:BC) (s:Shared) (σ:St) (H:Hp) (x:V) (v:Value) (Q:VK),Inv X pins σ H s->RelV x v->r x H Q →
   wpAny Q.d X.A (f v) (EP X pins σ Q) X.xe s
def y9(X:Cx)(f:Value)(r:BS->Hp->VK->Prop):Prop:=
 ∀(pins:BC) (s:Shared) (σ:St) (H:Hp) (xs:BS) (us:BY) (Q:VK),Inv X pins σ H s->Vals xs us->r xs H Q →
   wpAny Q.d X.A (call f us) (EP X pins σ Q) X.xe s
def awy(X:Cx)(r:V->Hp->Do->Prop):Prop:=
 ∀(pins:BC) (s:Shared) (σ:St) (H:Hp) (x:V) (v:Value) (Q:Do),Inv X pins σ H s->RelV x v->r x H Q →
   wpAny Q.d X.A (truthy v) (TP X pins σ Q) X.xe s
def tOp(r:R2)(ta tb:TE):TE:=fun σ H Q=>ta σ H fun x H1=>tb σ H1 fun y H2=>r x y H2 Q
def tUn(r:V->Hp->VK->Prop)(ta:TE):TE:=fun σ H Q=>ta σ H fun x H1=>r x H1 Q
def rI(C:Int->Int->Prop)(g:Int->Int->V):R2:=fun x y H Q=>∃i j,x=.int i/\y=.int j/\C i j/\Q (g i j) H
def rI0(g:Int->Int->V):R2:=fun x y H Q=>∃i j,x=.int i/\y=.int j/\Q (g i j) H
def rU(g:Int->V):V->Hp->VK->Prop:=fun x H Q=>∃i,x=.int i/\Q (g i) H
variable{a b:Expr}{ta tb:TE}{f:Value->Value->Sem Value}
def aqo(ha:PE X a ta)(hb:PE X b tb){R:V->V->Hp->Prop}(I:Q.e)
   (h:ta σ H fun x H1=>tb σ H1 fun y H2=>R x y H2) {Q:BM}
   (hf:∀v u s2 x y H2,Inv X pins σ H2 s2->RelV x v->RelV y u->R x y H2->wpAny Q.d X.A (f v u) Q X.xe s2) :
   wpAny Q.d X.A (eval a X.env) (fun v s₁=>wpAny Q.d X.A (eval b X.env) (fun u s₂=>wpAny Q.d X.A (f v u) Q X.xe s₂) X.xe s₁) X.xe s:=by
 refine eZ (ha pins s σ H _ I h) fun v s1 zz=>?_;obtain⟨x,H1,I1,r1,q1⟩:=zz;refine eZ (hb pins s1 σ H1 _ I1 q1) fun u s2 zz=>?_;obtain⟨y,H2,I2,r2,q2⟩:=zz;exact hf v u s2 x y H2 I2 r1 r2 q2
variable{r:R2}
def QI{op:Operator}(ho:zG X (binaryOp op) r)(ha:PE X a ta)(hb:PE X b tb):PE X (.BinOp a op b pos) (tOp r ta tb):=by
 intro pins s σ H Q I h;exact wpAny_BinOp (aqo ha hb I h fun v u s2 x y H2 I2 rx ry q=>ho pins s2 σ H2 x y v u Q I2 rx ry q)
def atl{op:UnaryOp}{r:V->Hp->VK->Prop}(ho:UnR X (unaryOp op) r)(ha:PE X a ta):PE X (.UnaryOp op a pos) (tUn r ta):=by
 intro pins s σ H Q I h;exact UnaryOp_ (eZ (ha pins s σ H _ I h) fun v s1 ⟨x,H1,I1,r1,q1⟩=>ho pins s1 σ H1 x v Q I1 r1 q1)
def opI{C:Int->Int->Prop}{g:Int->Int->Int}
   (rule:∀(i j:Int) (t u:Tok) (s:Shared) (Q:BM) (E:BM),C i j->Q (.int (g i j) s.toks) {s with toks:=s.toks+1}->wpAny Q.d X.A (f (.int i t) (.int j u)) Q E s) :
   zG X f (rI C fun i j=>.int (g i j)):=by
 intro pins s σ H x y v u Q I rx ry h;obtain⟨i,j,rfl,rfl,hc,q⟩:=h;obtain⟨t,rfl⟩:=rx;obtain⟨t',rfl⟩:=ry;exact rule i j t t' s _ _ hc ⟨.int (g i j),H,I.tok _,⟨_,rfl⟩,q⟩
def atm{g:Int->Int->Int}
   (rule:∀(i j:Int) (t u:Tok) (s:Shared) (Q:BM) (E:BM),Q (.int (g i j) s.toks) {s with toks:=s.toks+1}->wpAny Q.d X.A (f (.int i t) (.int j u)) Q E s) :
   zG X f (rI0 fun i j=>.int (g i j)):=by
 intro pins s σ H x y v u Q I rx ry h;obtain⟨i,j,rfl,rfl,q⟩:=h;obtain⟨t,rfl⟩:=rx;obtain⟨t',rfl⟩:=ry;exact rule i j t t' s _ _ ⟨.int (g i j),H,I.tok _,⟨_,rfl⟩,q⟩
def aqp{g:Int->Int->Bool}
   (rule:∀(i j:Int) (t u:Tok) (s:Shared) (Q:BM) (E:BM),Q (.bool (g i j)) s->wpAny Q.d X.A (f (.int i t) (.int j u)) Q E s) :
   zG X f (rI0 fun i j=>.bl (g i j)):=by
 intro pins s σ H x y v u Q I rx ry h;obtain⟨i,j,rfl,rfl,q⟩:=h;obtain⟨t,rfl⟩:=rx;obtain⟨t',rfl⟩:=ry;exact rule i j t t' s _ _ ⟨.bl (g i j),H,I,rfl,q⟩
def atn(i j:Int):Prop:=0<j/\j<1073741824
def ato(i j:Int):Prop:=0<=j/\j<=1000000/\i.natAbs<2 ^ 64
def al9(i j:Int):Prop:=(-(2 ^ 64)<i/\i<2 ^ 64)\/(-(2 ^ 64)<j/\j<2 ^ 64)
theorem al9.ok{i j:Int}(h:al9 i j):IntMulOk i j:=by
 rcases h with⟨h1,h2⟩|⟨h1,h2⟩
 . exact .of_left (intBits_le_64 h1 h2)
 . exact .of_right (intBits_le_64 h1 h2)
def aqq:zG X (binaryOp .Add) (rI0 fun i j=>.int (i+j)):=atm fun _ _ _ _ _ _ _ q=>add_int q
def aqr:zG X (binaryOp .Sub) (rI0 fun i j=>.int (i-j)):=atm fun _ _ _ _ _ _ _ q=>sub_int q
def aqs:zG X (binaryOp .Mult) (rI al9 fun i j=>.int (i*j)):=opI fun _ _ _ _ _ _ _ hc q=>mul_int q hc.ok
def ama:zG X (binaryOp .FloorDiv) (rI atn fun i j=>.int (i / j)):=opI fun i j _ _ _ _ _ hc q=>by
 have h1:(0:Int)<j:=hc.1;have h2:j<1073741824:=hc.2;exact floordiv_int Q.a (by rw[Int.fdiv_eq_ediv_of_nonneg i Q.a];exact q) (.inl (PyProof.noPylong_small Q.a))
def aqt:zG X (binaryOp .Mod) (rI (fun _ j=>0<j) fun i j=>.int (i % j)):=opI fun i j _ _ _ _ _ hc q=>by
 have h1:(0:Int)<j:=hc;exact mod_int' Q.a (by rw[Int.fmod_eq_emod_of_nonneg i Q.a];exact q)
def aqu:zG X (binaryOp .Pow) (rI ato fun i j=>.int (i ^ j.toNat)):=opI fun _ _ _ _ _ _ _ hc q=>pow_int_small hc.1 hc.2.1 hc.2.2 q
def unI{f:Value->Sem Value}{g:Int->Int}
   (rule:∀(i:Int) (t:Tok) (s:Shared) (Q:BM) (E:BM),Q (.int (g i) s.toks) {s with toks:=s.toks+1}->wpAny Q.d X.A (f (.int i t)) Q E s) :
   UnR X f (rU fun i=>.int (g i)):=by
 intro pins s σ H x v Q I rx h;obtain⟨i,rfl,q⟩:=h;obtain⟨t,rfl⟩:=rx;exact rule i t s _ _ ⟨.int (g i),H,I.tok _,⟨_,rfl⟩,q⟩
def aqv:UnR X (unaryOp .USub) (rU fun i=>.int (-i)):=unI fun _ _ _ _ _ q=>neg_int q
def aqw:V->V->Bool
 | .non,.non=>true | .non,.int _=>true | .int _,.non=>true | .non,.bl _=>true | .bl _,.non=>true | .non,.str _=>true | .str _,.non=>true
 | .int _,.int _=>true | .bl _,.bl _=>true | .str _,.str _=>true | .byt _,.byt _=>true
 | .int _,.str _=>true | .str _,.int _=>true | .bl _,.str _=>true | .str _,.bl _=>true
 | _,_=>false
def rEq:R2:=fun x y H Q=>aqw x y=true/\Q (.bl (decide (x=y))) H
def rNe:R2:=fun x y H Q=>aqw x y=true/\Q (.bl (!decide (x=y))) H
def acp{i j:Int}:decide (V.int i=V.int j)=(i==j):=by
 rw[aDo];simp
def ahc{i j:Bool}:decide (V.bl i=V.bl j)=(i==j):=by
 rw[aDo];simp
def acq{i j:Str}:decide (V.str i=V.str j)=(i==j):=by
 rw[aDo];simp
def acr{i j:Array UInt8}:decide (V.byt i=V.byt j)=(i.toList==j.toList):=by
 rw[aDo];cases i;cases j;simp
variable{tc:TE}
def cX{Q:VK}{k k':Bool}(I:Q.e)(q:Q (.bl k) H)(e:k=k'):EP X pins σ Q (.bool k') s:=by
 subst e;exact⟨.bl k,H,I,rfl,q⟩
theorem ahd:zG X (compareOp .Eq) rEq:=by
 intro pins s σ H x y v u Q I rx ry h;obtain⟨hs,q⟩:=h;cases x with
 | non=>
   cases rx;cases y with
   | non=>cases ry;exact PySem.EqNone.eq_none_none (cX I q Uf)
   | bl j=>cases ry;exact PySem.EqNone.eq_none_bool (cX I q Uf)
   | int j=>obtain⟨t',rfl⟩:=ry;exact PySem.EqNone.eq_none_int (cX I q Uf)
   | str j=>obtain⟨t',rfl⟩:=ry;exact PySem.EqNone.eq_none_str (cX I q Uf)
   | _=>exact absurd (show false=true from hs) aBM
 | bl i=>
   cases rx;cases y with
   | non=>cases ry;exact PySem.EqNone.eq_bool_none (cX I q Uf)
   | bl j=>cases ry;exact eq_bool (cX I q ahc)
   | str j=>obtain⟨t',rfl⟩:=ry;exact PySem.EqMixed.eq_bool_str (cX I q Uf)
   | _=>exact absurd (show false=true from hs) aBM
 | int i=>
   obtain⟨t,rfl⟩:=rx;cases y with
   | non=>cases ry;exact PySem.EqNone.eq_int_none (cX I q Uf)
   | int j=>obtain⟨t',rfl⟩:=ry;exact eq_int (cX I q acp)
   | str j=>obtain⟨t',rfl⟩:=ry;exact PySem.EqMixed.eq_int_str (cX I q Uf)
   | _=>exact absurd (show false=true from hs) aBM
 | str i=>
   obtain⟨t,rfl⟩:=rx;cases y with
   | non=>cases ry;exact PySem.EqNone.eq_str_none (cX I q Uf)
   | bl j=>cases ry;exact PySem.EqMixed.eq_str_bool (cX I q Uf)
   | int j=>obtain⟨t',rfl⟩:=ry;exact PySem.EqMixed.eq_str_int (cX I q Uf)
   | str j=>obtain⟨t',rfl⟩:=ry;exact eq_str (cX I q acq)
   | _=>exact absurd (show false=true from hs) aBM
 | byt i=>
   obtain⟨t,rfl⟩:=rx;cases y with
   | byt j=>obtain⟨t',rfl⟩:=ry;exact PySem.W.eq_bytes (cX I q acr)
   | _=>exact absurd (show false=true from hs) aBM
 | _=>cases y<;>exact absurd (show false=true from hs) aBM
theorem ahe:zG X (compareOp .NotEq) rNe:=by
 intro pins s σ H x y v u Q I rx ry h;obtain⟨hs,q⟩:=h;cases x with
 | non=>
   cases rx;cases y with
   | non=>cases ry;exact PySem.EqNone.ne_none_none (cX I q Uf)
   | bl j=>cases ry;exact PySem.EqNone.ne_none_bool (cX I q Uf)
   | int j=>obtain⟨t',rfl⟩:=ry;exact PySem.EqNone.ne_none_int (cX I q Uf)
   | str j=>obtain⟨t',rfl⟩:=ry;exact PySem.EqNone.ne_none_str (cX I q Uf)
   | _=>exact absurd (show false=true from hs) aBM
 | bl i=>
   cases rx;cases y with
   | non=>cases ry;exact PySem.EqNone.ne_bool_none (cX I q Uf)
   | bl j=>cases ry;exact ne_bool (cX I q (congrArg not ahc))
   | str j=>obtain⟨t',rfl⟩:=ry;exact PySem.EqMixed.ne_bool_str (cX I q Uf)
   | _=>exact absurd (show false=true from hs) aBM
 | int i=>
   obtain⟨t,rfl⟩:=rx;cases y with
   | non=>cases ry;exact PySem.EqNone.ne_int_none (cX I q Uf)
   | int j=>obtain⟨t',rfl⟩:=ry;exact ne_int (cX I q (congrArg not acp))
   | str j=>obtain⟨t',rfl⟩:=ry;exact PySem.EqMixed.ne_int_str (cX I q Uf)
   | _=>exact absurd (show false=true from hs) aBM
 | str i=>
   obtain⟨t,rfl⟩:=rx;cases y with
   | non=>cases ry;exact PySem.EqNone.ne_str_none (cX I q Uf)
   | bl j=>cases ry;exact PySem.EqMixed.ne_str_bool (cX I q Uf)
   | int j=>obtain⟨t',rfl⟩:=ry;exact PySem.EqMixed.ne_str_int (cX I q Uf)
   | str j=>obtain⟨t',rfl⟩:=ry;exact ne_str (cX I q (congrArg not acq))
   | _=>exact absurd (show false=true from hs) aBM
 | byt i=>
   obtain⟨t,rfl⟩:=rx;cases y with
   | byt j=>obtain⟨t',rfl⟩:=ry;exact PySem.W.ne_bytes (cX I q (congrArg not acr))
   | _=>exact absurd (show false=true from hs) aBM
 | _=>cases y<;>exact absurd (show false=true from hs) aBM
def acs:zG X (compareOp .Lt) (rI0 fun i j=>.bl (decide (i<j))):=aqp fun _ _ _ _ _ _ _ q=>lt_int q
def acu:zG X (compareOp .LtE) (rI0 fun i j=>.bl (decide (i<=j))):=aqp fun _ _ _ _ _ _ _ q=>le_int q
def atp:zG X (compareOp .Gt) (rI0 fun i j=>.bl (decide (j<i))):=aqp fun _ _ _ _ _ _ _ q=>gt_int q
def aef:zG X (compareOp .In) (fun x y H Q=>∃i j,x=.str i/\y=.str j/\Q (.bl (!(Builtin.Str.occurrences j i 0 j.length 1).isEmpty)) H):=by
 intro pins s σ H x y v u Q I rx ry h;obtain⟨i,j,rfl,rfl,q⟩:=h;obtain⟨t,rfl⟩:=rx;obtain⟨t',rfl⟩:=ry;exact in_str (cX I q rfl)
def RQ:zG X (compareOp .NotIn) (fun x y H Q=>∃i j,x=.str i/\y=.str j/\Q (.bl (!(!(Builtin.Str.occurrences j i 0 j.length 1).isEmpty))) H):=by
 intro pins s σ H x y v u Q I rx ry h;obtain⟨i,j,rfl,rfl,q⟩:=h;obtain⟨t,rfl⟩:=rx;obtain⟨t',rfl⟩:=ry;exact notIn_str (cX I q rfl)
variable{op:CmpOp}
def vR(b:Expr)(h:op ≠ .In:=by decide)(h2:op ≠ .NotIn:=by decide):behindInMarks op b=false:=by
 have e1:(op==CmpOp.In)=false:=by cases op<;>first|rfl|exact absurd rfl h
 have e2:(op==CmpOp.NotIn)=false:=by cases op<;>first|rfl|exact absurd rfl h2
 cases b<;>simp[behindInMarks,e1,e2]
def By(ho:zG X (compareOp op) r)(ha:PE X a ta)(hb:PE X b tb)(hm:behindInMarks op b=false):PE X (.Compare a [op] [b] pos) (tOp r ta tb):=by
 intro pins s σ H Q I h;exact wpAny_Compare1 (aqo ha hb I h fun v u s2 x y H2 I2 rx ry q=>ho pins s2 σ H2 x y v u Q I2 rx ry q) hm
def aoK(t:TE):TT:=fun σ H Q=>t σ H fun x H'=>∃k,x=.bl k/\Q k H'
def BD(ho:zG X (compareOp op) r)(ha:PE X a ta)(hb:PE X b tb)(hm:behindInMarks op b=false):PT X (.Compare a [op] [b] pos) (aoK (tOp r ta tb)):=by
 intro pins s σ H Q I h;refine wpAny_isTrue_Compare1 (eZ (ha pins s σ H _ I h) fun v s1 ⟨x,H1,I1,r1,q1⟩=>eZ (hb pins s1 σ H1 _ I1 q1) fun u s2 ⟨y,H2,I2,r2,q2⟩=>
   eZ (ho pins s2 σ H2 x y v u _ I2 r1 r2 q2) fun c s3 ⟨z,H3,I3,r3,k,e,q3⟩=>?_) hm
 subst e;cases r3;exact aCK ⟨H3,I3,q3⟩
def ahf(r r':R2)(ta tb tc:TE):TE:=fun σ H Q=>ta σ H fun x H1=>tb σ H1 fun y H2=>r x y H2 fun z H3=>∃k,z=.bl k ∧
 (if k=true then tc σ H3 fun w' H4=>r' y w' H4 Q else Q (.bl false) H3)
def ahg{op':CmpOp}{r':R2}(ho:zG X (compareOp op) r)(YC:zG X (compareOp op') r')(ha:PE X a ta)(hb:PE X b tb)(hc:PE X c tc)
   (hm:lastMarks [op,op'] [b,c]=false:=by with_unfolding_all rfl):PE X (.Compare a [op,op'] [b,c] pos) (ahf r r' ta tb tc):=by
 intro pins s σ H Q I h;refine Compare_chain (eZ (ha pins s σ H _ I h) fun v s1 ⟨x,H1,I1,r1,q1⟩=>chain_link (eZ (hb pins s1 σ H1 _ I1 q1) fun u s2 ⟨y,H2,I2,r2,q2⟩=>
   eZ (ho pins s2 σ H2 x y v u _ I2 r1 r2 q2) fun d s3 ⟨z,H3,I3,r3,k,e,q3⟩=>?_)) hm
 subst e;cases r3;refine aCK ?_;cases k with
 | false=>exact ite_ff ⟨.bl false,H3,I3,rfl,q3⟩
 | true=>exact ite_tt (chain_last (eZ (hc pins s3 σ H3 _ I3 q3) fun w' s4 ⟨z',H4,I4,r4,q4⟩=>YC pins s4 σ H4 y z' u w' Q I4 r2 r4 q4))
def ahh{op':CmpOp}{r':R2}(ho:zG X (compareOp op) r)(YC:zG X (compareOp op') r')(ha:PE X a ta)(hb:PE X b tb)(hc:PE X c tc)
   (hm:lastMarks [op,op'] [b,c]=false:=by with_unfolding_all rfl):PT X (.Compare a [op,op'] [b,c] pos) (aoK (ahf r r' ta tb tc)):=by
 intro pins s σ H Q I h;refine isTrue_chain (eZ (ha pins s σ H _ I h) fun v s1 ⟨x,H1,I1,r1,q1⟩=>test_link (eZ (hb pins s1 σ H1 _ I1 q1) fun u s2 ⟨y,H2,I2,r2,q2⟩=>
   eZ (ho pins s2 σ H2 x y v u _ I2 r1 r2 q2) fun d s3 ⟨z,H3,I3,r3,k,e,q3⟩=>?_)) hm
 subst e;cases r3;refine aCK ?_;cases k with
 | false=>
   obtain⟨k',e',q'⟩:=q3;cases e';exact ite_ff ⟨H3,I3,q'⟩
 | true=>
   refine ite_tt (test_last (eZ (hc pins s3 σ H3 _ I3 q3) fun w' s4 ⟨z',H4,I4,r4,q4⟩=>eZ (YC pins s4 σ H4 y z' u w' _ I4 r2 r4 q4) fun d' s5 zz=>?_));obtain⟨z2,H5,I5,r5,k2,e2,q5⟩:=zz;subst e2;cases r5;exact aCK ⟨H5,I5,q5⟩
def atq(K:Frag)(x:V)(H:Hp)(k:Bool):Prop:=
 match x with
 | .non=>k=false
 | .bl b=>k=b
 | .int i=>k=(i != 0)
 | .str y => y.length <= sizeLine /\ k = ((y.length : Int) != 0)
 | .byt y=>y.size<=sizeLine/\k=((y.size:Int) != 0)
 | .ref p=>(∃xs,sX K H p xs/\k=!xs.isEmpty)\/(∃xs,xJ K H p xs/\k=!xs.isEmpty)\/∃aY,H p=some (.dK aY)/\k=!aY.isEmpty
 | _=>False
def YR{κ:Type}{aY:List (κ×V)}{vs:List (κ×Value)}(r:KV aY vs):(!vs.isEmpty)=!aY.isEmpty:=by
 cases r<;>rfl
def L6{its:BY}(r:Vals xs its):(!its.toArray.isEmpty)=!xs.isEmpty:=by
 cases r<;>simp
def C3:(sizeLine:Nat)<2 ^ 63:=by rw[aB8];decide
theorem aqx:awy X (fun x H Q=>∃k,atq X.K x H k/\Q k H):=by
 intro pins s σ H x v Q I rx h;obtain⟨k,e,q⟩:=h;have hl:=C3;have hs:sizeLine=16777216:=aB8;cases x with
 | non=>
   cases rx;have e':k=false:=e;subst e';exact truthy_none ⟨H,I,q⟩
 | bl b=>
   cases rx;have e':k=b:=e;subst e';exact aCK ⟨H,I,q⟩
 | int i=>
   obtain⟨t,rfl⟩:=rx;have e':k=(i != 0):=e;subst e';exact PySem.P.truthy_int ⟨H,I,q⟩
 | str y=>
   obtain⟨t,rfl⟩:=rx;obtain⟨hy,e'⟩:y.length<=sizeLine/\k=((y.length:Int) != 0):=e;subst e';exact PySem.P.truthy_str Q.a ⟨H,I.tok _,q⟩
 | byt y=>
   obtain⟨t,rfl⟩:=rx;obtain⟨hy,e'⟩:y.size<=sizeLine/\k=((y.size:Int) != 0):=e;subst e';exact PySem.W.truthy_bytes Q.a ⟨H,I.tok _,q⟩
 | ref p=>
   cases rx;have e':(∃xs,sX X.K H p xs/\k=!xs.isEmpty)\/(∃xs,xJ X.K H p xs/\k=!xs.isEmpty)\/∃aY,H p=some (.dK aY)/\k=!aY.isEmpty:=e;rcases e' with⟨xs,hx,e'⟩|⟨xs,hx,e'⟩|⟨aY,hx,e'⟩
   . subst e';obtain⟨its,r,pl,hz⟩:=I.list hx;have hlen:=r.length;exact wpAny_truthy_list pl.isList (by simp only[aB7];omega) ⟨H,I.tok _,by rw[L6 r];exact q⟩
   . subst e';obtain⟨its,r,pl,hz⟩:=I.tuple hx;have hlen:=r.length;exact truthy_tuple pl (by simp only[aB7];omega) ⟨H,I.tok _,by rw[L6 r];exact q⟩
   . subst e';obtain⟨hz,hS,vs,r,m⟩:aY.length<=sizeLine/\(p==sysModules)=false/\∃vs,KV aY vs/\s.heap.DictOf (je X.prog X.w) p vs:=I.dI p _ hx;have hlen:aY.length=vs.length:=Paired.length r;exact wpAny_truthy_dict hS m Q.a ⟨H,I.tok _,by rw[YR r];exact q⟩
 | _=>exact(show False from e).elim
def ahi(ha:PE X a ta)(he:∀whole,isTrue a X.env whole=(do let v ← whole;standAt a.pos;holding [v] (truthy v))) :
   PT X a (fun σ H Q=>ta σ H fun x H'=>∃k,atq X.K x H' k/\Q k H'):=by
 intro pins s σ H Q I h;exact isTrue_plain (eZ (ha pins s σ H _ I h) fun v s1 ⟨x,H1,I1,r1,q1⟩=>aqx pins s1 σ H1 x v Q I1 r1 q1) (he _)
def YS:zG X (binaryOp .Add) (fun x y H Q=>∃i j,x=.str i/\y=.str j/\i.length+j.length<=sizeLine/\Q (.str (i++j)) H):=by
 intro pins s σ H x y v u Q I rx ry h;obtain⟨i,j,rfl,rfl,hz,q⟩:=h;obtain⟨t,rfl⟩:=rx;obtain⟨t',rfl⟩:=ry;exact add_str (fun t' tk=>⟨.str (i++j),H,I.tok _,⟨_,rfl⟩,q⟩) hz
theorem vals1{x:V}(r:Vals [x] us):∃u,us=[u]/\RelV x u:=by
 cases r with
 | cons r1 r2=>cases r2;exact⟨_,rfl,r1⟩
theorem vals2{x y:V}(r:Vals [x,y] us):∃u w',us=[u,w']/\RelV x u/\RelV y w':=by
 cases r with
 | cons r1 r2=>
   cases r2 with
   | cons r3 r4=>cases r4;exact⟨_,_,rfl,r1,r3⟩
def aeg(hc:X.calm=true):y9 X (.builtin "min") (fun xs H Q=>∃i j,xs=[.int i,.int j]/\Q (.int (if j<i then j else i)) H):=by
 intro pins s σ H xs us Q I r h;obtain⟨i,j,rfl,q⟩:=h;obtain⟨u,w',rfl,⟨t,rfl⟩,⟨t',rfl⟩⟩:=vals2 r;refine min_two_ints (I.ok.hd hc) fun h' tk k=>⟨_,H,I.kept k,?_,q⟩;by_cases hj:j<i
 . rw[aBE hj,aBE hj];exact⟨_,rfl⟩
 . rw[aBx hj,aBx hj];exact⟨_,rfl⟩
def RT:y9 X (.type "str") (fun xs H Q=>∃i,xs=[.int i]/\i.natAbs.log2<1920/\Q (.str (toString i)) H):=by
 intro pins s σ H xs us Q I r h;obtain⟨i,rfl,hz,q⟩:=h;obtain⟨u,rfl,t,rfl⟩:=vals1 r;exact PySem.P.str_of_int hz ⟨.str _,H,I.tok _,⟨_,rfl⟩,q⟩
structure aeh(h:Heap)(x dx C:Addr)(mA:B0):Prop where
 obj:h.get? x=some (instObj C dx)
 ns:h.Ns1 dx mA
 ne:dx≠x
variable{dx:Addr}
def aei{mA:B0}(n:h.Ns1 dx mA):∃od,h.get? dx=some od/\∀name,lookIn name od=some (mA name):=by
 obtain⟨o,es,ep,ho,hd,hk,_,hm⟩:=n;refine⟨o,ho,fun name=>?_⟩;have e:=hm name;unfold nsFind findBy at e;rw[← Array.find?_toList]at e;unfold lookIn;rw[hd];dsimp only;split
 . rename_i y q;rw[q]at e;exact congrArg some e
 . rename_i q;rw[q]at e;have a:es.toList.any (·.refKey)=false:=by
     rw[List.any_eq_false];intro y hy;obtain⟨z,t,awz⟩:=hk y (Array.mem_toList_iff.mp hy);simp[DictEntry.refKey,awz]
   have a':¬ es.toList.any (·.refKey)=true:=by rw[a];exact aBM
   rw[aBx a'];exact congrArg some e
variable{C:Addr}
theorem aeh.look{mA:B0}(I:aeh h x dx C mA):∃od,PySem.W.InstAt h x (instObj C dx) C (some od)/\∀name,lookIn name od=some (mA name):=
 let ⟨od,ho,hl⟩:=aei I.ns
 ⟨od,⟨I.obj,rfl,rfl,ho⟩,hl⟩
variable{prog:Program}{f:Addr}{mA:B0}{name:Str}{v:Value}
def get_map{expr:Bool}{Q:BM}(X:K.In s.heap)(I:aeh s.heap x dx C mA)(hg:plainGet K C name=true)(hh:hasDictIn K C=true)
   (ha:findIn K (.ref C) name=some none) (hv:mA name=some v) (hv':handedIn v=true) (h:Q v {s with toks:=s.toks+1}) :
   wpAny (model prog w) A (getAttr (.ref x) name expr) Q E s:=by
 obtain⟨od,J,hl⟩:=I.look;exact PySem.W.get_value X J (PySem.W.plainGet_of hg).1 (PySem.W.findObj_own hh ha rfl (by rw[hl,hv])) hv' h
def amb{ns:AT}(X:K.In s.heap)(I:aeh s.heap x dx C mA)
   (hs:findIn K (.ref C) "__setattr__" = some (some (.builtin "object.__setattr__"))) (hp:plainOver K C=true) (ht:takerIn K C name=some none) (hh:hasDictIn K C=true)
   (hw:PySem.Within mA ns) (hsz:ns.length<=sizeLine)
   (h:∀h',aeh h' x dx C (fun y=>if y=name then some v else mA y)->Heap.SameBut dx s.heap h'->Q () {s with heap:=h',toks:=s.toks+2}) :
   wpAny (model prog w) A (setAttr (.ref x) name v) Q E s:=by
 obtain⟨od,J,hl⟩:=I.look;refine PySem.W.set_plain X J hs (PySem.W.osa_open (s:={s with toks:=s.toks+1}) (r:=none) X J hp ht fun b=>?_);obtain⟨cd,hc,hd'⟩:=PySem.W.any_some hh;have hx:s.heap.get? x=some ⟨.ref C,some dx,.plain,#[]⟩:=I.obj;refine aBY (aCb (aBY (aBY (wpAny_loadPart hx (aBY (PySem.W.Looks.here (s:={s with toks:=s.toks+1}) (PySem.W.looks_clsIn X hc) ?_))))));rw[hd'];refine aCb (a:=some dx) (aBY (aCb (aBY ?_)));refine wpAny_nsSet1 (s:={s with toks:=s.toks+1}) I.ns fun h' hn2 zF=>?_;obtain⟨oD,esD,epD,hoD,hdD,hcD⟩:=hn2.count (PySem.Within.cons name v hw);refine aBY (wpAny_lookBehind hoD (by rw[hdD];exact pastItsLine_dict (aCa hcD (by rw[aBP];omega))) ?_);exact aCb (h _ ⟨(zF.2 _ (aC0 I.ne)).trans I.obj,hn2,I.ne⟩ zF)
abbrev _root_.Co:=List (Str×Value)
def ahj{R:Result->Shared->Prop}{vs:BY}{kw:Co}(X:K.In s.heap)(hm:makesIn K C=true)
   (hi:findIn K (.ref C) "__init__" = some (some (.ref f))) (hf:PySem.W.typeIn K (.ref f)=some (.type "function"))
   (h:codeAny (model prog w) (A.under (.builtin "type.__call__" ⟨.ref C::vs,kw⟩)) (.call (.ref f) ⟨.ref (s.heap.objs.size+1)::vs,kw⟩) (PySem.W.InitBack (s.heap.objs.size+1) R)
     {s with heap:=(s.heap.push emptyDict).push (instObj C s.heap.objs.size)}) :
   codeAny (model prog w) A (.call (.ref C) ⟨vs,kw⟩) R s:=by
 obtain⟨hh,g,d,t,os⟩:=s;exact PySem.W.make_core (PySem.W.makes_of X hm) (PySem.W.looks_findIn X hi) (fun self=>PySem.W.bind_fn X self hf) (.inl rfl) h
def sY(f:Str)(v:V):Bi->Bi
 | []=>[(f,v)]
 | (g,x)::r=>if g=f then(g,v)::r else(g,x)::sY f v r
theorem Jc(f g:Str)(v:V):∀fs:Bi,(sY f v fs).lookup g=if g=f then some v else fs.lookup g
 | []=>by
   show List.lookup g [(f,v)]=_;by_cases h:g=f
   . have hb:(g==f)=true:=aDh.mpr h;simp only[List.lookup,hb,aBE h]
   . have hb:(g==f)=false:=aCR.mpr h;simp only[List.lookup,hb,aBx h]
 | (k,x)::r=>by
   have ih:=Jc f g v r;rw[show sY f v ((k,x)::r)=(if k=f then(k,v)::r else(k,x)::sY f v r) from rfl];by_cases hk:k=f
   . rw[aBE hk];by_cases h:g=k
     . have hb:(g==k)=true:=aDh.mpr h;simp only[List.lookup,hb,aBE (h.trans hk)]
     . have hb:(g==k)=false:=aCR.mpr h;simp only[List.lookup,hb,aBx (fun e:g=f=>h (e.trans hk.symm))]
   . rw[aBx hk];by_cases h:g=k
     . have hb:(g==k)=true:=aDh.mpr h;simp only[List.lookup,hb,aBx (fun e:g=f=>hk (h.symm.trans e))]
     . have hb:(g==k)=false:=aCR.mpr h;simp only[List.lookup,hb];exact ih
theorem GB(f:Str)(v:V):∀fs:Bi,f∈(sY f v fs).map (·.1)/\∀g,g∈fs.map (·.1)->g∈(sY f v fs).map (·.1)
 | []=>⟨by simp[sY],fun g h=>by simp at h⟩
 | (k,x)::r=>by
   obtain⟨i1,i2⟩:=GB f v r;rw[show sY f v ((k,x)::r)=(if k=f then(k,v)::r else(k,x)::sY f v r) from rfl];by_cases hk:k=f
   . rw[aBE hk];subst hk;exact⟨Uf,fun g h=>by simpa using h⟩
   . rw[aBx hk];refine⟨?_,fun g h=>?_⟩
     . rw[aBK];exact aBt _ i1
     . rw[aBK]at h ⊢;rcases aBq.mp h with e|e
       . exact aBq.mpr (.inl e)
       . exact aBt _ (i2 g e)
theorem Jd(f:Str)(v:V):∀fs:Bi,(sY f v fs).length<=fs.length+1
 | []=>by simp[sY]
 | (k,x)::r=>by
   have ih:=Jd f v r;rw[show sY f v ((k,x)::r)=(if k=f then(k,v)::r else(k,x)::sY f v r) from rfl];by_cases hk:k=f
   . rw[aBE hk,aBP,aBP];omega
   . rw[aBx hk,aBP,aBP];omega
theorem GA.some_of{v:V}{o:Option Value}(r:GA (some v) o):∃u,o=some u/\RelV v u:=by
 cases o with
 | none=>exact(show False from r).elim
 | some u=>exact⟨u,rfl,r⟩
theorem aej{v:V}(r:RelV v u):handedIn u=true:=by
 cases v with
 | non=>cases (show u=Value.none from r);rfl
 | bl b=>cases (show u=Value.bool b from r);rfl
 | int i=>obtain⟨t,e⟩:=(show ∃t,u=Value.int i t from r);cases e;rfl
 | str x=>obtain⟨t,e⟩:=(show ∃t,u=Value.str x t from r);cases e;rfl
 | byt b=>obtain⟨t,e⟩:=(show ∃t,u=Value.bytes b t from r);cases e;rfl
 | flt b=>obtain⟨t,e⟩:=(show ∃t,u=Value.float b t from r);cases e;rfl
 | ref a=>cases (show u=Value.ref a from r);rfl
 | ty n=>cases (show u=Value.type n from r);rfl
variable{a:Addr}{fs:Bi}
def acv(dI:En P w H h)(e:H a=some (.ins C dx fs)):∃mA,aeh h a dx C mA/\(∀f,GA (fs.lookup f) (mA f))/\PySem.Within mA (fs.map (·.1))/\fs.length<=1000/\H dx=some (.own a):=by
 obtain⟨d,z,ne,ob,mA,n,r,q⟩:=(show lu P w H h a (.ins C dx fs) from dI a _ e);exact⟨mA,⟨ob,n,ne⟩,r,q,z,d⟩
structure xM(K:Frag)(C:Addr):Prop where
 pg:plainGet K C Str.empty=true
 hd:hasDictIn K C=true
 po:plainOver K C=true
 sa:findIn K (.ref C) "__setattr__" = some (some (.builtin "object.__setattr__"))
theorem xM.get(c:xM K C)(f:Str):plainGet K C f=true:=c.pg
def aO(K:Frag)(C:Addr)(f:Str):Prop:=findIn K (.ref C) f=some none
theorem aO.atr{f:Str}(n:aO K C f):takerIn K C f=some none:=by
 unfold takerIn;rw[show findIn K (.ref C) f=some none from n];rfl
variable{f:Str}{v:V}
def YT{b:Bool}{Q:BM}(I:Q.e)(e:H a=some (.ins C dx fs))(c:xM X.K C)(n:aO X.K C f)(l:fs.lookup f=some v)
   (h:∀u s',Inv X pins σ H s'->RelV v u->Q u s'):wpAny Q.d A (getAttr (.ref a) f b) Q E s:=by
 obtain⟨mA,O,r,_,_,_⟩:=acv I.dI e;obtain⟨u,hu,ru⟩:=GA.some_of (v:=v) (o:=mA f) (by rw[← l];exact r f);exact get_map I.QG O (c.get f) c.hd n hu (aej ru) (h u _ (I.tok _) ru)
def YV{y:V}(I:Q.e)(e:H a=some (.ins C dx fs))(c:xM X.K C)(n:aO X.K C f)(hl:fs.length<1000)(ry:RelV y u)
   (h:∀s',Inv X pins σ (upd H a (.ins C dx (sY f y fs))) s'->Q () s'):wpAny Q.d A (setAttr (.ref a) f u) Q E s:=by
 obtain⟨mA,O,r,wi,_,ho⟩:=acv I.dI e;have hz:(fs.map (·.1)).length<=sizeLine:=by rw[aBp,aB8];omega
 refine amb I.QG O c.sa c.po n.atr c.hd wi hz fun h' O' sb=>h _ ?_;have hd:∃o,h'.get? dx=some o:=let ⟨o,_,_,e',_⟩:=O'.ns;⟨o,e'⟩;refine I.write (x:=a) (e:=dx) (by rw[e];exact True.intro) (.inr ho) (fun b q hb z=>(sb.2 b hb).trans z) hd ?_;refine⟨by rw[aA O.ne];exact ho,?_,O.ne,O'.obj,_,O'.ns,fun g=>?_,fun g hg=>?_⟩
 . have:=Jd f y fs;omega
 . show GA ((sY f y fs).lookup g) (if g=f then some u else mA g);rw[Jc];by_cases q:g=f
   . rw[aBE q,aBE q];exact ry
   . rw[aBx q,aBx q];exact r g
 . by_cases q:g=f
   . rw[q];exact(GB f y fs).1
   . refine(GB f y fs).2 g (wi g fun z=>hg ?_);show(if g=f then some u else mA g)=none;rw[aBx q];exact z
theorem Inv.made(I:Q.e):Inv X pins σ (upd (upd H s.heap.objs.size (.own (s.heap.objs.size+1))) (s.heap.objs.size+1) (.ins C s.heap.objs.size []))
   {s with heap:=(s.heap.push emptyDict).push (instObj C s.heap.objs.size)}:=by
 have e1:(s.heap.push emptyDict).get? s.heap.objs.size=some emptyDict:=aCh s.heap rfl;have e2:((s.heap.push emptyDict).push (instObj C s.heap.objs.size)).get? (s.heap.objs.size+1)=some (instObj C s.heap.objs.size):=by
   have:=aCh (s.heap.push emptyDict) (o:=instObj C s.heap.objs.size) rfl
   rwa [Heap.size_push]at this
 have e3:(s.heap.push emptyDict).Ns s.heap.objs.size (fun _=>none):=⟨emptyDict,#[],_,e1,rfl,(fun e he=>absurd he Uf),fun _=>rfl⟩;have I1:=I.laid (a:=s.heap.objs.size) (o:=.own (s.heap.objs.size+1)) (h':=s.heap.push emptyDict) (t':=s.toks) (fun b u q=>aBU _ q) (aBD _) ⟨_,e1⟩;refine I1.laid (a:=s.heap.objs.size+1) (o:=.ins C s.heap.objs.size []) (t':=s.toks) (fun b u q=>aBU _ q) (Nat.le_of_eq (Heap.size_push _ _)) ?_;have ne:s.heap.objs.size≠s.heap.objs.size+1:=aCq (aC6 _);refine⟨by rw[aA ne,bA],aB0 _,ne,e2,fun _=>none,(Heap.Ns1.of_empty e3).at fun o q=>aBU _ q,fun _=>True.intro,fun y hy=>absurd rfl hy⟩
def amc{env:Env}{e:Expr}{Q:BM}(hb:attributeBase e f env (eval e env)=eval e env)
   (h:wpAny (model prog w) A (eval e env) (fun o s₁=>wpAny (model prog w) A (getAttr o f true) Q E s₁) E s):wpAny (model prog w) A (eval (.Attribute e f pos) env) Q E s:=
 Attribute_any_ h (by rw[arm_eval_Attribute,hb])
def awA(K:Frag)(ta:TE)(f:Str):TE:=fun σ H Q=>ta σ H fun x H1=>∃a C dx fs v,x=.ref a/\H1 a=some (.ins C dx fs)/\xM K C/\aO K C f/\fs.lookup f=some v/\Q v H1
def awB(K:Frag)(ta tv:TE)(f:Str):TS:=fun D σ H=>tv σ H fun y H1=>ta σ H1 fun x H2=>∃a C dx fs,x=.ref a/\H2 a=some (.ins C dx fs)/\xM K C/\aO K C f/\fs.length<1000 ∧
 D.nx σ (upd H2 a (.ins C dx (sY f y fs)))
variable{o e value:Expr}{pos':Pos}{tv:TE}
def YW(he:PE X e ta)(hb:AS X e f):PE X (.Attribute e f pos) (awA X.K ta f):=by
 intro pins s σ H Q I h;refine amc hb (eZ (he pins s σ H _ I h) fun u s1 zz=>?_);obtain⟨x,H1,I1,rx,a,C,dx,fs,v,ex,ea,c,n,l,q⟩:=zz;subst ex;obtain rfl:u=Value.ref a:=rx;exact YT I1 ea c n l fun u' s2 I2 ru=>⟨v,H1,I2,ru,q⟩
def aqy(ha:PE X o ta)(hv:PE X value tv)(hs:swapsWith value (some (.Attribute o f pos')) pos.line X.env=pure false):PS X (.Assign [.Attribute o f pos'] value pos) (awB X.K ta tv f):=by
 intro pins s σ H D I h;refine plainObj_wpAny_Assign_Attribute (eZ (hv pins s σ H _ I h) fun u s1 ⟨y,H1,I1,ry,q⟩=>eZ (ha pins s1 σ H1 _ I1 q) fun ov s2 zz=>?_) hs;obtain⟨x,H2,I2,rx,a,C,dx,fs,ex,ea,c,n,l,q2⟩:=zz;subst ex;obtain rfl:ov=Value.ref a:=rx;exact YV I2 ea c n l ry fun s3 I3=>⟨σ,_,I3,q2⟩
structure mw(k:Nat)(A:Around):Prop where
 hd:A.handled=none
 dp:A.depth+3*k+5<recursionLimit
 un:A.units+16*k+200<cLine
theorem mw.mono{j:Nat}(r:mw k A)(h:j<=k):mw j A:=⟨r.hd,by have:=r.dp;omega,by have:=r.un;omega⟩
theorem mw.deeper(r:mw (k+1) A)(env:Env):mw k (A.deeper env):=
 ⟨r.hd,by have:=r.dp;show A.depth+1+3*k+5<_;omega,by have:=r.un;show A.units+3+16*k+200<_;omega⟩
def YX{kw:Co}:(A.under (.builtin "type.__call__" ⟨.ref C::us,kw⟩)).depth=A.depth+1:=by
 first|rfl|simp[Around.under,Code.weight,Code.isCreation,Code.isGuard,Code.isCaller,Code.frames,Code.isFrame,guardIds]
def YY{kw:Co}:(A.under (.builtin "type.__call__" ⟨.ref C::us,kw⟩)).units=A.units+1:=by
 first|rfl|simp[Around.under,Code.cUnits,Code.frames,Code.isFrame]
theorem mw.make(r:mw (k+1) A)(C:Addr)(us:BY)(kw:Co):mw k (A.under (.builtin "type.__call__" ⟨.ref C::us,kw⟩)):=
 ⟨r.hd,by have:=r.dp;rw[YX];omega,by have:=r.un;rw[YY];omega⟩
theorem mw.depth(r:mw k A):A.depth<recursionLimit:=by have:=r.dp;omega
theorem mw.units(r:mw k A):A.units+64<cLine:=by have:=r.un;omega
def awC:TA:=fun _ H Q=>Q [] H
def ats(ta:TE)(tr:TA):TA:=fun σ H Q=>ta σ H fun x H1=>tr σ H1 fun xs H2=>Q (x::xs) H2
variable{t:TA}
def dQ:PA X [] awC:=fun _ _ _ _ H Q I h=>Calls.spliced_nil ⟨[],H,I,.nil,h⟩
def bW(ha:PE X e te)(hr:PA X es t)(hs:AC X e es:=by rfl):PA X (e::es) (ats te t):=by
 intro pos pins s σ H Q I h;rw[hs];show wpAny _ _ (spliced ((false,eval e X.env)::backTo pos (starEach es X.env))) _ _ s;refine Calls.spliced_cons (eZ (ha pins s σ H _ I h) fun u s1 zz=>?_);obtain⟨x,H1,I1,r1,q1⟩:=zz;exact eZ (hr pos pins s1 σ H1 _ I1 q1) fun us s2 ⟨xs,H2,I2,r2,q2⟩=>⟨x::xs,H2,I2,.cons r1 r2,q2⟩
def awD(t:TA):TE:=fun σ H Q=>t σ H fun xs H1=>xs.length<=sizeLine/\∀p,H1 p=none->Q (.ref p) (upd H1 p (.tup xs))
def awE(t:TA):TE:=fun σ H Q=>t σ H fun xs H1=>xs.length<=sizeLine/\∀p,H1 p=none->Q (.ref p) (upd H1 p (.lst xs))
def aqz{x1}(h:PA X es t):PE X (.Tuple es x1 pos) (awD t):=by
 intro pins s σ H Q I hq;refine wpAny_Tuple_spliced (eZ (h pos pins s σ H _ I hq) fun us s1 ⟨xs,H1,I1,r,z,q⟩=>⟨by rw[← r.length];exact z,?_⟩);have hf:H1 s1.heap.objs.size=none:=I1.dI.fresh (aBD _);refine⟨.ref s1.heap.objs.size,upd H1 s1.heap.objs.size (.tup xs),I1.laid (t':=s1.toks) (fun b u e=>aBU _ e) (aBD _) ?_,rfl,q _ hf⟩;exact⟨z,us,r,⟨_,aCh _ rfl,rfl,_,rfl⟩⟩
def aqA(h:PA X es t):PE X (.List es pos) (awE t):=by
 intro pins s σ H Q I hq;refine wpAny_List_spliced (eZ (h pos pins s σ H _ I hq) fun us s1 ⟨xs,H1,I1,r,z,q⟩=>⟨by rw[← r.length];exact z,?_⟩);have hf:H1 s1.heap.objs.size=none:=I1.dI.fresh (aBD _);refine⟨.ref s1.heap.objs.size,upd H1 s1.heap.objs.size (.lst xs),I1.laid (t':=s1.toks) (fun b u e=>aBU _ e) (aBD _) ?_,rfl,q _ hf⟩;exact⟨z,us,0,r,aCh _ rfl⟩
abbrev Sp:=BS->Hp->VK->XK->Prop
abbrev CXT:=Da->Hp->Shared->XK->Value->Shared->Prop
structure YZ(P:Program)(w:World)(K:Frag)(mg:B0)(base:Heap)(A:Around)(outer:Da)(s:Shared)(H:Hp):Prop where
 frames:A.frames=some outer
 mod:Mod K mg base
 bs:∀b o,base.get? b=some o->s.heap.get? b=some o/\H b=none
 bsz:base.objs.size<=s.heap.objs.size
 JX:s.heap.FunFrames base outer
 frf:∀b∈frs outer,H b=none
 dI:En P w H s.heap
 bare:AllBare s.gens
def CE(outer:Da)(P:Program)(w:World)(H:Hp)(s:Shared)(Q:VK)(u:Value)(s':Shared):Prop:=
 ∃v H',s'.os=s.os/\AllBare s'.gens/\Un (frs outer) [] H H' s.heap s'.heap/\En P w H' s'.heap/\RelV v u/\Q v H'
def CR(CX:CXT)(outer:Da)(P:Program)(w:World)(H:Hp)(s:Shared)(Q:VK)(E:XK)(r:Result)(s':Shared):Prop:=
 match r with
 | .ok (.ret u)=>CE outer P w H s Q u s'
 | .ok _=>False
 | .error e=>CX outer H s E e s'
structure oS(P:Program)(w:World)(K:Frag)(mg:B0)(base:Heap)(CX:CXT)(k:Nat)(f:Addr)(fd:FuncData)(ps:AT)(sp:Sp):Prop where
 len:∀vs H Q E,sp vs H Q E->vs.length=ps.length
 run:∀(A:Around) (outer:Da) (s:Shared) (H:Hp) (args:Args) (us:BY) (vs:BS) (Q:VK) (E:XK),mw k A->YZ P w K mg base A outer s H->BindsTo s fd args (ps.zip us)->Vals vs us->sp vs H Q E →
   codeAny (model P w) A (.call (.ref f) args) (CR CX outer P w H s Q E) s
variable{mg:B0}{base:Heap}{CX:CXT}{ps:AT}
theorem oS.imp{f:Addr}{fd:FuncData}{sp sp':Sp}(F:oS P w K mg base CX k f fd ps sp)
   (h:∀vs H Q E,sp' vs H Q E->sp vs H Q E):oS P w K mg base CX k f fd ps sp':=
 ⟨fun vs H Q E q=>F.len vs H Q E (h _ _ _ _ q),fun A outer s H args us vs Q E hr he hb hv hs=>F.run A outer s H args us vs Q E hr he hb hv (h _ _ _ _ hs)⟩
theorem YZ.make{outer:Da}(e:YZ P w K mg base A outer s H)(C:Addr)(us:BY)(kw:Co) :
   YZ P w K mg base (A.under (.builtin "type.__call__" ⟨.ref C::us,kw⟩)) outer s H:=⟨by first|exact e.frames|(simpa [Around.under,Code.envs,Code.isFrame,pushEnvs] using e.frames),e.mod,e.bs,e.bsz,e.JX,e.frf,e.dI,e.bare⟩
variable{s':Shared}
theorem Inv.att(I:Q.e):YZ X.prog X.w X.K X.mg X.base X.A X.stack s H:=
 ⟨I.ok.frames,I.ok.mod,I.bs,aCa I.ok.bsz I.sz,I.stack,I.acm,I.dI,I.bare⟩
theorem Inv.after{Q:VK}(I:Q.e)(h:CE X.stack X.prog X.w H s Q u s'):EP X pins σ Q u s':=by
 obtain⟨v,H',os,bare,un,dI,r,q⟩:=h;obtain⟨hh,g,d,t,os'⟩:=s';obtain rfl:os'=s.os:=os;exact⟨v,H',I.call (h':=hh) (g':=g) (d':=d) (t':=t) (ch:=[]) un dI bare (fun b z=>absurd z Uf),r,q⟩
def atu(sp:Sp)(Y0:BS)(E:XK)(t:TA):TE:=fun σ H Q=>t σ H fun vs H1=>sp (vs++Y0) H1 Q E
def atv(C:Addr)(sp:Sp)(Y0:BS)(E:XK)(t:TA):TE:=fun σ H Q=>t σ H fun vs H1=>∀x dx,H1 x=none->H1 dx=none->dx≠x →
 sp (.ref x::(vs++Y0)) (upd (upd H1 dx (.own x)) x (.ins C dx [])) (fun v H2=>v=.non/\Q (.ref x) H2) E
def Binds(K:Frag)(fd:FuncData)(ps:AT)(ds:BY):Prop:=
 ∀(s:Shared) (us:BY),K.In s.heap->(us++ds).length=ps.length->BindsTo s fd ⟨us,[]⟩ (ps.zip (us++ds))
theorem Binds.all{fd:FuncData}(h:∀us:BY,us.length=ps.length->bindArgs fd ⟨us,[]⟩=pure (ps.zip us)):Binds K fd ps []:=fun s us _ hl=>by
 rw[aBW]at hl ⊢;exact .of_eq (h us hl)
def Passes(CX:CXT)(X:Cx)(E:XK):Prop:=∀(pins:BC) (σ:St) (H:Hp) (s:Shared) (e:Value) (s':Shared),Inv X pins σ H s->CX X.stack H s E e s'->X.xe e s'
section
variable{f:Addr}{fd:FuncData}{sp:Sp}{Y0:BS}{ds:BY}{E:XK}{x:Str}
def aqB{Q:VK}{vs:BS}(F:oS X.prog X.w X.K X.mg X.base CX k f fd ps sp)(hr:mw k X.A)(hb:Binds X.K fd ps ds)(hd:Vals Y0 ds)(hx:Passes CX X E)
   (I:Q.e) (r:Vals vs us) (h:sp (vs++Y0) H Q E):wpAny Q.d X.A (call (.ref f) us) (EP X pins σ Q) X.xe s:=by
 have r2:Vals (vs++Y0) (us++ds):=r.append hd;have hl:(us++ds).length=ps.length:=by rw[← r2.length];exact F.len _ _ _ _ h
 refine wpAny_call (aDV (F.run X.A X.stack s H ⟨us,[]⟩ (us++ds) (vs++Y0) Q E hr I.att (hb s us I.QG hl) r2 h) fun r s' hq=>?_);cases r with
 | error e=>exact hx pins σ H s e s' I hq
 | ok fl=>
   cases fl with
   | ret u=>exact I.after hq
   | next=>exact False.elim hq
   | brk=>exact False.elim hq
   | cont=>exact False.elim hq
def acw(F:oS X.prog X.w X.K X.mg X.base CX k f fd ps sp)(hr:mw k X.A)(hg:Gl X x)(hm:X.mg x=some (.ref f))(hk:keepIn X.K (.ref f)=true)(hb:Binds X.K fd ps ds)(hd:Vals Y0 ds)(hx:Passes CX X E)
   (ha:PA X (e::es) t) (Qd:AD x:=by decide) (he:AC X e es:=by rfl) (hpl:AL X pos es:=by rfl) :
   PE X (.Call (.Name x p) (e::es) [] pos) (atu sp Y0 E t):=by
 intro pins s σ H Q I h;refine aDW (Bw I hg hm ?_ Qd);refine callWith_K (h₀:=X.base) I.ok.mod.kin hk (eZ (ha pos pins s σ H _ I h) fun us s1 ⟨vs,H1,I1,r,q⟩=>⟨I1.QG,?_⟩) he hpl;exact aqB F hr hb hd hx I1 r q
structure Mk(K:Frag)(C f:Addr):Prop where
 makes:makesIn K C=true
 init:findIn K (.ref C) "__init__" = some (some (.ref f))
 fn:isFn K (.ref f)=true
 kp:keepIn K (.ref C)=true
def ahl{Q:VK}{vs:BS}(M:Mk X.K C f)(F:oS X.prog X.w X.K X.mg X.base CX k f fd ps sp)(hr:mw (k+1) X.A)(hb:Binds X.K fd ps ds)(hd:Vals Y0 ds)
   (hx:Passes CX X E) (I:Q.e) (r:Vals vs us)
   (h:∀x dx,H x=none->H dx=none->dx≠x->sp (.ref x::(vs++Y0)) (upd (upd H dx (.own x)) x (.ins C dx [])) (fun v H2=>v=.non/\Q (.ref x) H2) E) :
   wpAny Q.d X.A (call (.ref C) us) (EP X pins σ Q) X.xe s:=by
 have hq:=h (s.heap.objs.size+1) s.heap.objs.size (I.dI.fresh (aDi _)) (I.dI.fresh (aBD _)) (aCq (aC6 _));have I2:=Inv.made (C:=C) I;have r2:Vals (V.ref (s.heap.objs.size+1)::(vs++Y0)) (Value.ref (s.heap.objs.size+1)::(us++ds)):=.cons rfl (r.append hd);have hl:(Value.ref (s.heap.objs.size+1)::us++ds).length=ps.length:=by
   have e:=r2.length;rw[F.len _ _ _ _ hq]at e;exact e.symm
 refine wpAny_call (ahj (f:=f) I.QG M.makes M.init (aDh.mp M.fn) (aDV (F.run _ X.stack _ _ ⟨Value.ref (s.heap.objs.size+1)::us,[]⟩ (Value.ref (s.heap.objs.size+1)::(us++ds)) _ _ E (hr.make C us [])
   (I2.att.make C us []) (hb _ (Value.ref (s.heap.objs.size+1)::us) I2.QG hl) r2 hq) fun r s' Ve=>?_))
 cases r with
 | error e=>exact hx pins σ _ _ e s' I2 Ve
 | ok fl=>
   cases fl with
   | ret u=>
     obtain⟨v,H',I3,rv,ev,q3⟩:=I2.after Ve;subst ev;exact⟨rv,⟨V.ref (s.heap.objs.size+1),H',I3,rfl,q3⟩⟩
   | next=>exact False.elim Ve
   | brk=>exact False.elim Ve
   | cont=>exact False.elim Ve
def acy(M:Mk X.K C f)(F:oS X.prog X.w X.K X.mg X.base CX k f fd ps sp)(hr:mw (k+1) X.A)(hg:Gl X x)(hm:X.mg x=some (.ref C))(hb:Binds X.K fd ps ds)(hd:Vals Y0 ds)(hx:Passes CX X E)
   (ha:PA X (e::es) t) (Qd:AD x:=by decide) (he:AC X e es:=by rfl) (hpl:AL X pos es:=by rfl) :
   PE X (.Call (.Name x p) (e::es) [] pos) (atv C sp Y0 E t):=by
 intro pins s σ H Q I h;refine aDW (Bw I hg hm ?_ Qd);refine callWith_K (h₀:=X.base) I.ok.mod.kin M.kp (eZ (ha pos pins s σ H _ I h) fun us s1 ⟨vs,H1,I1,r,q⟩=>⟨I1.QG,?_⟩) he hpl;exact ahl M F hr hb hd hx I1 r q
end
structure gF(N P:AT)(sc:Scope):Prop where
 kind:sc.kind=.function
 co:sc.isCoroutine=false
 gen:sc.isGenerator=false
 nd:N.Nodup
 pre:N.take P.length=P
 par:∀x∈P,sc.names.lookup x=some .local\/sc.names.lookup x=some .cell
 aqC:∀y∈sc.names,y.2 ≠ .free
theorem QJ{kindOf:Str->Option NameKind}{x:Str}:∀{binds:Co} {m:B0},(∀v,(x,v)∉binds)->bindL kindOf binds m x=m x
 | [],_,_=>rfl
 | (n,v)::r,m,h=>by
   unfold bindL;rw[QJ fun w hw=>h w (aBt _ hw)];split
   . have:x≠n:=by rintro rfl;exact h v aBr
     simp[this]
   . rfl
theorem QK{kindOf:Str->Option NameKind}{x:Str}:∀{binds:Co} {m:B0},(∀v,(x,v)∉binds)->bindC kindOf binds m x=m x
 | [],_,_=>rfl
 | (n,v)::r,m,h=>by
   unfold bindC;rw[QK fun w hw=>h w (aBt _ hw)];split
   . rfl
   . have:x≠n:=by rintro rfl;exact h v aBr
     simp[this]
theorem QL{kindOf:Str->Option NameKind}{x:Str}{v:Value}:∀{P:AT} {vs:BY} {i:Nat} {m:B0},P.Nodup->P[i]? = some x->vs[i]? = some v->kindOf x=some .local →
   bindL kindOf (P.zip vs) m x=some v
 | [],_,_,_,_,h,_,_=>by simp at h
 | _::_,[],_,_,_,_,h,_=>by simp at h
 | p::P,w::vs,0,m,nd,h1,h2,hk=>by
   simp at h1 h2;subst h1;subst h2;show bindL kindOf ((p,w)::P.zip vs) m p=_;unfold bindL;rw[QJ fun v hv=>(aCu.mp nd).1 (List.of_mem_zip hv).1,aBE hk];simp
 | p::P,w::vs,i+1,m,nd,h1,h2,hk=>by
   show bindL kindOf ((p,w)::P.zip vs) m x=_;unfold bindL;exact QL (i:=i) (List.nodup_cons.mp nd).2 (by simpa using h1) (by simpa using h2) hk
theorem QM{kindOf:Str->Option NameKind}{x:Str}{v:Value}:∀{P:AT} {vs:BY} {i:Nat} {m:B0},P.Nodup->P[i]? = some x->vs[i]? = some v->kindOf x≠some .local →
   bindC kindOf (P.zip vs) m x=some v
 | [],_,_,_,_,h,_,_=>by simp at h
 | _::_,[],_,_,_,_,h,_=>by simp at h
 | p::P,w::vs,0,m,nd,h1,h2,hk=>by
   simp at h1 h2;subst h1;subst h2;show bindC kindOf ((p,w)::P.zip vs) m p=_;unfold bindC;rw[QK fun v hv=>(aCu.mp nd).1 (List.of_mem_zip hv).1,aBx hk];simp
 | p::P,w::vs,i+1,m,nd,h1,h2,hk=>by
   show bindC kindOf ((p,w)::P.zip vs) m x=_;unfold bindC;exact QM (i:=i) (List.nodup_cons.mp nd).2 (by simpa using h1) (by simpa using h2) hk
def start(N:AT)(vs:BS):St:=vs.map some++List.replicate (N.length-vs.length) none
def Qe(CX:CXT)(P:Program)(w:World)(K:Frag)(mg:B0)(base:Heap)(N:AT)(qual:Str)(scope:Scope)(f:Addr)(cd:Value)(A:Around)(outer:Da)(s:Shared)(H:Hp)(E:XK):Cx where
 prog:=P
 w:=w
 K:=K
 mg:=mg
 base:=base
 A:=A.deeper (envOfC qual scope s.heap.objs.size f cd)
 N:=N
 s₀:=s
 H₀:=H
 env:=envOfC qual scope s.heap.objs.size f cd
 outer:=outer
 stack:=envOfC qual scope s.heap.objs.size f cd::outer
 ex:=[]
 calm:=true
 fn:=fun _=>true
 pn:=[]
 xe:=fun e s'=>wpAny (model P w) (A.deeper (envOfC qual scope s.heap.objs.size f cd)) (leaving (envOfC qual scope s.heap.objs.size f cd) e) (fun _ s''=>CX outer H s E e s'') (fun e' s''=>CX outer H s E e' s'') s'
def Vf{sc:Scope}{n:Nat}{x:Str}(h:sc.names.lookup x=some .cell):∃c,(cellsFrom n sc.names []).lookup x=some c:=by
 have q:=cellsFrom_some sc.names n [] (.inl h);exact Option.isSome_iff_exists.mp q
def aek{N:AT}{qual:Str}{scope:Scope}{f:Addr}{cd:Value}{outer:Da}{s1:Shared}{E:XK}{vs:BS}
   (S:gF N ps scope) (hd:A.handled=none) (e0:YZ P w K mg base A outer s H) (hl:vs.length=ps.length) (r:Vals vs us)
   (x:InCallC s s.heap.objs.size (bindL (envOfC qual scope s.heap.objs.size f cd).kindOf (ps.zip us) fun _=>none) (cellsFrom (s.heap.objs.size+1) scope.names []) (bindC (envOfC qual scope s.heap.objs.size f cd).kindOf (ps.zip us) fun _=>none) s1) :
   Inv (Qe CX P w K mg base N qual scope f cd A outer s H E) [] (start N vs) H s1:=by
 have hpl:ps.length<=N.length:=by have:=congrArg List.length S.pre;rw[aCe]at this;omega
 obtain⟨h1,tk,rfl,hk⟩:=x.done;have noA:∀b:Addr,b∉(Qe CX P w K mg base N qual scope f cd A outer s H E).ex:=fun b z=>absurd (show b∈([]:BT) from z) Uf;refine⟨⟨e0.mod,S.kind,rfl,rfl,aBD _,fun y z c h1 h2=>?_,fun y hy=>?_,fun y c _ h=>?_,fun _=>hd,Around.frames_deeper e0.frames,.inr ⟨rfl,rfl⟩,fun b z=>absurd z (noA b),e0.bs,e0.bsz,fun b _ _=>noA b,fun b z=>absurd z (noA b),e0.JX,e0.frf⟩,
   rfl,e0.bare,Un.kept hk,⟨_,x.toInCall.ns,fun i y v h1 h2 h3=>?_⟩,fun y c h=>⟨_,x.cell y c h⟩,e0.dI.fresh (aBD _),fun y c h=>?_,fun p hp=>absurd (show p∈([]:BC) from hp) Uf,e0.dI.kept hk,?_⟩
 . exact name_of_addr x.apart (aC3 h1) (aC3 h2)
 . have hy:scope.names.lookup y=some .cell\/scope.names.lookup y=some .free:=hy;rcases hy with hy|hy
   . exact Vf hy
   . exact absurd rfl (S.aqC _ (aC3 hy))
 . exact aCj (x.above y c (aC3 h))
 . have hi:i<vs.length:=by
     unfold start at h2;by_cases hi:i<vs.length
     . exact hi
     . rw[List.getElem?_append_right (by simpa using hi)]at h2;rw[List.getElem?_replicate]at h2;split at h2<;>cases h2
   have ha:vs[i]? = some v:=by
     unfold start at h2;rw[List.getElem?_append_left (by simpa using hi),List.getElem?_map]at h2;cases e:vs[i]? with
     | none=>rw[e]at h2;cases h2
     | some a=>rw[e]at h2;cases h2;rfl
   obtain⟨u,hu,rv⟩:=r.get ha;have hp:ps[i]? = some y:=by
     rw[← S.pre,aDX Q.a];exact h1
   have ndP:ps.Nodup:=by rw[← S.pre];exact S.nd.sublist (List.take_sublist _ _)
   refine⟨u,rv,?_⟩;rcases S.par y (aBQ hp) with k|k
   . exact .inl ⟨k,QL ndP hp hu k⟩
   . obtain⟨c,e⟩:=Vf (n:=s.heap.objs.size+1) k;refine .inr ⟨.inl k,c,e,?_⟩;have q:=x.cell y c e;rw[QM ndP hp hu (by show scope.names.lookup y≠_;rw[k];decide)]at q;exact q
 . exact e0.dI.fresh (aCj (x.above y c (aC3 h)))
 . unfold start;show _=N.length;rw[aBz,aBp,aCD];omega
abbrev _root_.CO:=Array (Option Value)
def atx{f:Addr}{qual:Str}{params:Arguments}{body:Cl}{scope:Scope}{dV kV doc pm uH ct oc:Value}{an od:Cs}
   {osl:CO} {N:AT} {sp:Sp} (lk:K.lookup f=some ⟨oc,od,.func (fnOf name qual params body scope dV kV doc pm an uH ct),osl⟩) (uG:codeIn K uH qual=true) (S:gF N ps scope)
   (len:∀vs H Q E,sp vs H Q E->vs.length=ps.length)
   (ahm:∀(A:Around) (outer:Da) (s:Shared) (H:Hp) (vs:BS) (Q:VK) (E:XK),mw k (A.deeper (envOfC qual scope s.heap.objs.size f uH))->sp vs H Q E →
     ∃t,PSs (Qe CX P w K mg base N qual scope f uH A outer s H E) body t/\t {nx:=fun _ H'=>Q .non H',rt:=Q} (start N vs) H) :
   oS P w K mg base CX (k+1) f (fnOf name qual params body scope dV kV doc pm an uH ct) ps sp:=by
 refine⟨len,fun A outer s H args us vs Q E hr e0 hb r hsp=>?_⟩;have hl:=len _ _ _ _ hsp;have KX:K.In s.heap:=e0.mod.kin.keeps fun b o e=>(e0.bs b o e).1;have lim:s.heap.NoLimit:=e0.mod.nolimit.keeps fun b o e=>(e0.bs b o e).1;have acz:∀y∈ps.zip us,scope.names.lookup y.1=some .local\/(scope.names.lookup y.1=some .cell/\((cellsFrom (s.heap.objs.size+1) scope.names []).lookup y.1).isSome=true):=fun⟨n,v⟩ hy=>by
   rcases S.par n (List.of_mem_zip hy).1 with q|q
   . exact .inl q
   . exact .inr ⟨q,cellsFrom_some _ _ _ (.inl q)⟩
 refine codeAny_call_function hr.depth (KX _ _ lk) rfl S.co S.gen rfl (PySem.W.codeRec_of KX uG) (hb _ _ _ _ ?_);refine wpAny_newFunctionEnv_cells S.kind acz fun env he s1 x=>?_;subst he;refine⟨lim.keeps x.toInCall.keep,codeAny_func ?_⟩;obtain⟨t,ht,hq⟩:=ahm A outer s H vs Q E (hr.deeper _) hsp;have I:Inv (Qe CX P w K mg base N qual scope f uH A outer s H E) [] (start N vs) H s1:=aek S hr.hd e0 hl r x;refine aC5 (ht [] s1 (start N vs) H _ I hq) (fun fl s' hs=>?_) fun e s' hs=>hs;have fin:∀{σ':St} {H':Hp} {v:V} {u:Value},Inv (Qe CX P w K mg base N qual scope f uH A outer s H E) [] σ' H' s'->RelV v u->Q v H'->CE outer P w H s Q u s':=
   fun {σ' H' v u} J rv q=>⟨v,H',J.os,J.bare,J.base,J.dI,rv,q⟩
 cases fl with
 | ret u=>
   obtain⟨v,σ',H',J,rv,q⟩:=hs;exact fin J rv q
 | next=>
   obtain⟨σ',H',J,q⟩:=hs;exact fin (v:=V.non) (u:=Value.none) J rfl q
 | brk=>
   obtain⟨_,_,_,q⟩:=hs;exact False.elim q
 | cont=>
   obtain⟨_,_,_,q⟩:=hs;exact False.elim q
section
variable{x:Str}{id T:String}{r:BS->Hp->VK->Prop}
def tCB(r:BS->Hp->VK->Prop)(t:TA):TE:=fun σ H Q=>t σ H fun vs H1=>r vs H1 Q
def wL(hc:y9 X (.builtin id) r)(hg:Gl X x)(hm:X.mg x=none)(hv:bootBuiltins x=some (.builtin id))(ha:PA X (e::es) t)(hn:x≠"__name__":=by decide)(Qd:AD x:=by decide)
   (he:AC X e es:=by rfl) (hpl:AL X pos es:=by rfl):PE X (.Call (.Name x p) (e::es) [] pos) (tCB r t):=by
 intro pins s σ H Q I h;refine aDW (zN I hg hm hv ?_ hn Qd);exact PyProof.Rows.callWith_builtin1 (eZ (ha pos pins s σ H _ I h) fun us s1 ⟨vs,H1,I1,r1,q1⟩=>hc pins s1 σ H1 vs us Q I1 r1 q1) he hpl
def wM(hc:y9 X (.type T) r)(hg:Gl X x)(hm:X.mg x=none)(hv:bootBuiltins x=some (.type T))(ha:PA X (e::es) t)(hn:x≠"__name__":=by decide)(Qd:AD x:=by decide)
   (he:AC X e es:=by rfl) (hpl:AL X pos es:=by rfl):PE X (.Call (.Name x p) (e::es) [] pos) (tCB r t):=by
 intro pins s σ H Q I h;refine aDW (zN I hg hm hv ?_ hn Qd);exact aCL (eZ (ha pos pins s σ H _ I h) fun us s1 ⟨vs,H1,I1,r1,q1⟩=>hc pins s1 σ H1 vs us Q I1 r1 q1) he hpl
end
end L2
namespace HT
open PySem PyProof.Rows
variable{prog:Program}{w:World}{A:Around}{E:BM}{s:Shared}
def ame{t b:Addr}{vs ws:BY}{Q:BM}(ht:IsTup s.heap t vs.toArray)(hb:IsTup s.heap b ws.toArray)(hv:vs≠[])
   (h1:ws=[]->Q (.ref t) s) (h2:ws≠[]->Q (.ref s.heap.objs.size) {s with heap:=s.heap.push {cls:=.type "tuple",data:=.seq (vs++ws).toArray}})
   (hsz:vs.length+ws.length<=sizeLine):wpAny (model prog w) A (binaryOp .Add (.ref t) (.ref b)) Q E s:=by
 obtain⟨⟨cls,dd,data,sl⟩,ho,hc,n,hd⟩:=id ht;obtain⟨⟨aty,dd2,data2,sl2⟩,ho2,hc2,n2,hd2⟩:=id hb;simp only at hc hd hc2 hd2;subst hc hd hc2 hd2;have e:vs.toArray++ws.toArray=(vs++ws).toArray:=by simp
 by_cases hw:ws=[]
 . exact concat_meets ⟨_,ho,rfl⟩ ⟨_,ho2,rfl⟩ noFill_tuple_add seq_tuple_add PySem.F.slot_tuple_add PySem.F.entry_tuple_add (PySem.F.args_tuple_add_2 _ _)
     (tuple_addW1 t b vs.toArray ws.toArray n n2 dd dd2 sl sl2 (by simpa using hv) (by simp[hw])) ⟨ho,ho2,h1 hw⟩
 . refine concat_meets ⟨_,ho,rfl⟩ ⟨_,ho2,rfl⟩ noFill_tuple_add seq_tuple_add PySem.F.slot_tuple_add PySem.F.entry_tuple_add (PySem.F.args_tuple_add_2 _ _)
     (tuple_addW2 t b vs.toArray ws.toArray n n2 dd dd2 sl sl2 (by simpa using hv) (by simpa using hw) (by rw[List.size_toArray,List.size_toArray];exact hsz)) ⟨ho,ho2,?_⟩
   rw[e];exact h2 hw
abbrev _root_.B2:=Option Int
def jF(n d:Nat):B2->Nat
 | none=>d
 | some v=>if v<0 then(v+(n:Int)).toNat else min v.toNat n
def ahn(n d:Nat):jF n d none=d:=rfl
def acB(n d k:Nat):jF n d (some (k:Int))=min k n:=by
 show(if (k:Int)<0 then((k:Int)+(n:Int)).toNat else min (k:Int).toNat n)=min k n;rw[if_neg Q.a,Int.toNat_natCast]
theorem aqD(n d:Nat)(hd:d<=n)(o:B2):jF n d o<=n:=by
 cases o with
 | none=>exact hd
 | some v=>
   show(if v<0 then(v+(n:Int)).toNat else min v.toNat n)<=n;by_cases hv:v<0
   . rw[if_pos hv];omega
   . rw[if_neg hv];exact Nat.min_le_right _ _
def acC(v:Int)(n d:Nat):(if v<0 then max (v+(n:Int)) 0 else min v (n:Int))=((jF n d (some v):Nat):Int):=by
 show(if v<0 then max (v+(n:Int)) 0 else min v (n:Int))=(((if v<0 then(v+(n:Int)).toNat else min v.toNat n):Nat):Int);by_cases hv:v<0
 . simp only[if_pos hv];omega
 . simp only[if_neg hv];omega
def Y3(lo hi:B2)(n:Nat):Builtin.Slice.sliceAdjust lo hi 1 (n:Int)=(((jF n 0 lo:Nat):Int),((jF n n hi:Nat):Int)):=by
 have h1:¬ ((1:Int)<0):=by omega
 unfold Builtin.Slice.sliceAdjust;simp only[h1,if_false];refine Prod.ext ?_ ?_
 . cases lo with
   | none=>rfl
   | some v=>exact acC v n 0
 . cases hi with
   | none=>rfl
   | some v=>exact acC v n n
def Y4(i j:Nat):Builtin.Slice.slicePlaces (i:Int) (j:Int) 1=j-i:=by
 unfold Builtin.Slice.slicePlaces;have h1:(1:Int) > 0:=by omega
 simp only[h1,if_true,Int.ediv_one];split<;>omega
theorem L7{v:Value}{o:B2}{Q:B2->Shared->Prop}(p:IsPart v o)(h:Q o s):wpAny (model prog w) A (Builtin.Slice.slicePartIndex v) Q E s:=by
 cases p with
 | none=>exact slicePart_none h
 | int i t=>exact slicePart_int h
def GC{sl:Addr}{vl vu:Value}{lo hi:B2}{n:Nat}{Q:Int×Int×Nat->Shared->Prop}(hs:s.heap.IsSliceOf sl vl vu .none)(pl:IsPart vl lo)(pu:IsPart vu hi)
   (h:Q (((jF n 0 lo:Nat):Int),1,jF n n hi-jF n 0 lo) s):wpAny (model prog w) A (Builtin.Slice.sliceApplied (.ref sl) (pure (n:Int))) Q E s:=by
 obtain⟨os,hos,hcs,hds⟩:=id hs;unfold Builtin.Slice.sliceApplied Builtin.Slice.sliceFields;refine wpAny_bind (wpAny_bind (wpAny_field hos hds (x:=vl) rfl (wpAny_bind (wpAny_field hos hds (x:=vu) rfl (wpAny_bind (wpAny_field hos hds (x:=.none) rfl (wpAny_pure ?_)))))));refine wpAny_bind (slicePart_none ?_);show wpAny _ _ (if ((1:Int)==0)=true then _ else _) _ _ s;rw[if_neg Q.c];refine wpAny_bind (L7 pl (wpAny_bind (L7 pu (wpAny_bind (wpAny_pure ?_)))));show wpAny _ _ (match Builtin.Slice.sliceAdjust lo hi 1 (n:Int) with|(lo,hi)=>pure (lo,(1:Int),Builtin.Slice.slicePlaces lo hi 1)) _ _ s;rw[Y3 lo hi n];show wpAny _ _ (pure (((jF n 0 lo:Nat):Int),(1:Int),Builtin.Slice.slicePlaces ((jF n 0 lo:Nat):Int) ((jF n n hi:Nat):Int) 1)) _ _ s;rw[Y4];exact wpAny_pure h
def aho(xs:DA)(i k:Nat):((List.range k).filterMap fun(m:Nat)=>xs[((i:Int)+(m:Int)*1).toNat]?).toArray=((xs.toList.drop i).take k).toArray:=by
 have e:(fun(m:Nat)=>xs[((i:Int)+(m:Int)*1).toNat]?)=fun m=>xs[i+m]?:=by
   funext m;have:((i:Int)+(m:Int)*1).toNat=i+m:=by omega
   rw[this]
 rw[e];have:=pick_run xs i k;rw[List.filterMap_map]at this;have e2:((fun x=>xs[x]?)∘fun x=>i+x)=fun m=>xs[i+m]?:=rfl;rw[e2]at this;rw[this]
def Et{t sl:Addr}{items:DA}{vl vu:Value}{lo hi:B2}{Q:BM}(ht:IsTup s.heap t items)(hs:s.heap.IsSliceOf sl vl vu .none)(pl:IsPart vl lo)(pu:IsPart vu hi)
   (hw:¬ (jF items.size 0 lo=0/\jF items.size items.size hi=items.size))
   (h:Q (.ref s.heap.objs.size) {s with heap:=s.heap.push {cls:=.type "tuple",data:=.seq ((items.toList.drop (jF items.size 0 lo)).take (jF items.size items.size hi-jF items.size 0 lo)).toArray}})
   (hsz:items.size<=sizeLine):wpAny (model prog w) A (getItem (.ref t) (.ref sl)) Q E s:=by
 have acD:sizeOk (.seq ((items.toList.drop (jF items.size 0 lo)).take (jF items.size items.size hi-jF items.size 0 lo)).toArray):=by
   show((items.toList.drop (jF items.size 0 lo)).take (jF items.size items.size hi-jF items.size 0 lo)).toArray.size<=sizeLine;rw[List.size_toArray,List.length_take,List.length_drop,Array.length_toList];omega
 have hj:jF items.size items.size hi<=items.size:=aqD _ _ (Nat.le_refl _) hi;obtain⟨os,hos,hcs,hds⟩:=id hs;have hTs:s.TypeIs (.ref sl) "slice":=⟨os,hos,hcs⟩;unfold getItem
 try with_reducible refine wpAny_holding ?_
 first|refine wpAny_bind (wpAny_pure ?_)|skip
 refine wpAny_bind (wpAny_sequenceKey ht.typeIs Q.c ?_);refine wpAny_bind (wpAny_callSpecial?_slot (name:=Str.ofString "__getitem__") ht.typeIs PyProof.Rows.slot_tuple_getitem
   (wpAny_call_entry PyProof.Rows.slot_tuple_getitem ht.typeIs entry_tuple_getitem ?_ (args_tuple_getitem _ _)))
 show wpAny _ _ (Builtin.Tuple.tupleItemsOf (.ref t) >>= _) _ _ s;refine wpAny_bind (tupleItemsOf_ ht ?_);refine wpAny_bind (wpAny_typeOf hTs ?_);rw[if_pos Q.c];refine wpAny_bind (GC hs pl pu ?_);have hno:¬ ((((jF items.size 0 lo:Nat):Int)==0&&(1:Int)==1&&(jF items.size items.size hi-jF items.size 0 lo)==items.size)=true):=by
   intro q;rw[Bool.and_eq_true,Bool.and_eq_true]at q;have q1:((jF items.size 0 lo:Nat):Int)=0:=eq_of_beq q.1.1;have q2:jF items.size items.size hi-jF items.size 0 lo=items.size:=eq_of_beq q.2;exact hw ⟨We,We⟩
 show wpAny _ _ (if (((jF items.size 0 lo:Nat):Int)==0&&(1:Int)==1&&(jF items.size items.size hi-jF items.size 0 lo)==items.size)=true then _ else _) _ _ s;rw[if_neg hno,aho]
 first
   | exact wpAny_bind (m:=Builtin.Tuple.tupleExact _) (wpAny_newObj_type (wpAny_pure ⟨_,rfl,wpAny_pure h⟩) acD)
   | exact wpAny_bind (m:=Builtin.Tuple.tupleExact _) (wpAny_newObj_type (wpAny_bind (wpAny_pure (wpAny_pure ⟨_,rfl,wpAny_pure h⟩))) acD)
   | exact wpAny_bind (wpAny_bind (m:=Builtin.Tuple.tupleExact _) (wpAny_newObj_type (wpAny_pure (wpAny_pure ⟨_,rfl,wpAny_pure h⟩)) acD))
   | exact wpAny_bind (wpAny_bind (m:=Builtin.Tuple.tupleExact _) (wpAny_newObj_type (wpAny_pure ⟨_,rfl,wpAny_pure h⟩) acD))
end HT
namespace L2
open PySem PySem.Spec PyProof.Rows
abbrev TO:=St->Hp->(B2->Hp->Prop)->Prop
def PO(X:Cx)(e:Option Expr)(t:TO):Prop:=
 ∀(pins:BC) (s:Shared) (σ:St) (H:Hp) (Q:B2->Hp->Prop),Inv X pins σ H s->t σ H Q →
   wpAny Q.d X.A (evalPart e X.env) (fun u s'=>∃o H',Inv X pins σ H' s'/\IsPart u o/\Q o H') X.xe s
def amf:TO:=fun _ H Q=>Q none H
def atz(t:TE):TO:=fun σ H Q=>t σ H fun x H1=>∃i,x=.int i/\Q (some i) H1
variable{X:Cx}{e:Expr}{te:TE}{lo hi:Option Expr}{tl th:TO}{pos p2:Pos}
def amg:PO X none amf:=by
 intro pins s σ H Q I h;rw[evalPart_none];exact aCb ⟨none,H,I,.none,h⟩
def amh(h:PE X e te):PO X (some e) (atz te):=by
 intro pins s σ H Q I hw;rw[evalPart_some];refine eZ (h pins s σ H _ I hw) fun u s1 zz=>?_;obtain⟨x,H1,I1,r1,q1⟩:=zz;obtain⟨i,rfl,q⟩:=q1;obtain⟨t,rfl⟩:=r1;exact⟨some i,H1,I1,.int i t,q⟩
def SlR(X:Cx)(r:V->B2->B2->Hp->VK->Prop):Prop:=
 ∀(pins:BC) (s:Shared) (σ:St) (H:Hp) (x:V) (v vl vu:Value) (lo hi:B2) (sl:Addr) (Q:VK),Inv X pins σ H s->RelV x v->s.heap.IsSliceOf sl vl vu .none->IsPart vl lo->IsPart vu hi->r x lo hi H Q →
   ∃T id,typeLookup (.type T) "__getitem__" = pure (some (.builtin id))/\s.TypeIs v T/\wpAny Q.d X.A (getItem v (.ref sl)) (EP X pins σ Q) X.xe s
def tSl(r:V->B2->B2->Hp->VK->Prop)(te:TE)(tl th:TO):TE:=fun σ H Q=>te σ H fun x H1=>tl σ H1 fun l H2=>th σ H2 fun u H3=>r x l u H3 Q
def L8{r:V->B2->B2->Hp->VK->Prop}(hr:SlR X r)(he:PE X e te)(hl:PO X lo tl)(hu:PO X hi th):PE X (.Subscript e (.Slice lo hi none p2) pos) (tSl r te tl th):=by
 intro pins s σ H Q I h;refine Subscript_ (eZ (he pins s σ H _ I h) fun v s1 zz=>?_);obtain⟨x,H1,I1,r1,q1⟩:=zz;refine wpAny_Slice (eZ (hl pins s1 σ H1 _ I1 q1) fun vl s2 ⟨l,H2,I2,pl,q2⟩=>eZ (hu pins s2 σ H2 _ I2 q2) fun vu s3 zz=>?_);obtain⟨u,H3,I3,pu,q3⟩:=zz;rw[evalPart_none];refine aCb ?_;have I4:Inv X pins σ H3 {s3 with heap:=s3.heap.push {cls:=.type "slice",data:=.fields #[vl,vu,.none]}}:=I3.kept (t':=s3.toks) fun b ob q=>aBU _ q;obtain⟨T,id,hT,ht,hg⟩:=hr pins {s3 with heap:=s3.heap.push {cls:=.type "slice",data:=.fields #[vl,vu,.none]}} σ H3 x v vl vu l u s3.heap.objs.size Q I4 r1 (Heap.IsSliceOf.new ..) pl pu q3;show wpAny Q.d X.A (subscriptTail e (.Slice lo hi none p2) v (.ref s3.heap.objs.size)) (EP X pins σ Q) X.xe {s3 with heap:=s3.heap.push {cls:=.type "slice",data:=.fields #[vl,vu,.none]}};exact tail_any (ops:=[.ref s3.heap.objs.size,v]) ht hT hg (by with_unfolding_all rfl)
def Vg(xs:BS)(lo hi:B2):BS:=(xs.drop (HT.jF xs.length 0 lo)).take (HT.jF xs.length xs.length hi-HT.jF xs.length 0 lo)
def Je(xs:BS)(lo hi:B2):(Vg xs lo hi).length<=xs.length:=by
 unfold Vg;rw[aCe,List.length_drop];omega
def awG(K:Frag):V->B2->B2->Hp->VK->Prop:=fun x lo hi H Q=>∃a xs,x=.ref a/\xJ K H a xs ∧
 ¬ (HT.jF xs.length 0 lo=0/\HT.jF xs.length xs.length hi=xs.length)/\∀p,H p=none->Q (.ref p) (upd H p (.tup (Vg xs lo hi)))
def aqF:SlR X (awG X.K):=by
 intro pins s σ H x v vl vu lo hi sl Q I rx hs pl pu h;obtain⟨a,xs,rfl,hx,hw,q⟩:=h;cases rx;obtain⟨its,r,ht,hz⟩:=I.tuple hx;have hlen:its.toArray.size=xs.length:=by rw[aB7];exact r.length.symm
 refine⟨"tuple",_,aDu.lookup,ht.typeIs,?_⟩;refine HT.Et ht hs pl pu (by rw[hlen];exact hw) ?_ (by rw[hlen];exact hz);rw[hlen];refine⟨.ref s.heap.objs.size,_,I.laid (t':=s.toks) (o:=.tup (Vg xs lo hi)) (fun b ob q=>aBU _ q) (aBD _) ?_,rfl,q _ (I.dI.fresh (aBD _))⟩;exact⟨aCa (Je xs lo hi) hz,_,(r.drop (HT.jF xs.length 0 lo)).take (HT.jF xs.length xs.length hi-HT.jF xs.length 0 lo),IsTup.new _ _⟩
def atA(K:Frag):R2:=fun x y H Q=>∃a b xs ys,x=.ref a/\y=.ref b/\xJ K H a xs/\xJ K H b ys/\xs≠[]/\xs.length+ys.length<=sizeLine ∧
 (ys=[]->Q (.ref a) H)/\(ys≠[]->∀p,H p=none->Q (.ref p) (upd H p (.tup (xs++ys))))
variable{xs:BS}
theorem Vals.Lg{us:BY}(r:Vals xs us):us=[]↔xs=[]:=by
 cases r with
 | nil=>simp
 | cons _ _=>simp
def acF:zG X (binaryOp .Add) (atA X.K):=by
 intro pins s σ H x y v u Q I rx ry h;obtain⟨a,b,xs,ys,rfl,rfl,ha,hb,hx,hz,q1,q2⟩:=h;cases rx;cases ry;obtain⟨its,r1,p1,_⟩:=I.tuple ha;obtain⟨C4,r2,p2,_⟩:=I.tuple hb;refine HT.ame p1 p2 (fun z=>hx (r1.Lg.mp z)) (fun z=>⟨.ref a,H,I,rfl,q1 (r2.Lg.mp z)⟩) (fun z=>?_) (by rw[← r1.length,← r2.length];exact hz);refine⟨.ref s.heap.objs.size,_,I.laid (t':=s.toks) (o:=.tup (xs++ys)) (fun b ob q=>aBU _ q) (aBD _) ?_,rfl,q2 (fun w=>z (r2.Lg.mpr w)) _ (I.dI.fresh (aBD _))⟩;exact⟨by rw[aBz];exact hz,_,r1.append r2,IsTup.new _ _⟩
def YD(n:Nat)(i:Int):Option Nat:=if 0<=i then(if i<n then some i.toNat else none) else if -(n:Int)<=i then some (i+n).toNat else none
def Cu{α:Type}(xs:List α)(i:Int):Option α:=(YD xs.length i).bind fun j=>xs[j]?
variable{n:Nat}
def Lh{i:Int}{j:Nat}(h:YD n i=some j):seqIndex? i n=some j/\j<n /\ -(n:Int)<=i/\i<n:=by
 unfold YD at h;by_cases h0:0<=i
 . rw[aBE h0]at h;by_cases h1:i<n
   . rw[aBE h1]at h;have e:i.toNat=j:=aBX h;exact⟨by rw[seqIndex_of h0 h1,e],We,We,h1⟩
   . rw[aBx h1]at h;cases h
 . rw[aBx h0]at h;by_cases h1:-(n:Int)<=i
   . rw[aBE h1]at h;have e:(i+n).toNat=j:=aBX h;exact⟨by rw[seqIndex_neg Q.a h1,e],We,h1,We⟩
   . rw[aBx h1]at h;cases h
theorem RV{α:Type}{xs:List α}{i:Int}{v:α}(h:Cu xs i=some v):∃j,seqIndex? i xs.length=some j/\xs[j]? = some v/\j<xs.length /\ -(xs.length:Int)<=i/\i<xs.length:=by
 unfold Cu at h;cases e:YD xs.length i with
 | none=>rw[e]at h;cases h
 | some j=>
   rw[e]at h;obtain⟨h1,h2,h3,h4⟩:=Lh e;exact⟨j,h1,h,h2,h3,h4⟩
def jf{α:Type}{xs:List α}{j:Nat}{v:α}(h:xs[j]? = some v):Cu xs (j:Int)=some v:=by
 have hj:j<xs.length:=(aB4.mp h).1;have e:YD xs.length (j:Int)=some j:=by
   unfold YD;rw[aBE Q.a,aBE Q.a];simp
 unfold Cu;rw[e];exact h
def uJ(b:Expr):Prop:=∀o i,subscripted b false o i=operate [o,i] (getItem o i)
def IxR(X:Cx)(r:R2):Prop:=
 ∀(value slice:Expr) (pins:BC) (s:Shared) (σ:St) (H:Hp) (x y:V) (v u:Value) (Q:VK),Inv X pins σ H s->RelV x v->RelV y u->r x y H Q →
   subscripted slice false v u=operate [v,u] (getItem v u)->wpAny Q.d X.A (subscriptTail value slice v u) (EP X pins σ Q) X.xe s
abbrev _root_.D2:=V->BS->Hp->VK->Prop
def MtR(X:Cx)(id:String)(r:D2):Prop:=
 ∀(pins:BC) (s:Shared) (σ:St) (H:Hp) (x:V) (xs:BS) (v:Value) (us:BY) (Q:VK),Inv X pins σ H s->RelV x v->Vals xs us->r x xs H Q →
   wpAny Q.d X.A (call (.builtin id) (v::us)) (EP X pins σ Q) X.xe s
section
variable{a b:Expr}{ta tb:TE}
def Ma{r:R2}(hr:IxR X r)(ha:PE X a ta)(hb:PE X b tb)(hs:uJ b):PE X (.Subscript a b pos) (tOp r ta tb):=by
 intro pins s σ H Q I h;exact Subscript_ (aqo ha hb I h fun v u s2 x y H2 I2 rx ry q=>hr a b pins s2 σ H2 x y v u Q I2 rx ry q (hs _ _))
def awH(K:Frag):R2:=fun x y H Q=>∃p xs i v,x=.ref p/\y=.int i/\sX K H p xs/\Cu xs i=some v/\Q v H
def awI(K:Frag):R2:=fun x y H Q=>∃p xs i v,x=.ref p/\y=.int i/\xJ K H p xs/\Cu xs i=some v/\Q v H
def awJ:R2:=fun x y H Q=>∃z i c,x=.str z/\y=.int i/\z.length<=sizeLine/\Cu z.cps.toList i=some c/\Q (.str ⟨#[c]⟩) H
def Li:IxR X (awH X.K):=by
 intro value slice pins s σ H x y v u Q I rx ry h hs;obtain⟨p,xs,i,z,rfl,rfl,hq,he,q⟩:=h;cases rx;obtain⟨t,rfl⟩:=ry;obtain⟨its,r,pl,hz⟩:=I.list hq;obtain⟨j,h1,h2,h3,h4,h5⟩:=RV he;obtain⟨w,ew,rw'⟩:=r.get h2;have hl:=r.length;have hn:=C3;have fin:EP X pins σ Q w s:=⟨z,H,I,rw',q⟩;by_cases h0:0<=i
 . have hj:i.toNat=j:=by
     rw[seqIndex_of h0 h5]at h1;exact aBX h1
   exact item_listR pl.isList h0 Q.a (by rw[hj];simpa using ew) fin hs
 . have hj:(i+(its.toArray.size:Int)).toNat=j:=by
     rw[seqIndex_neg Q.a h4]at h1;rw[aB7,← hl];exact aBX h1
   exact subscriptTail_builtinR (x:=w) pl.isList.typeIs slot_list_getitem.lookup
     (wpAny_getItem_list_neg (Q:=fun r s'=>r=w/\EP X pins σ Q r s') pl.isList Q.a (by rw[List.size_toArray]<;>omega) Q.a (by rw[hj];simpa using ew) ⟨rfl,fin⟩) hs
def ahp:IxR X (awI X.K):=by
 intro value slice pins s σ H x y v u Q I rx ry h hs;obtain⟨p,xs,i,z,rfl,rfl,hq,he,q⟩:=h;cases rx;obtain⟨t,rfl⟩:=ry;obtain⟨its,r,pl,hz⟩:=I.tuple hq;obtain⟨j,h1,h2,h3,h4,h5⟩:=RV he;obtain⟨w,ew,rw'⟩:=r.get h2;have hl:=r.length;have hn:=C3;have fin:EP X pins σ Q w s:=⟨z,H,I,rw',q⟩;exact subscriptTail_builtinR (x:=w) pl.typeIs slot_tuple_getitem.lookup
   (getItem_tuple (j:=j) (Q:=fun r s'=>r=w/\EP X pins σ Q r s') pl Q.a Q.a (by rw[List.size_toArray,← hl];exact h1) (by simpa using ew) ⟨rfl,fin⟩) hs
def aqG:IxR X awJ:=by
 intro value slice pins s σ H x y v u Q I rx ry h hs;obtain⟨z,i,c,rfl,rfl,hz,he,q⟩:=h;obtain⟨t,rfl⟩:=rx;obtain⟨t',rfl⟩:=ry;obtain⟨j,h1,h2,h3,h4,h5⟩:=RV he;have hl:z.cps.toList.length=z.length:=by simp[Str.length]
 rw[hl]at h1 h4 h5;have hn:=C3;exact tail_any (aDI s z t) slot_str_getitem.lookup (getItem_str (c:=c) (by
   have e1:decide (i < -(2 ^ 63:Int))=false:=aBS Q.a;have e2:decide (i ≥ 2 ^ 63)=false:=aBS Q.a;rw[e1,e2,Bool.or_false]) (by rw[h1];simpa using h2) ⟨.str ⟨#[c]⟩,H,I.tok _,⟨_,rfl⟩,q⟩) hs
def Y5(its:BY)(n j:Nat)(u:Value):Obj.mapSeq (·.setIfInBounds j u) {cls:=.type "list",data:=.seq its.toArray n}={cls:=.type "list",data:=.seq (its.set j u).toArray n}:=by
 simp[Obj.mapSeq]
theorem Inv.lst{pins:BC}{σ:St}{H:Hp}{s:Shared}{p:Addr}(I:Q.e)(h:H p=some (.lst xs)) :
   ∃(its:BY) (n:Nat),Vals xs its/\s.heap.get? p=some {cls:=.type "list",data:=.seq its.toArray n}/\xs.length<=sizeLine:=by
 obtain⟨z,its,n,r,e⟩:=I.dI p _ h;exact⟨its,n,r,e,z⟩
theorem Inv.aqH{pins:BC}{σ:St}{H:Hp}{s:Shared}{p:Addr}{ys:BS}{its its':BY}{n':Nat}{f:Obj->Obj}(I:Q.e)(h:H p=some (.lst xs))
   (ho:s.heap.get? p=some {cls:=.type "list",data:=.seq its.toArray n}) (hf:f {cls:=.type "list",data:=.seq its.toArray n}={cls:=.type "list",data:=.seq its'.toArray n'}) (r:Vals ys its') (hz:ys.length<=sizeLine) (t:Nat) :
   Inv X pins σ (upd H p (.lst ys)) {s with heap:=s.heap.update p f,toks:=t}:=by
 have e:(s.heap.update p f).get? p=some {cls:=.type "list",data:=.seq its'.toArray n'}:=by
   rw[Heap.get?_update_self f ho (by rw[hf]<;>rfl),hf]
 refine I.write (x:=p) (e:=p) (by rw[h];trivial) (.inl rfl) (fun b u hb q=>(Heap.get?_update_other _ _ (aC0 hb)).trans q) ⟨_,e⟩ ?_;exact⟨hz,its',n',r,e⟩
def atB:V->V->V->Hp->(Hp->Prop)->Prop:=fun o i v H Q=>∃p xs k j,o=.ref p/\i=.int k/\H p=some (.lst xs)/\YD xs.length k=some j/\Q (upd H p (.lst (xs.set j v)))
def set_list:atf X atB:=by
 intro pins s σ H o i v ov iv u Q I ro ri rv h;obtain⟨p,xs,k,j,rfl,rfl,hp,hj,q⟩:=h;cases ro;obtain⟨t,rfl⟩:=ri;obtain⟨its,n,r,ho,hz⟩:=I.lst hp;obtain⟨h1,h2,h3,h4⟩:=Lh hj;have hl:=r.length;have hn:=C3;have I':Inv X pins σ (upd H p (.lst (xs.set j v))) {s with heap:=s.heap.update p (Obj.mapSeq (·.setIfInBounds j u))}:=
   I.aqH hp ho (Y5 its n j u) (r.set rv j) (by rw[aCU];exact hz) s.toks
 by_cases h0:0<=k
 . have hk:k.toNat=j:=by
     rw[seqIndex_of h0 h4]at h1;exact aBX h1
   exact PySem.W.ki_setAt ho h0 Q.a (by rw[aB7,← hl];exact h4) (by rw[hk];exact⟨_,I',q⟩)
 . have hk:(k+(its.toArray.size:Int)).toNat=j:=by
     rw[seqIndex_neg Q.a h3]at h1;rw[aB7,← hl];exact aBX h1
   exact PySem.W.ki_setBack ho Q.a (by rw[aB7,← hl];exact h3) Q.a (by rw[hk];exact⟨_,I',q⟩)
def RX(lo hi:B2)(n:Nat):(sliceBounds lo hi none n).1=((HT.jF n 0 lo:Nat):Int)/\(sliceBounds lo hi none n).2.1=((HT.jF n n hi:Nat):Int)/\(sliceBounds lo hi none n).2.2=1:=by
 refine⟨?_,?_,rfl⟩
 . cases lo with
   | none=>simp[sliceBounds,HT.jF]
   | some i=>
     simp only[sliceBounds,HT.jF,Option.getD_none,show(1:Int) > 0 by decide,aDQ];by_cases h:i<0
     . simp only[h,aDQ]<;>omega
     . simp only[h,if_false]<;>omega
 . cases hi with
   | none=>simp[sliceBounds,HT.jF]
   | some i=>
     simp only[sliceBounds,HT.jF,Option.getD_none,show(1:Int) > 0 by decide,aDQ];by_cases h:i<0
     . simp only[h,aDQ]<;>omega
     . simp only[h,if_false]<;>omega
def Qf(its:BY)(lo hi:B2):slicePick its.toArray lo hi none=((its.drop (HT.jF its.length 0 lo)).take (HT.jF its.length its.length hi-HT.jF its.length 0 lo)).toArray:=by
 obtain⟨h1,h2,h3⟩:=RX lo hi its.toArray.size;unfold slicePick;rw[h1,h2,h3];simp only[sliceRange_one,pick_run,aB7]<;>rfl
def awK(K:Frag):V->B2->B2->Hp->VK->Prop:=fun x lo hi H Q=>∃a xs,x=.ref a/\sX K H a xs/\∀p,H p=none->Q (.ref p) (upd H p (.lst (Vg xs lo hi)))
def ami:SlR X (awK X.K):=by
 intro pins s σ H x v vl vu lo hi sl Q I rx hs pl pu h;obtain⟨a,xs,rfl,hx,q⟩:=h;cases rx;obtain⟨its,r,ht,hz⟩:=I.list hx;have hlen:=r.length;refine⟨"list",_,slot_list_getitem.lookup,ht.isList.typeIs,?_⟩;refine wpAny_getItem_list_slice ht.isList hs pl pu .none Uf ?_ (by rw[aB7]<;>omega);rw[Qf,← hlen];refine⟨.ref s.heap.objs.size,_,I.laid (t':=s.toks) (o:=.lst (Vg xs lo hi)) (fun b ob q=>aBU _ q) (aBD _) ?_,rfl,q _ (I.dI.fresh (aBD _))⟩;exact⟨aCa (Je xs lo hi) hz,_,0,(r.drop (HT.jF xs.length 0 lo)).take (HT.jF xs.length xs.length hi-HT.jF xs.length 0 lo),aCh _ rfl⟩
def Cv:V->Bool
 | .non=>true
 | .bl _=>true
 | .int _=>true
 | .str _ => true
 | _=>false
def eqV:V->V->Bool
 | .non,.non=>true
 | .bl a,.bl b=>a==b
 | .bl a,.int b=>(if a then 1 else 0)==b
 | .int a,.bl b=>a==(if b then 1 else 0)
 | .int a,.int b=>a==b
 | .str a, .str b => a == b
 | _,_=>false
theorem aqI{A:Around}{s:Shared}{y x:V}{u v:Value}(ry:RelV y u)(rx:RelV x v)(fy:Cv y=true)(fx:Cv x=true):SeqAt.EqAt A s u v (eqV y x):=by
 cases y with
 | non=>
   cases ry;cases x with
   | non=>cases rx;exact SeqAt.EqAt.same _
   | bl b=>cases rx;exact SeqAt.EqAt.none_bool b
   | int b=>obtain⟨t,rfl⟩:=rx;exact SeqAt.EqAt.none_int b t
   | str b=>obtain⟨t,rfl⟩:=rx;exact SeqAt.EqAt.none_str b t
   | _=>exact absurd (show false=true from fx) aBM
 | bl a=>
   cases ry;cases x with
   | non=>cases rx;exact SeqAt.EqAt.bool_none a
   | bl b=>cases rx;exact SeqAt.EqAt.bool_bool a b
   | int b=>obtain⟨t,rfl⟩:=rx;exact SeqAt.EqAt.bool_int a b t
   | str b=>obtain⟨t,rfl⟩:=rx;exact SeqAt.EqAt.bool_str a b t
   | _=>exact absurd (show false=true from fx) aBM
 | int a=>
   obtain⟨t',rfl⟩:=ry;cases x with
   | non=>cases rx;exact SeqAt.EqAt.int_none a t'
   | bl b=>cases rx;exact SeqAt.EqAt.int_bool a t' b
   | int b=>obtain⟨t,rfl⟩:=rx;exact SeqAt.EqAt.int_int a t' b t
   | str b=>obtain⟨t,rfl⟩:=rx;exact SeqAt.EqAt.int_str a t' b t
   | _=>exact absurd (show false=true from fx) aBM
 | str a=>
   obtain⟨t',rfl⟩:=ry;cases x with
   | non=>cases rx;exact SeqAt.EqAt.str_none a t'
   | bl b=>cases rx;exact SeqAt.EqAt.str_bool a t' b
   | int b=>obtain⟨t,rfl⟩:=rx;exact SeqAt.EqAt.str_int a t' b t
   | str b=>obtain⟨t,rfl⟩:=rx;exact SeqAt.EqAt.str_str a t' b t
   | _=>exact absurd (show false=true from fx) aBM
 | _=>exact absurd (show false=true from fy) aBM
def Y6(x:V)(u:Value):Bool:=match u with
 | .none=>eqV .non x
 | .bool b=>eqV (.bl b) x
 | .int i _=>eqV (.int i) x
 | .str z _ => eqV (.str z) x
 | _=>false
theorem ahr{x y:V}{u:Value}(r:RelV y u)(f:Cv y=true):Y6 x u=eqV y x:=by
 cases y with
 | non=>cases r;rfl
 | bl b=>cases r;rfl
 | int i=>obtain⟨t,rfl⟩:=r;rfl
 | str z=>obtain⟨t,rfl⟩:=r;rfl
 | _=>exact absurd (show false=true from f) aBM
theorem Eu{x:V}:∀{xs:BS} {us:BY},Vals xs us->xs.all Cv=true->us.any (Y6 x)=xs.any fun y=>eqV y x
 | _,_,.nil,_=>rfl
 | y::xs,u::us,.cons r t,f=>by
   rw[aDz,aB6]at f;rw[aCZ,aCZ,ahr r f.1,Eu t f.2]
theorem zP{A:Around}{s:Shared}{x:V}{v:Value}(rx:RelV x v)(fx:Cv x=true):∀{xs:BS} {us:BY},Vals xs us->xs.all Cv=true->∀u∈us,SeqAt.EqAt A s u v (Y6 x u)
 | _,_,.nil,_=>fun u hu=>by cases hu
 | y::xs,u::us,.cons r t,f=>fun u' hu=>by
   rw[aDz,aB6]at f;rcases aBq.mp hu with rfl|hu
   . rw[ahr r f.1];exact aqI r rx f.1 fx
   . exact zP rx fx t f.2 u' hu
def inV(x:V)(xs:BS):Bool:=xs.any fun y=>eqV y x
def rIn(K:Frag)(neg:Bool):R2:=fun x y H Q=>∃p xs,y=.ref p/\(sX K H p xs\/xJ K H p xs)/\Cv x=true/\xs.all Cv=true/\Q (.bl (if neg then !inV x xs else inV x xs)) H
def BE:zG X (compareOp .In) (rIn X.K false):=by
 intro pins s σ H x y v u Q I rx ry h;obtain⟨p,xs,rfl,hq,fx,fs,q⟩:=h;cases ry;rcases hq with hq|hq
 . obtain⟨its,r,pl,hz⟩:=I.list hq;refine SeqAt.in_listAt (Y6 x) pl.isList (fun w hw=>zP rx fx r fs w (by simpa using hw)) ⟨.bl _,H,I,rfl,?_⟩;rw[show its.toArray.any (Y6 x)=its.any (Y6 x) by simp,Eu r fs];exact q
 . obtain⟨its,r,pl,hz⟩:=I.tuple hq;refine SeqAt.in_tupleAt (Y6 x) pl (fun w hw=>zP rx fx r fs w (by simpa using hw)) ⟨.bl _,H,I,rfl,?_⟩;rw[show its.toArray.any (Y6 x)=its.any (Y6 x) by simp,Eu r fs];exact q
def rK:zG X (compareOp .NotIn) (rIn X.K true):=by
 intro pins s σ H x y v u Q I rx ry h;obtain⟨p,xs,rfl,hq,fx,fs,q⟩:=h;cases ry;rcases hq with hq|hq
 . obtain⟨its,r,pl,hz⟩:=I.list hq;refine SeqAt.notIn_listAt (Y6 x) pl.isList (fun w hw=>zP rx fx r fs w (by simpa using hw)) ⟨.bl _,H,I,rfl,?_⟩;rw[show its.toArray.any (Y6 x)=its.any (Y6 x) by simp,Eu r fs];exact q
 . obtain⟨its,r,pl,hz⟩:=I.tuple hq;refine SeqAt.notIn_tupleAt (Y6 x) pl (fun w hw=>zP rx fx r fs w (by simpa using hw)) ⟨.bl _,H,I,rfl,?_⟩;rw[show its.toArray.any (Y6 x)=its.any (Y6 x) by simp,Eu r fs];exact q
def Ew:y9 X (.builtin "len") (fun xs H Q=>∃p ys,xs=[.ref p]/\(sX X.K H p ys\/xJ X.K H p ys)/\Q (.int ys.length) H):=by
 intro pins s σ H xs us Q I r h;obtain⟨p,ys,rfl,hq,q⟩:=h;obtain⟨u,rfl,rx⟩:=vals1 r;cases rx;have hn:=C3;rcases hq with hq|hq
 . obtain⟨its,r',pl,hz⟩:=I.list hq;have hlen:=r'.length;exact Calls.call_len_list pl.isList (by simp only[aB7]<;>omega) ⟨.int ys.length,H,I.tok _,⟨s.toks+1,by rw[aB7,hlen]⟩,q⟩
 . obtain⟨its,r',pl,hz⟩:=I.tuple hq;have hlen:=r'.length;exact len_tuple pl (by simp only[aB7]<;>omega) ⟨.int ys.length,H,I.tok _,⟨s.toks+1,by rw[aB7,hlen]⟩,q⟩
def RZ:y9 X (.builtin "len") (fun xs H Q=>∃z,xs=[.str z]/\z.length<=sizeLine/\Q (.int z.length) H):=by
 intro pins s σ H xs us Q I r h;obtain⟨z,rfl,hz,q⟩:=h;obtain⟨u,rfl,t,rfl⟩:=vals1 r;have hn:=C3;exact len_str Q.a ⟨.int z.length,H,I.tok _,⟨_,rfl⟩,q⟩
def R0:y9 X (.type "list") (fun xs H Q=>∃p ys,xs=[.ref p]/\(sX X.K H p ys\/xJ X.K H p ys)/\∀l,H l=none->Q (.ref l) (upd H l (.lst ys))):=by
 intro pins s σ H xs us Q I r h;obtain⟨p,ys,rfl,hq,q⟩:=h;obtain⟨u,rfl,rx⟩:=vals1 r;cases rx;have fin:∀(its:BY),Vals ys its->ys.length<=sizeLine->∀(h':Heap) (c':Nat),(∀b o',s.heap.get? b=some o'->h'.get? b=some o') →
     h'.get? s.heap.objs.size=some {cls:=.type "list",dict:=none,data:=.seq its.toArray c',slots:=#[]}->EP X pins σ Q (.ref s.heap.objs.size) {s with heap:=h'}:=fun its r' hz h' c' kp e=>
   ⟨.ref s.heap.objs.size,_,I.laid (t':=s.toks) kp (aBD _) (show lu X.prog X.w _ h' _ (.lst ys) from⟨hz,its,c',r',e⟩),rfl,q _ (I.dI.fresh (aBD _))⟩
 rcases hq with hq|hq
 . obtain⟨its,r',pl,hz⟩:=I.list hq;have hlen:=r'.length;obtain⟨o,ho,hc,n,hd⟩:=pl.isList;exact call_list_seq p (.inl rfl) ho hc hd (fun h' c' kp e=>fin its r' hz h' c' kp e) (by simp only[aB7]<;>omega)
 . obtain⟨its,r',pl,hz⟩:=I.tuple hq;have hlen:=r'.length;obtain⟨o,ho,hc,n,hd⟩:=pl;exact call_list_seq p (.inr rfl) ho hc hd (fun h' c' kp e=>fin its r' hz h' c' kp e) (by simp only[aB7]<;>omega)
def Qg:y9 X (.type "tuple") (fun xs H Q=>∃p ys,xs=[.ref p]/\((sX X.K H p ys/\∀l,H l=none->Q (.ref l) (upd H l (.tup ys)))\/(xJ X.K H p ys/\Q (.ref p) H))):=by
 intro pins s σ H xs us Q I r h;obtain⟨p,ys,rfl,h⟩:=h;obtain⟨u,rfl,rx⟩:=vals1 r;cases rx;rcases h with⟨hq,q⟩|⟨hq,q⟩
 . obtain⟨its,r',pl,hz⟩:=I.list hq;have hlen:=r'.length;refine call_tuple_list pl.isList (fun h' kp=>?_) (by simp only[aB7]<;>omega);have I1:Inv X pins σ H {s with heap:=h'}:=I.kept (t':=s.toks) kp;have I2:Inv X pins σ (upd H h'.objs.size (.tup ys)) {s with heap:=h'.push {cls:=.type "tuple",data:=.seq its.toArray}}:=
     I1.laid (t':=s.toks) (fun b o e=>aBU _ e) (aBD _) (show lu X.prog X.w _ _ _ (.tup ys) from⟨hz,its,r',IsTup.new _ _⟩)
   exact⟨.ref h'.objs.size,_,I2,rfl,q _ (I1.dI.fresh (aBD _))⟩
 . obtain⟨its,r',pl,hz⟩:=I.tuple hq;exact call_tuple_same pl ⟨.ref p,H,I,rfl,q⟩
def tyV(K:Frag)(T:String)(x:V)(H:Hp):Prop:=match x with
 | .str _ => T = "str"
 | .int _=>T="int"
 | .ref p=>(T="list" /\ ∃xs,sX K H p xs)\/(T="tuple" /\ ∃o,K.lookup p=some o/\o.cls=.type "tuple" /\ o.dict=none) ∨
     (T="dict" /\ ((∃aY,H p=some (.dK aY))\/∃aY,H p=some (.dT aY)))\/(T="set" /\ ∃S n,H p=some (.set S n))
 | _=>False
def ahs{pins:BC}{σ:St}{H:Hp}{s:Shared}{T:String}{x:V}{v:Value}(I:Q.e)(r:RelV x v)(ty:tyV X.K T x H) :
   s.TypeIs v T/\∀a,v=.ref a->∃ob,s.heap.get? a=some ob/\ob.dict=none:=by
 cases x with
 | str z=>
   obtain⟨t,rfl⟩:=r;cases (show T="str" from ty);exact⟨aDI s z t,fun _ e=>nomatch e⟩
 | int i=>
   obtain⟨t,rfl⟩:=r;cases (show T="int" from ty);exact⟨typeIs_int s i t,fun _ e=>nomatch e⟩
 | ref p=>
   cases r;rcases ty with⟨rfl,xs,hq⟩|⟨rfl,o,hk,hc,hd⟩|⟨rfl,hk⟩|⟨rfl,S,n,hk⟩
   . obtain⟨its,_,pl,_⟩:=I.list hq;refine⟨pl.isList.typeIs,fun a e=>?_⟩;cases e;obtain⟨o,n,e,c,hd,_⟩:=pl;exact⟨o,e,hd⟩
   . refine⟨⟨o,I.QG p o hk,hc⟩,fun a e=>?_⟩;cases e;exact⟨o,I.QG _ o hk,hd⟩
   . have z:∃o,s.heap.get? p=some o/\o.ExactDict:=by
       rcases hk with⟨aY,hk⟩|⟨aY,hk⟩
       . obtain⟨_,_,_,_,o,_,_,e,ex,_⟩:=I.dI p _ hk;exact⟨o,e,ex⟩
       . obtain⟨_,_,_,_,o,_,_,e,ex,_⟩:=I.dI p _ hk;exact⟨o,e,ex⟩
     obtain⟨o,e,ex⟩:=z;refine⟨⟨o,e,ex.1⟩,fun a e2=>?_⟩;cases e2;exact⟨o,e,ex.2.1⟩
   . obtain⟨o,_,_,_,e,ex,_⟩:=I.dI p _ hk;refine⟨⟨o,e,ex.1⟩,fun a e2=>?_⟩;cases e2;exact⟨o,e,ex.2.1⟩
 | _=>exact False.elim ty
def awM(K:Frag)(T:String)(r:D2)(to:TE):TE:=fun σ H Q=>to σ H fun x H1=>tyV K T x H1/\r x [] H1 Q
def tBM(K:Frag)(T:String)(r:D2)(to:TE)(t:TA):TE:=fun σ H Q=>to σ H fun x H1=>tyV K T x H1/\t σ H1 fun xs H2=>r x xs H2 Q
variable{o:Expr}{es:CA}{to:TE}{t:TA}{name:Str}{apos zQ:Pos}{T id:String}{r:D2}
def aqJ(pa:PlainAttrs T)(slot:Slot T name id)(hty:typeOf (.builtin id)=pure (.type "method_descriptor"))(hm:MtR X id r)(ho:PE X o to)
   (fY:AS X o name:=by rfl) (hline:(apos.endLine==zQ.line)=true:=by rfl):PE X (.Call (.Attribute o name apos) [] [] zQ) (awM X.K T r to):=by
 intro pins s σ H Q I h;refine wpAny_Call_method0_late fY hline (eZ (ho pins s σ H _ I h) fun v s1 zz=>?_);obtain⟨x,H1,I1,r1,ty,q1⟩:=zz;obtain⟨h1,h2⟩:=ahs I1 r1 ty;exact⟨T,id,pa,slot,hty,h1,h2,Calls.callWith_builtin rfl (PySem.evalArgs_none (hm pins s1 σ H1 x [] v [] Q I1 r1 .nil q1))⟩
def Cw(pa:PlainAttrs T)(slot:Slot T name id)(hty:typeOf (.builtin id)=pure (.type "method_descriptor"))(hm:MtR X id r)(ho:PE X o to)(ha:PA X (e::es) t)
   (fY:AS X o name:=by rfl)
   (oX:((backTo zQ (starEach (e::es) X.env)).all (fun x=>!x.1)&&(backToKw zQ (keywordEach [] X.env)).all (fun x=>x.1.isSome)
     && decide ((e::es).length+([]:List Keyword).length+(if ([]:List Keyword).isEmpty then 0 else 1)<30))=true:=by rfl)
   (hline:(apos.endLine==zQ.line)=true:=by rfl) (hs:AC X e es:=by rfl) (Mb:AL X zQ es:=by rfl) :
   PE X (.Call (.Attribute o name apos) (e::es) [] zQ) (tBM X.K T r to t):=by
 intro pins s σ H Q I h;refine wpAny_Call_method_late fY oX hline rfl (eZ (ho pins s σ H _ I h) fun v s1 zz=>?_);obtain⟨x,H1,I1,r1,ty,q1⟩:=zz;obtain⟨h1,h2⟩:=ahs I1 r1 ty;refine⟨T,id,pa,slot,hty,h1,h2,?_⟩;have hA:=ha zQ pins s1 σ H1 _ I1 q1;rw[hs]at hA ⊢;refine Calls.callWith_builtin (by show(false || (backTo zQ (starEach es X.env)).any (·.1))=false;rw[Mb]<;>rfl) (Calls.evalArgs_plain ?_);exact eZ hA fun us s2 ⟨vs,H2,I2,r2,q2⟩=>hm pins s2 σ H2 x vs v us Q I2 r1 r2 q2
end
def MtM(X:Cx)(id:String)(r:D2):Prop:=
 ∀(pins:BC) (s:Shared) (σ:St) (H:Hp) (x:V) (xs:BS) (v:Value) (us:BY) (Q:VK),Inv X pins σ H s->RelV x v->Vals xs us->r x xs H Q →
   wpAny Q.d X.A (call (.builtin id) (v::us)) (EP X pins σ Q) X.xe s
variable{x:V}
theorem Vals.one{us:BY}(h:Vals [x] us):∃u,us=[u]/\RelV x u:=by
 cases h with
 | cons r h=>cases h;exact⟨_,rfl,r⟩
theorem Vals.two{y:V}{us:BY}(h:Vals [x,y] us):∃u v,us=[u,v]/\RelV x u/\RelV y v:=by
 cases h with
 | cons r h=>cases h with
   | cons q h=>cases h;exact⟨_,_,rfl,r,q⟩
theorem Vals.zero:∀{us:BY},Vals [] us->us=[]
 | _,.nil=>rfl
variable{pins:BC}{σ:St}{H:Hp}{s:Shared}{l:Addr}{ys:BS}
theorem Inv.aqK{its its':BY}{f:DA->DA}{t':Nat}(I:Q.e)(hH:H l=some (.lst xs))
   (e:s.heap.get? l=some {cls:=.type "list",data:=.seq its.toArray n}) (hf:f its.toArray=its'.toArray) (hv:Vals ys its') (hz:ys.length<=sizeLine) :
   Inv X pins σ (upd H l (.lst ys)) {s with heap:=s.heap.update l (Obj.mapSeq f),toks:=t'}:=by
 have q:=PySem.IsL.update e f;rw[hf]at q;refine I.write (x:=l) (e:=l) (by rw[hH];exact trivial) (.inl rfl) (fun b' u hb hu=>(Heap.get?_update_other s.heap (Obj.mapSeq f) (aC0 hb)).trans hu) ⟨_,q⟩ ?_;exact⟨hz,its',_,hv,q⟩
theorem Inv.aht{its:BY}{t':Nat}(I:Q.e)(hv:Vals ys its)(hz:ys.length<=sizeLine) :
   Inv X pins σ (upd H s.heap.objs.size (.lst ys)) {s with heap:=s.heap.push {cls:=.type "list",data:=.seq its.toArray},toks:=t'}:=
 I.laid (fun _ _ q=>aBU _ q) (aBD _) ⟨hz,its,0,hv,aCh _ rfl⟩
theorem Inv.fresh(I:Q.e):H s.heap.objs.size=none:=I.dI.fresh (aBD _)
theorem Inv.amj(I:Q.e)(hH:H l=some (.lst xs)):xs.length<=sizeLine/\∃(its:BY) (n:Nat),Vals xs its/\xs.length=its.length/\s.heap.get? l=some {cls:=.type "list",data:=.seq its.toArray n}:=by
 obtain⟨z,its,n,r,e⟩:=I.dI l _ hH;exact⟨z,its,n,r,r.length,e⟩
def ahu(h:n<=sizeLine):Builtin.List.listTooLong n=false:=by
 unfold Builtin.List.listTooLong;exact aBS Q.a
def amk:V->BS->Hp->VK->Prop:=fun x vs H Q=>∃l xs y,x=.ref l/\vs=[y]/\H l=some (.lst xs)/\xs.length<sizeLine/\Q .non (upd H l (.lst (xs++[y])))
def BF:MtM X "list.append" amk:=by
 intro pins s σ H x vs v us Q I rx rv h;obtain⟨l,xs,y,rfl,rfl,hH,hz,q⟩:=h;cases rx;obtain⟨u,rfl,ru⟩:=rv.one;obtain⟨z,its,n,r,hl,e⟩:=I.amj hH;refine aDJ F.slot_list_append ⟨_,e,rfl⟩ F.entry_list_append (F.args_list_append_2 _ _) (PySem.list_append l its.toArray n u (by rw[aB7];omega)) ⟨e,?_⟩;refine⟨.non,_,I.aqK (its':=its++[u]) hH e Uf (r.append (.cons ru .nil)) ?_,rfl,q⟩;rw[aBz,aBV];omega
def aml:V->BS->Hp->VK->Prop:=fun x vs H Q=>∃l b xs zs,x=.ref l/\vs=[.ref b]/\H l=some (.lst xs)/\H b=some (.lst zs)/\xs.length+zs.length<=sizeLine/\Q .non (upd H l (.lst (xs++zs)))
def aen:MtM X "list.extend" aml:=by
 intro pins s σ H x vs v us Q I rx rv h;obtain⟨l,b,xs,zs,rfl,rfl,hH,hB,hz,q⟩:=h;cases rx;obtain⟨u,rfl,ru⟩:=rv.one;cases ru;obtain⟨z,its,n,r,hl,e⟩:=I.amj hH;obtain⟨z2,C4,n2,r2,hl2,e2⟩:=I.amj hB;have hsz:its.toArray.size+C4.toArray.size<=sizeLine:=by rw[aB7,aB7];omega
 have atD:¬ (!its.toArray.isEmpty&&Builtin.List.listTooLong (its.toArray.size+C4.toArray.size))=true:=by
   rw[ahu hsz,aCx];exact aBM
 refine aDJ F.slot_list_extend ⟨_,e,rfl⟩ F.entry_list_extend (F.args_list_extend_2 _ _)
   (AutoSeq1.list_extend_list_list_0 l its.toArray n b C4.toArray n2 atD (by rw[aB7];omega) Q.a) ⟨e,e2,?_⟩
 refine⟨.non,_,I.aqK (its':=its++C4) hH e Uf (r.append r2) ?_,rfl,q⟩;rw[aBz];omega
def aqL:V->BS->Hp->VK->Prop:=fun x vs H Q=>∃l xs,x=.ref l/\vs=[]/\H l=some (.lst xs)/\Q .non (upd H l (.lst []))
def ahv:MtM X "list.clear" aqL:=by
 intro pins s σ H x vs v us Q I rx rv h;obtain⟨l,xs,rfl,rfl,hH,q⟩:=h;cases rx;have hus:=rv.zero;subst hus;obtain⟨z,its,n,r,hl,e⟩:=I.amj hH;refine aDJ F.slot_list_clear ⟨_,e,rfl⟩ F.entry_list_clear (F.args_list_clear_1 _) (AutoSeq1.list_clear_list_0 l its.toArray n (by rw[aB7];omega)) ⟨e,?_⟩;exact⟨.non,_,I.aqK (its':=[]) (ys:=[]) hH e rfl .nil (aB0 _),rfl,q⟩
end L2
namespace Att
open PySem PySem.W PySem.Calls PyProof.Rows
abbrev _root_.BB:=List Int
def J1{P:Params}{h:Heap}:∀(ns:BB) (vs:BY),WellAll P h vs (ns.map WData.int)->IntsAre vs ns:=by
 intro ns
 induction ns with
 | nil=>
   intro vs w;rw[List.map_nil]at w;cases w;exact .nil
 | cons n ns ih=>
   intro vs w;rw[List.map_cons]at w;cases w with
   | cons a b=>
     cases a;exact .cons _ _ (ih _ b)
def aeo{l:OpenLaw}{n:Nat}(hn:l.most=some n){P:Params}{h:Heap}{args:List WData}{vals:BY}
   (amn:l.row.toRowW.claim.pre args=true) (hwl:WellAll P h vals args) :
   ∃a vs ns,vals=[Value.ref a]/\args=[WData.list (ns.map WData.int)]/\h.get? a=some {cls:=.type "list",data:=.seq vs.toArray}/\IntsAre vs ns/\ns.length<=n:=by
 have hsh:WShape.hasAll [] args [.list .int]=true:=(pre_splitW amn).1;have hc:l.pre.holds [] {args:=args}=true:=(pre_splitW amn).2;obtain⟨d,r,rfl,h1,h2⟩:=hasAllW_cons hsh;obtain rfl:=hasAllW_nil h2;obtain⟨xs,rfl,h3⟩:=hasW_list h1;obtain⟨ns,rfl⟩:=items_int h3;have hlen:ns.length<=n:=by
   unfold OpenLaw.pre at hc;have h4:(WTm.not (.lt (.lit (.int (n:Int))) (.len (.arg 0)))).holds [] {args:=[.list (ns.map .int)]}=true:=by
     have h4:=(holds_andW hc).1;rw[hn]at h4;exact h4
   have h5:=condW_of h4 (w_not (w_lt w_lit (w_len_list (w_arg rfl))));rw[List.length_map]at h5;refine Nat.le_of_not_lt fun q=>?_;have q':(n:Int)<((ns.length:Nat):Int):=by omega
   first
     | (rw[decide_eq_true q']at h5;exact absurd h5 Wp)
     | (simp at h5;omega)
 cases hwl with
 | cons w1 w2=>
   cases w2;cases w1 with
   | list ho Mf=>exact⟨_,_,ns,rfl,rfl,ho,J1 ns _ Mf,hlen⟩
def aep(l:OpenLaw)(args:List WData):l.row.toRowW.claim.post args (.bool true) args=true:=
 postW_of (r:=l.row.toRowW) (X:=(true==true))
   (show WShape.has [] (.bool true) .bool=true by first|rfl|decide|simp[WShape.has,WShape.arms,WShape.armsAll])
   (show(WTm.eq .res (.lit (.bool true))).value [] {args:=args,res:=some (.bool true),after:=args}=some (.bool (true==true)) from w_eq_bool (w_res rfl) w_lit) rfl
def Vh{l:OpenLaw}{n:Nat}{q:Program}{loose:AT}{XP:B0->Heap->Prop}{YP:World->Heap->Prop}{d:DefRec}
   (hn:l.most=some n) (hdf:d.params.defaults=[])
   (call:∀(w:World) (s₀ s₁:Shared) (mg mb:B0) (fa:Addr) (o:Obj) (pm cd doc:Value) (a:Addr) (vs:BY) (ns:BB),
     Ground q loose [] XP w s₀ mg mb s₁.heap->YP w s₁.heap →
     s₁.heap.get? fa=some o->o.data=.func (docDef d.name d.params d.body d.scope pm cd doc)->s₁.heap.CodeRec cd d.name->mg d.name=some (.ref fa) →
     s₁.heap.get? a=some {cls:=.type "list",data:=.seq vs.toArray}->IntsAre vs ns->ns.length<=n->s₁.gens=#[] →
     codeAny (model l.prog w) callerA (.call (.ref fa) ⟨[.ref a],[]⟩) (fun r s'=>r=.ok (.ret (.bool true))/\OldK s₁.heap s'.heap/\s'.os=s₁.os/\AllBare s'.gens) s₁) :
   WalkO q loose XP YP l.row.toRowW d [] (fun f vs=>PySem.call f vs):=by
 intro w s₀ s₁ mg mb G Y fa o pm cd doc dV kV ho hd uG hD hmg hg args vals as amn hlay hrd hwl hlo;obtain rfl:dV=.none:=Dflts.none hD hdf;obtain rfl:kV=.none:=Dflts.noKw hD;obtain⟨a,vs,ns,rfl,rfl,aqM,hints,hlen⟩:=aeo hn amn hwl;refine enter_call (codeAny_mono (call w s₀ s₁ mg mb fa o pm cd doc a vs ns G Y ho (fd_plain hd) uG hmg aqM hints hlen hg) fun r s' hq=>?_);obtain⟨rfl,h2,h3,h4⟩:=hq;exact⟨.inl ⟨.bool true,.bool true,[],rfl,fun _=>rfl,.bool true,aep l _,fun _=>⟨List.Pairwise.nil,fun _ hm=>(nomatch hm)⟩⟩,h2,h3,h4⟩
def ledger(h:Heap)(L d:Addr):BC:=(List.range h.objs.size).filterMap fun a=>if a=L\/a=d then none else(h.get? a).map fun o=>(a,o)
end Att
namespace L2
open PySem PySem.Spec PyProof.Rows
theorem QN:∀{vs:BY} {ns:BB},IntsAre vs ns->Vals (ns.map V.int) vs
 | _,_,.nil=>.nil
 | _,_,.cons n t h=>.cons ⟨t,rfl⟩ (QN h)
def Only(H:Hp):Prop:=∀b,H b=none\/∃o xs,H b=some (.fj o (.lst xs))
variable{P:Program}{w:World}{a:Addr}{x:Str}
def ahw{K:Frag}{mg mb:B0}{CX:CXT}{k:Nat}{fa:Addr}{fd:FuncData}{sp:Sp}{s₁:Shared}{vs:BY}{ns:BB}
   (KX:K.In s₁.heap) (hns:s₁.heap.Ns mainGlobals mg) (hb:s₁.heap.Ns builtinsNs mb) (hbb:∀x:Str,x≠"__name__"->mb x=bootBuiltins x) (awP:s₁.heap.NoLimit) (hg:s₁.gens=#[])
   (ha:s₁.heap.get? a=some {cls:=.type "list",data:=.seq vs.toArray}) (hi:IntsAre vs ns) (hl:ns.length<=sizeLine) (hr:mw k callerA)
   (F:∀base:Heap,K.In base->base.Ns mainGlobals mg->oS P w K mg base CX k fa fd [x] sp) (atG:∀(s:Shared) (u:Value),BindsTo s fd ⟨[u],[]⟩ [(x,u)])
   (hsp:∀H:Hp,Only H->sX K H a (ns.map V.int)->sp [.ref a] H (fun v _=>v=.bl true) fun _ _ _=>False)
   (hCX:∀H e s',CX [] H s₁ (fun _ _ _=>False) e s'->False) :
   codeAny (model P w) callerA (.call (.ref fa) ⟨[.ref a],[]⟩) (fun r s'=>r=.ok (.ret (.bool true))/\OldK s₁.heap s'.heap/\s'.os=s₁.os/\AllBare s'.gens) s₁:=by
 have rv:=QN hi;have awR:=hi.length;have core:∀H:Hp,Only H->sX K H a (ns.map V.int)->En P w H s₁.heap->(∀b,H b≠none->b=a)->(H a≠none->K.lookup a=none) →
     codeAny (model P w) callerA (.call (.ref fa) ⟨[.ref a],[]⟩) (fun r s'=>r=.ok (.ret (.bool true))/\OldK s₁.heap s'.heap/\s'.os=s₁.os/\AllBare s'.gens) s₁:=by
   intro H hO hS dI hA hK;have acG:∀{b:Addr} {o:Obj},s₁.heap.get? b=some o->H b=none->(RM s₁.heap H).get? b=some o:=fun e n=>ag5 e n;have noA:∀{b:Addr} {o:Obj} {es:Array DictEntry} {ep:Nat},s₁.heap.get? b=some o->o.data=.dict es ep->H b=none:=fun {b o es ep} e d=>by
     cases q:H b with
     | none=>rfl
     | some u=>
       have e':b=a:=hA b (by rw[q];simp);subst e';rw[ha]at e;cases e;have d':Data.seq vs.toArray _=Data.dict es ep:=d;cases d'
   have nsK:∀{b:Addr} {m:B0},s₁.heap.Ns b m->(RM s₁.heap H).Ns b m:=fun {b m} ⟨o,es,ep,e,d,r⟩=>⟨o,es,ep,acG e (noA e d),d,r⟩;have hKb:K.In (RM s₁.heap H):=fun b o e=>acG (KX b o e) (by
     cases q:H b with
     | none=>rfl
     | some u=>
       have e':b=a:=hA b (by rw[q];simp);subst e';rw[hK (by rw[q];simp)]at e;cases e)
   have hM:Mod K mg (RM s₁.heap H):=⟨hKb,nsK hns,⟨mb,nsK hb,hbb⟩,let ⟨mc,h1,h2⟩:=awP;⟨mc,nsK h1,h2⟩⟩;have e0:YZ P w K mg (RM s₁.heap H) callerA [] s₁ H:=⟨rfl,hM,fun b o e=>alZ e,Nat.le_of_eq (ad8 _ _),trivial,fun b hb=>absurd (show b∈([]:BT) from hb) Uf,dI,.of_eq hg⟩;refine aDV ((F _ hKb (nsK hns)).run callerA [] s₁ H ⟨[.ref a],[]⟩ [.ref a] [.ref a] _ _ hr e0 (atG s₁ (.ref a)) (.cons rfl .nil) (hsp H hO hS)) fun r s' h=>?_;cases r with
   | error e=>exact(hCX H e s' h).elim
   | ok fl=>
     cases fl with
     | next=>exact False.elim h
     | brk=>exact False.elim h
     | cont=>exact False.elim h
     | ret u=>
       obtain⟨v,H',os,bare,un,awS,r',q⟩:=h;have q':v=.bl true:=q;subst q';obtain rfl:u=Value.bool true:=r';refine⟨rfl,OldK.of_keep fun b o e=>?_,os,bare⟩;cases q:H b with
       | none=>exact un.keep b o e q (by intro z;exact absurd (show b∈([]:BT) from z) Uf) Uf
       | some u=>
         rcases hO b with z|⟨ob,xs,z⟩
         . rw[q]at z;cases z
         . have z2:=un.ni b ob _ z;obtain⟨e1,_⟩:=dI b _ z;obtain⟨e2,_⟩:=awS b _ z2;rw[e]at e1;cases e1;exact e2
 cases hk:K.lookup a with
 | some o=>
   have e:=KX a o hk;rw[ha]at e;cases e;refine core (fun _=>none) (fun _=>.inl rfl) (.inr ⟨_,vs.toArray,_,hk,rfl,rfl,rfl,by rw[List.size_toArray,awR];exact hl,by simpa using rv⟩) (fun b u z=>by have z':(none:Option HO)=some u:=z;cases z') (fun b z=>absurd rfl z) fun z=>absurd rfl z
 | none=>
   refine core (fun b=>if b=a then some (.fj {cls:=.type "list",data:=.seq vs.toArray} (.lst (ns.map V.int))) else none) (fun b=>?_) (.inl (.inr ⟨{cls:=.type "list",data:=.seq vs.toArray},aBE rfl⟩)) (fun b u z=>?_) (fun b z=>?_) fun _=>hk
   . by_cases hb:b=a
     . exact .inr ⟨_,_,aBE hb⟩
     . exact .inl (aBx hb)
   . by_cases hb:b=a
     . have z':=(aBE hb).symm.trans z;cases z';subst hb;exact⟨ha,by rw[aBp];exact hl,vs,_,rv,ha⟩
     . have z':=(aBx hb).symm.trans z;cases z'
   . by_cases hb:b=a
     . exact hb
     . exact absurd (aBx hb) z
def amo{l:PySem.W.OpenLaw}{n k:Nat}{q:Program}{loose:AT}{XP:B0->Heap->Prop}{YP:World->Heap->Prop}{d:DefRec}{K:Params->Frag}{CX:World->CXT}{sp:World->Sp}
   (hn:l.most=some n) (hn2:n<=sizeLine) (hdf:d.params.defaults=[]) (hr:mw k callerA)
   (hY:∀(w:World) (h:Heap),YP w h->(K w.params).In h)
   (F:∀(w:World) (mg:B0) (fa:Addr) (h:Heap),(K w.params).In h->h.Ns mainGlobals mg->mg d.name=some (.ref fa) →
     ∃fd:FuncData,(∀(s:Shared) (u:Value),BindsTo s fd ⟨[u],[]⟩ [(x,u)]) ∧
       ∀base:Heap,(K w.params).In base->base.Ns mainGlobals mg->oS l.prog w (K w.params) mg base (CX w) k fa fd [x] (sp w))
   (hsp:∀(w:World) (H:Hp) (a:Addr) (ns:BB),ns.length<=n->Only H->sX (K w.params) H a (ns.map V.int)->sp w [.ref a] H (fun v _=>v=.bl true) fun _ _ _=>False)
   (hCX:∀(w:World) (H:Hp) (s:Shared) (e:Value) (s':Shared),CX w [] H s (fun _ _ _=>False) e s'->False) :
   PySem.W.WalkO q loose XP YP l.row.toRowW d [] (fun f vs=>PySem.call f vs):=by
 refine Att.Vh hn hdf fun w s₀ s₁ mg mb fa o pm cd doc a vs ns G Y ho hd uG hmg aqM hints hlen hg=>?_;have KX:=hY w _ Y;obtain⟨fd,hb,hF⟩:=F w mg fa _ KX G.T.g hmg;exact ahw KX G.T.g G.T.b G.T.builtins G.T.nolimit hg aqM hints (aCa hlen hn2) hr hF hb (fun H hO hS=>hsp w H a ns hlen hO hS) fun H e s'=>hCX w H s₁ e s'
def inClass(s:Stmt)(j:Nat):Stmt:=match s with
 | .ClassDef _ _ _ body _ _ _ _ _ _ _=>body.getD j (.Pass ⟨0,0,0,0⟩)
 | _=>.Pass ⟨0,0,0,0⟩
def Ex(s:Stmt):Arguments:=match s with
 | .FunctionDef _ a _ _ _ _ _ _ _ _=>a
 | _=>{posonlyargs:=[],args:=[],vararg:=none,kwonlyargs:=[],kw_defaults:=[],kwarg:=none,defaults:=[]}
def lZ(s:Stmt):Cl:=match s with
 | .FunctionDef _ _ b _ _ _ _ _ _ _=>b
 | _=>[]
def au(s:Stmt):Scope:=match s with
 | .FunctionDef _ _ _ _ _ _ sc _ _ _=>sc
 | _=>{kind:=.function,names:=[],isGenerator:=false,isCoroutine:=false}
abbrev J2:CXT:=fun _ _ _ _ _ _=>False
abbrev E0:XK:=fun _ _ _=>False
variable{X:Cx}
def acH:Passes J2 X E0:=fun _ _ _ _ _ _ _ h=>h.elim
structure jr(K:Frag)(x qual:Str)(st:Stmt)(f:Addr)(fd:FuncData):Prop where
 ex:∃(oc:Value) (od:Cs) (kV doc pm:Value) (an:Cs) (uH ct:Value) (osl:CO),
   fd=fnOf x qual (Ex st) (lZ st) (au st) .none kV doc pm an uH ct/\K.lookup f=some ⟨oc,od,.func fd,osl⟩/\codeIn K uH qual=true
 kp:keepIn K (.ref f)=true
variable{K:Frag}{mg:B0}{base:Heap}
theorem jr.ok{qual:Str}{st:Stmt}{f:Addr}{fd:FuncData}{N ps:AT}{k:Nat}{sp:Sp}(F:jr K x qual st f fd)(S:gF N ps (au st))(len:∀vs H Q E,sp vs H Q E->vs.length=ps.length)
   (ahm:∀(uH:Value) (A:Around) (outer:Da) (s:Shared) (H:Hp) (vs:BS) (Q:VK) (E:XK),mw k (A.deeper (envOfC qual (au st) s.heap.objs.size f uH))->sp vs H Q E →
     ∃t,PSs (Qe J2 P w K mg base N qual (au st) f uH A outer s H E).nox (lZ st) t/\t {nx:=fun _ H'=>Q .non H',rt:=Q} (start N vs) H):oS P w K mg base J2 (k+1) f fd ps sp:=by
 obtain⟨oc,od,kV,doc,pm,an,uH,ct,osl,rfl,lk,uG⟩:=F.ex;refine atx lk uG S len fun A outer s H vs Q E hr hsp=>?_;obtain⟨t,h,q⟩:=ahm uH A outer s H vs Q E hr hsp;exact⟨t,h.nox,q⟩
theorem jr.binds{qual:Str}{st:Stmt}{f:Addr}{fd:FuncData}{ps:AT}(F:jr K x qual st f fd)
   (h:∀(kV doc pm:Value) (an:Cs) (uH ct:Value) (us:BY),us.length=ps.length->bindArgs (fnOf x qual (Ex st) (lZ st) (au st) .none kV doc pm an uH ct) ⟨us,[]⟩=pure (ps.zip us)):Binds K fd ps []:=by
 obtain⟨oc,od,kV,doc,pm,an,uH,ct,osl,rfl,lk,uG⟩:=F.ex;exact .all (h kV doc pm an uH ct)
def aQ{qual:Str}{st:Stmt}{f:Addr}{oc:Value}{od an:Cs}{osl:CO}{kV doc pm uH ct:Value}(l:K.lookup f=some ⟨oc,od,.func (fnOf x qual (Ex st) (lZ st) (au st) .none kV doc pm an uH ct),osl⟩)
   (c:codeIn K uH qual=true) (k:keepIn K (.ref f)=true):jr K x qual st f (fnOf x qual (Ex st) (lZ st) (au st) .none kV doc pm an uH ct):=⟨⟨oc,od,kV,doc,pm,an,uH,ct,osl,rfl,l,c⟩,k⟩
def bz{n:Nat}(h:n<=1000):n<sizeLine:=aC8 h Q.c
def Y7{A B:Prop}(h:B):if false=true then A else B:=by
 rw[aBx aBM];exact h
def Y8{A B:Prop}(h:A):if true=true then A else B:=by
 rw[aBE rfl];exact h
def aM(H H':Hp):Prop:=∀b o,H b=some o->H' b=some o
theorem aM.refl(H:Hp):aM H H:=fun _ _ h=>h
variable{H:Hp}
theorem aM.trans{H1 H2:Hp}(a:aM H H1)(b:aM H1 H2):aM H H2:=fun c o h=>b c o (a c o h)
variable{H':Hp}
theorem aM.free(e:aM H H'){l:Addr}(h:H' l=Option.none):H l=Option.none:=by
 cases q:H l with
 | none=>rfl
 | some o=>
   rw[e l o q]at h;cases h
theorem aM.seq{xs:BS}(e:aM H H')(h:sX K H a xs):sX K H' a xs:=by
 rcases h with(h|⟨o,h⟩)|h
 . exact .inl (.inl (e _ _ h))
 . exact .inl (.inr ⟨o,e _ _ h⟩)
 . exact .inr h
section
variable{κ:Type}[DecidableEq κ]
def uI(aY:List (κ×V))(k:κ):Option V:=(aY.find? fun kv=>decide (kv.1=k)).map (·.2)
def putK(aY:List (κ×V))(k:κ)(v:V):List (κ×V):=
 if (aY.any fun kv=>decide (kv.1=k))=true then aY.map (fun kv=>if kv.1=k then(kv.1,v) else kv) else aY++[(k,v)]
def zR{p:κ×V}{r:List (κ×V)}{k:κ}(e:p.1=k):uI (p::r) k=some p.2:=by simp[uI,aCV,e]
def wN{p:κ×V}{r:List (κ×V)}{k:κ}(e:¬ p.1=k):uI (p::r) k=uI r k:=by simp[uI,aCV,e]
theorem Vi(k:κ):∀aY:List (κ×V),(aY.any fun kv=>decide (kv.1=k))=(uI aY k).isSome
 | []=>rfl
 | p::r=>by
   rw[aCZ];by_cases e:p.1=k
   . simp only[zR e,aBH e,Bool.true_or,Option.isSome_some]
   . rw[wN e,aBS e,Bool.false_or];exact Vi k r
def zS(aY:List (κ×V))(k:κ)(v:V):(putK aY k v).length<=aY.length+1:=by
 unfold putK;split
 . rw[aBp];omega
 . rw[aBz,aBP,List.length_nil];omega
theorem GA.wO{o:Option V}{u:Option Value}(r:GA o u):o.isSome=u.isSome:=by
 cases o with
 | none=>cases u with
   | none=>rfl
   | some _=>exact(show False from r).elim
 | some _=>cases u with
   | none=>exact(show False from r).elim
   | some _=>rfl
theorem KV.val{aY:List (κ×V)}{vs:List (κ×Value)}(r:KV aY vs)(k:κ):GA (uI aY k) (valueAt vs k):=by
 unfold KV at r
 induction r with
 | nil=>exact True.intro
 | @cons p q ps qs h t ih=>
   obtain⟨h1,h2⟩:=h;by_cases e:p.1=k
   . have e':q.1=k:=h1.symm.trans e;have b:valueAt (q::qs) k=some q.2:=by simp[valueAt,aCV,e']
     rw[zR e,b];exact h2
   . have e':¬ q.1=k:=fun z=>e (h1.trans z);have b:valueAt (q::qs) k=valueAt qs k:=by simp[valueAt,aCV,e']
     rw[wN e,b];exact ih
theorem KV.any{aY:List (κ×V)}{vs:List (κ×Value)}(r:KV aY vs)(k:κ):(aY.any fun kv=>decide (kv.1=k))=vs.any fun kv=>decide (kv.1=k):=by
 unfold KV at r
 induction r with
 | nil=>rfl
 | cons h t ih=>rw[aCZ,aCZ,ih,h.1]
theorem KV.repl{aY:List (κ×V)}{vs:List (κ×Value)}(r:KV aY vs)(k:κ){y:V}{u:Value}(ry:RelV y u) :
   KV (aY.map fun kv=>if kv.1=k then(kv.1,y) else kv) (vs.map fun kv=>if kv.1=k then(kv.1,u) else kv):=by
 unfold KV at r ⊢
 induction r with
 | nil=>exact .nil
 | @cons p q ps qs h t ih=>
   rw[aBK,aBK];refine .cons ?_ ih;obtain⟨h1,h2⟩:=h;by_cases e:p.1=k
   . rw[aBE e,aBE (h1.symm.trans e)];exact⟨h1,ry⟩
   . rw[aBx e,aBx (fun z=>e (h1.trans z))];exact⟨h1,h2⟩
theorem KV.put{aY:List (κ×V)}{vs:List (κ×Value)}(r:KV aY vs)(k:κ){y:V}{u:Value}(ry:RelV y u):KV (putK aY k y) (stored vs k u):=by
 unfold putK stored;rw[r.any k];by_cases e:(vs.any fun kv=>decide (kv.1=k))=true
 . rw[aBE e,aBE e];exact r.repl k ry
 . rw[aBx e,aBx e];exact Paired.snoc r ⟨rfl,ry⟩
theorem KV.length{aY:List (κ×V)}{vs:List (κ×Value)}(r:KV aY vs):aY.length=vs.length:=Paired.length r
end
variable{u:Value}
theorem QO{k:Key}(r:RelV (kV k) u):(je P w).is k u=true:=by
 cases k with
 | inl i=>obtain⟨t,e⟩:=(show ∃t,u=Value.int i t from r);subst e;exact U6 P w i t
 | inr x=>obtain⟨t,e⟩:=(show ∃t,u=Value.str x t from r);subst e;exact U7 P w x t
theorem QS{P:Program}{w:World}:∀{ks:D1} {us:BY},Vals (ks.map kV) us->ItemsAre (je P w) ks us
 | [],_,r=>by rw[aDY]at r;cases r;exact .nil
 | k::ks,_,r=>by
   rw[aBK]at r;cases r with
   | cons h t=>exact .cons (QO h) (QS t)
abbrev KT(H:Hp):B1->List (D1×Addr×Value)->Prop:=Paired fun p q=>p.1=q.1/\H q.2.1=some (.tup (p.1.map kV))/\RelV p.2 q.2.2
variable{aY:B1}{xs:List (D1×Addr×Value)}
theorem KT.val(r:KT H aY xs)(k:D1):GA (uI aY k) ((atKey xs k).map (·.2)):=by
 induction r with
 | nil=>exact True.intro
 | @cons p q ps qs h t ih=>
   obtain⟨h1,_,h2⟩:=h;by_cases e:p.1=k
   . have e':q.1=k:=h1.symm.trans e;have b:atKey (q::qs) k=some q.2:=by simp[atKey,aCV,e']
     rw[zR e,b];exact h2
   . have e':¬ q.1=k:=fun z=>e (h1.trans z);have b:atKey (q::qs) k=atKey qs k:=by simp[atKey,aCV,e']
     rw[wN e,b];exact ih
variable{y:V}
theorem KT.repl(r:KT H aY xs)(k:D1)(ry:RelV y u) :
   KT H (aY.map fun kv=>if kv.1=k then(kv.1,y) else kv) (xs.map (putAt k u)):=by
 induction r with
 | nil=>exact .nil
 | @cons p q ps qs h t ih=>
   rw[aBK,aBK];refine .cons ?_ ih;obtain⟨h1,h2,h3⟩:=h;unfold putAt;by_cases e:p.1=k
   . rw[aBE e,aBE (h1.symm.trans e)];exact⟨h1,h2,ry⟩
   . rw[aBx e,aBx (fun z=>e (h1.trans z))];exact⟨h1,h2,h3⟩
theorem KT.put(r:KT H aY xs)(k:D1){b:Addr}(hb:H b=some (.tup (k.map kV)))(ry:RelV y u) :
   KT H (putK aY k y) (storedH xs k b u):=by
 have e:(aY.any fun kv=>decide (kv.1=k))=(atKey xs k).isSome:=by
   rw[Vi,(r.val k).wO,aEb]
 unfold putK storedH;rw[e];by_cases q:(atKey xs k).isSome=true
 . rw[aBE q,aBE q];exact r.repl k ry
 . rw[aBx q,aBx q];exact Paired.snoc r ⟨rfl,hb,ry⟩
theorem KT.keeps(r:KT H aY xs)(ht:∀b ys,H b=some (.tup ys)->H' b=some (.tup ys)):KT H' aY xs:=
 Paired.apV r fun _ _ z=>⟨z.1,ht _ _ z.2.1,z.2.2⟩
variable{h:Heap}
def aoR{u:HO}(ok:En P w H h)(e:Rd H a u):lu P w H h a u:=e.ok ok
def Vj{aY:Bz}(ok:En P w H h)(e:Rd H a (.dK aY)):aY.length<=sizeLine/\(a==sysModules)=false/\∃vs,KV aY vs/\h.DictOf (je P w) a vs:=
 show lu P w H h a (.dK aY) from aoR ok e
def ahx{aY:Bz}(ok:En P w H h)(e:H a=some (.dK aY)):aY.length<=sizeLine/\(a==sysModules)=false/\∃vs,KV aY vs/\h.DictOf (je P w) a vs:=Vj ok (.inl e)
def Mg{ks:D1}(ok:En P w H h)(e:H a=some (.tup (ks.map kV))):(tupleKind (je P w)).is h ks a:=by
 obtain⟨_,its,r,o,h1,h2,n,h3⟩:=(show lu P w H h a (.tup (ks.map kV)) from ok a _ e);exact⟨o,its.toArray,n,h1,h2,h3,by simpa using QS r⟩
def Vk(ok:En P w H h)(e:Rd H a (.dT aY)):aY.length<=sizeLine/\(a==sysModules)=false ∧
   ∃xs,KT H aY xs/\h.DictOfH (tupleKind (je P w)) a xs:=by
 obtain⟨z,y,xs,r,o,es,ep,h1,h2,h3,h4,h5⟩:=(show lu P w H h a (.dT aY) from aoR ok e);refine⟨z,y,xs,r,o,es,ep,h1,h2,h3,h4,fun x hx=>?_,h5⟩;have all:∀{l:B1} {m:List (D1×Addr×Value)},KT H l m->∀x∈m,(tupleKind (je P w)).is h x.1 x.2.1:=by
   intro l m q
   induction q with
   | nil=>intro x hx;exact nomatch hx
   | @cons p q ps qs hq t ih=>
     intro x hx;rcases aBq.mp hx with e|hx
     . subst e;exact Mg ok (by rw[← hq.1];exact hq.2.1)
     . exact ih x hx
 exact all r x hx
def atH(ok:En P w H h)(e:H a=some (.dT aY)):aY.length<=sizeLine/\(a==sysModules)=false ∧
   ∃xs,KT H aY xs/\h.DictOfH (tupleKind (je P w)) a xs:=Vk ok (.inl e)
def J3(H:Hp)(a:Addr)(y:V)(r:Option V):Prop:=
 (∃aY k,Rd H a (.dK aY)/\y=kV k/\r=uI aY k)\/∃aY k b,Rd H a (.dT aY)/\y=.ref b/\H b=some (.tup (k.map kV))/\r=uI aY k
def ahy(H:Hp)(a:Addr)(y v:V)(H':Hp):Prop:=
 (∃aY k,H a=some (.dK aY)/\y=kV k/\aY.length<sizeLine/\H'=upd H a (.dK (putK aY k v))) ∨
 ∃aY k b,H a=some (.dT aY)/\y=.ref b/\H b=some (.tup (k.map kV))/\aY.length<sizeLine/\H'=upd H a (.dT (putK aY k v))
theorem J3.k{aY:Bz}{k:Key}(e:H a=some (.dK aY)):J3 H a (kV k) (uI aY k):=.inl ⟨aY,k,.inl e,rfl,rfl⟩
theorem ahy.k{aY:Bz}{k:Key}{v:V}(e:H a=some (.dK aY))(hl:aY.length<sizeLine):ahy H a (kV k) v (upd H a (.dK (putK aY k v))):=.inl ⟨aY,k,e,rfl,hl,rfl⟩
variable{pins:BC}{σ:St}{s:Shared}{v:V}{r:Value}{o:Option V}{A:Around}{E:BM}
theorem Inv.big(I:Q.e):sysModules<s.heap.objs.size:=by
 have h:mainGlobals<s.heap.objs.size:=(I.mod.glob.keeps I.bk).lt;exact Nat.lt_trans Q.c h
variable{Q:BM}
def aeq(hu:A.units+1<cLine)(I:Q.e)(g:J3 H a y (some v))(ry:RelV y u)(h:∀w' s',Inv X pins σ H s'->RelV v w'->Q w' s') :
   wpAny Q.d A (getItem (.ref a) u) Q E s:=by
 rcases g with⟨aY,k,e,ey,l⟩|⟨aY,k,b,e,ey,eb,l⟩
 . subst ey;obtain⟨z,hd,vs,rel,dd⟩:=Vj I.dI e;obtain⟨w',hw,rw'⟩:=GA.some_of (v:=v) (o:=valueAt vs k) (by rw[l];exact rel.val k);exact wpAny_getItem_of (QO ry) dd.mapOf hw (h w' _ (I.tok _) rw')
 . subst ey;cases (show u=Value.ref b from ry);obtain⟨z,hd,xs,rel,dd⟩:=Vk I.dI e;obtain⟨w',hw,rw'⟩:=GA.some_of (v:=v) (o:=(atKey xs k).map (·.2)) (by rw[l];exact rel.val k);obtain⟨p,hp,hp2⟩:=aDj.mp hw;refine wpAny_getItem_heap (aDZ hu) (Mg I.dI eb) dd hp ?_;rw[hp2];exact h w' _ (I.tok _) rw'
def awT(hu:A.units+1<cLine)(I:Q.e)(g:J3 H a y o)(ry:RelV y u)(h:∀s',Inv X pins σ H s'->Q (.bool o.isSome) s') :
   wpAny Q.d A (compareOp .In u (.ref a)) Q E s:=by
 rcases g with⟨aY,k,e,ey,l⟩|⟨aY,k,b,e,ey,eb,l⟩
 . subst ey;obtain⟨z,hd,vs,rel,dd⟩:=Vj I.dI e;refine wpAny_in_of (QO ry) hd dd.mapOf ?_;rw[← (rel.val k).wO,← l];exact h _ (I.tok _)
 . subst ey;cases (show u=Value.ref b from ry);obtain⟨z,hd,xs,rel,dd⟩:=Vk I.dI e;refine wpAny_in_heap (aDZ hu) (Mg I.dI eb) hd dd ?_;have q:=(rel.val k).wO;rw[aEb]at q;rw[← q,← l];exact h _ (I.tok _)
def amq(hu:A.units+1<cLine)(I:Q.e)(g:J3 H a y o)(ry:RelV y u)(h:∀s',Inv X pins σ H s'->Q (.bool (!o.isSome)) s') :
   wpAny Q.d A (compareOp .NotIn u (.ref a)) Q E s:=by
 rcases g with⟨aY,k,e,ey,l⟩|⟨aY,k,b,e,ey,eb,l⟩
 . subst ey;obtain⟨z,hd,vs,rel,dd⟩:=Vj I.dI e;refine wpAny_notIn_of (QO ry) hd dd.mapOf ?_;rw[← (rel.val k).wO,← l];exact h _ (I.tok _)
 . subst ey;cases (show u=Value.ref b from ry);obtain⟨z,hd,xs,rel,dd⟩:=Vk I.dI e;refine wpAny_notIn_heap (aDZ hu) (Mg I.dI eb) hd dd ?_;have q:=(rel.val k).wO;rw[aEb]at q;rw[← q,← l];exact h _ (I.tok _)
def R1{h':Heap}{t':Nat}{ob:HO}(I:Q.e)(mu:Mut (H a))(hs:Heap.SameBut a s.heap h')(he:∃q,h'.get? a=some q)(new:lu X.prog X.w (upd H a ob) h' a ob) :
   Inv X pins σ (upd H a ob) {s with heap:=h',toks:=t'}:=
 I.write (x:=a) (e:=a) mu (.inl rfl) (fun b q hb z=>(hs.2 b hb).trans z) he new
def ahz{h':Heap}{aY:Bz}{vs:List (Key×Value)}(z:aY.length<=sizeLine)(hd:(a==sysModules)=false)(rel:KV aY vs)(dd:h'.DictOf (je P w) a vs) :
   lu P w H' h' a (.dK aY):=⟨z,hd,vs,rel,dd⟩
def aer{Q:Unit->Shared->Prop}(hu:A.units+1<cLine)(I:Q.e)(g:ahy H a y v H')(ry:RelV y u)(rv:RelV v r)(h:∀s',Inv X pins σ H' s'->Q () s') :
   wpAny Q.d A (setItem (.ref a) u r) Q E s:=by
 rcases g with⟨aY,k,e,ey,l,eH⟩|⟨aY,k,b,e,ey,eb,l,eH⟩
 . subst ey eH;obtain⟨z,hd,vs,rel,dd⟩:=ahx I.dI e;have hz:vs.length<=sizeLine:=by rw[← rel.length];exact z
   have hl:(putK aY k v).length<=sizeLine:=by have:=zS aY k v;omega
   refine wpAny_setItem_pairs (hsz:=hz) (QO ry) dd fun h' dd' hs=>h _ ?_;have he:∃q,h'.get? a=some q:=let ⟨q,_,_,hq,_⟩:=dd';⟨q,hq⟩;exact R1 I (by rw[e];exact True.intro) hs he (ahz hl hd (rel.put k rv) dd')
 . subst ey eH;cases (show u=Value.ref b from ry);obtain⟨z,hd,xs,rel,dd⟩:=atH I.dI e;have hz:xs.length<=sizeLine:=by rw[← Paired.length rel];exact z
   have hl:(putK aY k v).length<=sizeLine:=by have:=zS aY k v;omega
   refine wpAny_setItem_heap (hsz:=hz) (aDZ hu) (Mg I.dI eb) dd fun h' dd' hs=>h _ ?_;obtain⟨q,es,ep,hq,h2,h3,h4,_,h5⟩:=dd';refine R1 I (by rw[e];exact True.intro) hs ⟨q,hq⟩ ⟨hl,hd,_,(rel.put k eb rv).keeps fun c ys ec=>?_,q,es,ep,hq,h2,h3,h4,h5⟩;rw[aA (asZ ec e (fun z=>nomatch z))];exact ec
def Y9(i:Expr):Prop:=∀ov iv,subscripted i false ov iv=operate [ov,iv] (getItem ov iv)
def R3{prog:Program}{env:Env}{value slice:Expr}{pos:Pos}{T id:String}
   (hl:typeLookup (.type T) "__getitem__" = pure (some (.builtin id))) (hs:Y9 slice)
   (h:wpAny (model prog w) A (eval value env) (fun o s₁=>wpAny (model prog w) A (eval slice env) (fun i s₂=>s₂.TypeIs o T/\wpAny (model prog w) A (getItem o i) Q E s₂) E s₁) E s) :
   wpAny (model prog w) A (eval (.Subscript value slice pos) env) Q E s:=by
 refine Subscript_ (aC5 h (fun o s₁ h₁=>aC5 h₁ (fun i s₂ h₂=>?_) fun _ _ x=>x) fun _ _ x=>x);obtain⟨hT,h₂⟩:=h₂;unfold subscriptTail;refine aBY ?_;rw[getitemInPython_of_ne hT.not_modules];refine aBY (wpAny_specialOf hT hl ?_);have fin:wpAny (model prog w) A (subscripted slice false o i) (fun r s₃=>wpAny (model prog w) A (letTemporaryGo value o r >>= fun _=>pure r) Q E s₃) E s₂:=by
   rw[hs o i];exact wpAny_operating (aC5 h₂ (fun r s₃ h₃=>aBY (wpAny_letTemporaryGo (aCb h₃))) fun _ _ x=>x)
 first
   | exact aCb (aBY fin)
   | exact aBY (aCb (aBY fin))
   | exact aBY fin
def Vl(I:Q.e)(g:J3 H a y o):s.TypeIs (.ref a) "dict":=by
 rcases g with⟨aY,k,e,_,_⟩|⟨aY,k,b,e,_,_,_⟩
 . obtain⟨_,_,vs,_,dd⟩:=Vj I.dI e;exact dd.typeIs
 . obtain⟨_,_,xs,_,dd⟩:=Vk I.dI e;exact dd.typeIs
def atJ(td ty:TE):TE:=fun σ H Q=>td σ H fun x H1=>ty σ H1 fun y H2=>∃a v,x=.ref a/\J3 H2 a y (some v)/\Q v H2
def awU(ty td:TE):TE:=fun σ H Q=>ty σ H fun y H1=>td σ H1 fun x H2=>∃a o,x=.ref a/\J3 H2 a y o/\Q (.bl o.isSome) H2
def ams(ty td:TE):TE:=fun σ H Q=>ty σ H fun y H1=>td σ H1 fun x H2=>∃a o,x=.ref a/\J3 H2 a y o/\Q (.bl (!o.isSome)) H2
def atL(td ty tv:TE):TS:=fun D σ H=>tv σ H fun v H1=>td σ H1 fun x H2=>ty σ H2 fun y H3=>∃a H4,x=.ref a/\ahy H3 a y v H4/\D.nx σ H4
variable{o i value:Expr}{pos pos':Pos}{td ty tv:TE}
def amt(hu:X.A.units+1<cLine)(ho:PE X o td)(hi:PE X i ty)(hs:Y9 i):PE X (.Subscript o i pos) (atJ td ty):=by
 intro pins s σ H Q I h;refine R3 aDT.lookup hs (eZ (ho pins s σ H _ I h) fun u s1 ⟨x,H1,I1,rx,q1⟩=>eZ (hi pins s1 σ H1 _ I1 q1) fun iv s2 zz=>?_);obtain⟨y,H2,I2,ry,a,v,ex,g,q2⟩:=zz;subst ex;obtain rfl:u=Value.ref a:=rx;exact⟨Vl I2 g,aeq hu I2 g ry fun w' s3 I3 rw'=>⟨v,H2,I3,rw',q2⟩⟩
def aqN(hu:X.A.units+1<cLine)(hi:PE X i ty)(ho:PE X o td):PC X .In i o (awU ty td):=by
 intro pins s σ H Q I h;refine eZ (hi pins s σ H _ I h) fun iv s1 ⟨y,H1,I1,ry,q1⟩=>eZ (ho pins s1 σ H1 _ I1 q1) fun u s2 zz=>?_;obtain⟨x,H2,I2,rx,a,ov,ex,g,q2⟩:=zz;subst ex;obtain rfl:u=Value.ref a:=rx;exact awT hu I2 g ry fun s3 I3=>⟨.bl ov.isSome,H2,I3,rfl,q2⟩
def aes(hu:X.A.units+1<cLine)(hi:PE X i ty)(ho:PE X o td):PC X .NotIn i o (ams ty td):=by
 intro pins s σ H Q I h;refine eZ (hi pins s σ H _ I h) fun iv s1 ⟨y,H1,I1,ry,q1⟩=>eZ (ho pins s1 σ H1 _ I1 q1) fun u s2 zz=>?_;obtain⟨x,H2,I2,rx,a,ov,ex,g,q2⟩:=zz;subst ex;obtain rfl:u=Value.ref a:=rx;exact amq hu I2 g ry fun s3 I3=>⟨.bl (!ov.isSome),H2,I3,rfl,q2⟩
def amu(hu:X.A.units+1<cLine)(ho:PE X o td)(hi:PE X i ty)(hv:PE X value tv)(hs:swapsWith value (some (.Subscript o i pos')) pos.line X.env=pure false) :
   PS X (.Assign [.Subscript o i pos'] value pos) (atL td ty tv):=by
 intro pins s σ H D I h;refine wpAny_Assign_Subscript (eZ (hv pins s σ H _ I h) fun r s1 ⟨v,H1,I1,rv,q1⟩=>eZ (ho pins s1 σ H1 _ I1 q1) fun u s2 ⟨x,H2,I2,rx,q2⟩=>eZ (hi pins s2 σ H2 _ I2 q2) fun iv s3 zz=>?_) hs;obtain⟨y,H3,I3,ry,a,H4,ex,g,q3⟩:=zz;subst ex;obtain rfl:u=Value.ref a:=rx;exact aer hu I3 g ry rv fun s4 I4=>⟨σ,H4,I4,q3⟩
def ahA(h:Heap)(hb:sysModules<h.objs.size):lu P w H (h.push {cls:=.type "dict",data:=.dict #[]}) h.objs.size (.dK []):=
 ⟨aB0 _,aCR.mpr (aC0 (aCq hb)),[],.nil,Heap.DictOf.new h⟩
def aqO:TE:=fun _ H Q=>∀p,H p=none->Q (.ref p) (upd H p (.dK []))
def ahB:PE X (.Dict [] [] pos) aqO:=fun pins s σ H Q I h=>
 wpAny_Dict_empty ⟨.ref s.heap.objs.size,_,I.laid (a:=s.heap.objs.size) (o:=.dK []) (t':=s.toks) (fun _ _ q=>aBU _ q) (aBD _) (ahA s.heap I.big),rfl,h _ (I.dI.fresh (aBD _))⟩
end L2
namespace L3
open PySem PySem.Spec PyProof.Rows L2
inductive D where
 | non|bl (b:Bool)|int (i:Int)|str (x:Str)
 | tup (ds:List D)|lst (ds:List D)|ins (c:Str) (fs:List (Str×D))|mz (aY:List (Key×D))
 | dct (aY:List (D1×D))
 | any
 | val (v:V)
 | Lj (w:World) (ds es:List D)
abbrev _root_.Ap:=List D
abbrev _root_.Bn:=List (Key×D)
inductive T where
 | sh (d:D)|tup (ts:List T)|lst (ts:List T)|ins (c:Str) (fs:List (Str×T))|mz (aY:Bn)|dct (aY:List (D1×T))
 | pin (x:Addr) (t:T)
 | Lj (w:World) (ds es:Ap)
abbrev _root_.BN:=List (Str×T)
abbrev _root_.CI:=List T
abbrev _root_.CS:=List (D1×T)
abbrev _root_.Cn:=List (D1×D)
mutual
def T.fj:T->D
 | .sh d=>d
 | .tup ts=>.tup (ni ts)
 | .lst ts=>.lst (ni ts)
 | .ins c fs=>.ins c (Cp fs)
 | .mz aY=>.mz aY
 | .dct aY=>.dct (ahC aY)
 | .pin _ t=>t.fj
 | .Lj w ds es=>.Lj w ds es
def T.ni:CI->Ap
 | []=>[]
 | t::ts=>t.fj::T.ni ts
def T.Cp:BN->List (Str×D)
 | []=>[]
 | (x,t)::fs=>(x,t.fj)::T.Cp fs
def T.ahC:CS->Cn
 | []=>[]
 | (x,t)::fs=>(x,t.fj)::T.ahC fs
end
mutual
def D.hsh(w:World):D->Int
 | .int i=>hashInt i
 | .str x => hashStr w x
 | .tup ds=>reduceHash (Builtin.Tuple.tupleHashOf (D.atM w ds))
 | _=>0
def D.atM(w:World):Ap->BB
 | []=>[]
 | d::ds=>d.hsh w::D.atM w ds
end
def IxP(w:World)(a:Addr)(ds:Ap)(vs us:BS)(h:Heap):Prop:=
 (a==sysModules)=false/\∃(xs:List (D×Addr×Value)) (o:Obj) (es:Array DictEntry) (ep:Nat),h.get? a=some o/\o.ExactDict/\o.data=.dict es ep/\es.toList=xs.map (fun x=>⟨x.1.hsh w,.ref x.2.1,x.2.2⟩)/\xs.map (·.1)=ds/\xs.map (fun x=>V.ref x.2.1)=vs/\Vals us (xs.map fun x=>x.2.2)
abbrev _root_.BA:=Str->Addr
variable(K:Frag)(CL:BA)
mutual
inductive b7(Z:Hp):D->V->Prop where
 | non:b7 Z .non .non
 | bl (b:Bool):b7 Z (.bl b) (.bl b)
 | int (i:Int):b7 Z (.int i) (.int i)
 | str (x:Str):b7 Z (.str x) (.str x)
 | any (v:V):b7 Z .any v
 | val (v:V):b7 Z (.val v) v
 | tup {a:Addr} {vs:BS} {ds:Ap}:xJ K Z a vs->aE Z ds vs->b7 Z (.tup ds) (.ref a)
 | lst {a:Addr} {vs:BS} {ds:Ap}:sX K Z a vs->aE Z ds vs->b7 Z (.lst ds) (.ref a)
 | ins {a dx:Addr} {c:Str} {gs:Bi} {fs:List (Str×D)}:Z a=some (.ins (CL c) dx gs)->zU Z fs gs->b7 Z (.ins c fs) (.ref a)
 | mz {a:Addr} {gs:Bz} {fs:Bn}:Z a=some (.dK gs)->cC Z fs gs->b7 Z (.mz fs) (.ref a)
 | dct {a:Addr} {gs:B1} {fs:Cn}:Rd Z a (.dT gs)->sZ Z fs gs->b7 Z (.dct fs) (.ref a)
 | Lj {a:Addr} {w:World} {vs us:BS} {ds es:Ap}:Z a=some (.ext (IxP w a ds vs us))->aE Z ds vs->aE Z es us->b7 Z (.Lj w ds es) (.ref a)
inductive aE(Z:Hp):Ap->BS->Prop where
 | nil:aE Z [] []
 | cons {d:D} {v:V} {ds:Ap} {vs:BS}:b7 Z d v->aE Z ds vs->aE Z (d::ds) (v::vs)
inductive zU(Z:Hp):List (Str×D)->Bi->Prop where
 | nil:zU Z [] []
 | cons {x:Str} {d:D} {v:V} {ds:List (Str×D)} {vs:Bi}:b7 Z d v->zU Z ds vs->zU Z ((x,d)::ds) ((x,v)::vs)
inductive cC(Z:Hp):Bn->Bz->Prop where
 | nil:cC Z [] []
 | cons {x:Key} {d:D} {v:V} {ds:Bn} {vs:Bz}:b7 Z d v->cC Z ds vs->cC Z ((x,d)::ds) ((x,v)::vs)
inductive sZ(Z:Hp):Cn->B1->Prop where
 | nil:sZ Z [] []
 | cons {x:D1} {d:D} {v:V} {ds:Cn} {vs:B1}:b7 Z d v->sZ Z ds vs->sZ Z ((x,d)::ds) ((x,v)::vs)
end
mutual
inductive b8(H Z:Hp):T->V->BT->Prop where
 | sh {d:D} {v:V}:b7 K CL Z d v->b8 H Z (.sh d) v []
 | tup {a:Addr} {vs:BS} {ts:CI} {fp:BT}:Z a=some (.tup vs)->bw H Z ts vs fp->b8 H Z (.tup ts) (.ref a) fp
 | lst {a:Addr} {vs:BS} {ts:CI} {fp:BT}:H a=some (.lst vs)->bw H Z ts vs fp->b8 H Z (.lst ts) (.ref a) (a::fp)
 | ins {a dx:Addr} {c:Str} {gs:Bi} {fs:BN} {fp:BT}:H a=some (.ins (CL c) dx gs)->d8 H Z fs gs fp->b8 H Z (.ins c fs) (.ref a) (a::fp)
 | mz {a:Addr} {gs:Bz} {aY:Bn}:H a=some (.dK gs)->cC K CL Z aY gs->b8 H Z (.mz aY) (.ref a) [a]
 | dct {a:Addr} {gs:B1} {aY:CS} {fp:BT}:H a=some (.dT gs)->i9 H Z aY gs fp->b8 H Z (.dct aY) (.ref a) (a::fp)
 | pin {x:Addr} {t:T} {fp:BT}:b8 H Z t (.ref x) fp->b8 H Z (.pin x t) (.ref x) fp
 | Lj {a:Addr} {w:World} {vs us:BS} {ds es:Ap}:H a=some (.ext (IxP w a ds vs us))->aE K CL Z ds vs->aE K CL Z es us->b8 H Z (.Lj w ds es) (.ref a) [a]
inductive bw(H Z:Hp):CI->BS->BT->Prop where
 | nil:bw H Z [] [] []
 | cons {t:T} {v:V} {ts:CI} {vs:BS} {fp gp:BT}:b8 H Z t v fp->bw H Z ts vs gp->bw H Z (t::ts) (v::vs) (fp++gp)
inductive d8(H Z:Hp):BN->Bi->BT->Prop where
 | nil:d8 H Z [] [] []
 | cons {x:Str} {t:T} {v:V} {ts:BN} {vs:Bi} {fp gp:BT}:b8 H Z t v fp->d8 H Z ts vs gp->d8 H Z ((x,t)::ts) ((x,v)::vs) (fp++gp)
inductive i9(H Z:Hp):CS->B1->BT->Prop where
 | nil:i9 H Z [] [] []
 | cons {x:D1} {t:T} {v:V} {ts:CS} {vs:B1} {fp gp:BT}:b8 H Z t v fp->i9 H Z ts vs gp->i9 H Z ((x,t)::ts) ((x,v)::vs) (fp++gp)
end
abbrev _root_.At:=List (Option T)
inductive jY(H Z:Hp):At->L2.St->BT->Prop where
 | nil:jY H Z [] [] []
 | skip {o:Option V} {δ:At} {σ:L2.St} {fp:BT}:jY H Z δ σ fp->jY H Z (none::δ) (o::σ) fp
 | cons {t:T} {v:V} {δ:At} {σ:L2.St} {fp gp:BT}:b8 K CL H Z t v fp->jY H Z δ σ gp->jY H Z (some t::δ) (some v::σ) (fp++gp)
variable{K:Frag}{CL:BA}{H H':Hp}{a:Addr}
theorem Rd.mono{u:HO}(e:aM H H')(h:Rd H a u):Rd H' a u:=h.imp (e _ _) fun⟨o,q⟩=>⟨o,e _ _ q⟩
variable{xs:BS}
theorem aM.YF(e:aM H H')(h:xJ K H a xs):xJ K H' a xs:=by
 rcases h with(h|⟨o,h⟩)|h
 . exact .inl (.inl (e _ _ h))
 . exact .inl (.inr ⟨o,e _ _ h⟩)
 . exact .inr h
variable{Z Z':Hp}{v:V}
theorem b7.mono(e:aM Z Z'){d:D}(h:b7 K CL Z d v):b7 K CL Z' d v:=
 b7.rec (motive_1:=fun d v _=>b7 K CL Z' d v) (motive_2:=fun d v _=>aE K CL Z' d v) (motive_3:=fun d v _=>zU K CL Z' d v) (motive_4:=fun d v _=>cC K CL Z' d v) (motive_5:=fun d v _=>sZ K CL Z' d v)
   .non .bl .int .str .any .val (fun h _ r=>.tup (aM.YF e h) r) (fun h _ r=>.lst (e.seq h) r) (fun h _ r=>.ins (e _ _ h) r) (fun h _ r=>.mz (e _ _ h) r) (fun h _ r=>.dct (Rd.mono e h) r) (fun h _ _ r q=>.Lj (e _ _ h) r q) .nil (fun _ _ h r=>.cons h r) .nil (fun _ _ h r=>.cons h r) .nil (fun _ _ h r=>.cons h r) .nil (fun _ _ h r=>.cons h r) h
theorem aE.mono(e:aM Z Z'){d:Ap}{v:BS}(h:aE K CL Z d v):aE K CL Z' d v:=
 aE.rec (motive_1:=fun d v _=>b7 K CL Z' d v) (motive_2:=fun d v _=>aE K CL Z' d v) (motive_3:=fun d v _=>zU K CL Z' d v) (motive_4:=fun d v _=>cC K CL Z' d v) (motive_5:=fun d v _=>sZ K CL Z' d v)
   .non .bl .int .str .any .val (fun h _ r=>.tup (aM.YF e h) r) (fun h _ r=>.lst (e.seq h) r) (fun h _ r=>.ins (e _ _ h) r) (fun h _ r=>.mz (e _ _ h) r) (fun h _ r=>.dct (Rd.mono e h) r) (fun h _ _ r q=>.Lj (e _ _ h) r q) .nil (fun _ _ h r=>.cons h r) .nil (fun _ _ h r=>.cons h r) .nil (fun _ _ h r=>.cons h r) .nil (fun _ _ h r=>.cons h r) h
theorem cC.mono(e:aM Z Z'){d:Bn}{v:Bz}(h:cC K CL Z d v):cC K CL Z' d v:=
 cC.rec (motive_1:=fun d v _=>b7 K CL Z' d v) (motive_2:=fun d v _=>aE K CL Z' d v) (motive_3:=fun d v _=>zU K CL Z' d v) (motive_4:=fun d v _=>cC K CL Z' d v) (motive_5:=fun d v _=>sZ K CL Z' d v)
   .non .bl .int .str .any .val (fun h _ r=>.tup (aM.YF e h) r) (fun h _ r=>.lst (e.seq h) r) (fun h _ r=>.ins (e _ _ h) r) (fun h _ r=>.mz (e _ _ h) r) (fun h _ r=>.dct (Rd.mono e h) r) (fun h _ _ r q=>.Lj (e _ _ h) r q) .nil (fun _ _ h r=>.cons h r) .nil (fun _ _ h r=>.cons h r) .nil (fun _ _ h r=>.cons h r) .nil (fun _ _ h r=>.cons h r) h
variable{t:T}{fp:BT}
theorem b8.mono(e:aM Z Z')(k:∀a∈fp,H' a=H a)(h:b8 K CL H Z t v fp):b8 K CL H' Z' t v fp:=
 b8.rec (motive_1:=fun t v fp _=>(∀a∈fp,H' a=H a)->b8 K CL H' Z' t v fp) (motive_2:=fun t v fp _=>(∀a∈fp,H' a=H a)->bw K CL H' Z' t v fp) (motive_3:=fun t v fp _=>(∀a∈fp,H' a=H a)->d8 K CL H' Z' t v fp) (motive_4:=fun t v fp _=>(∀a∈fp,H' a=H a)->i9 K CL H' Z' t v fp)
   (fun h _=>.sh (h.mono e)) (fun h _ r k=>.tup (e _ _ h) (r k)) (fun h _ r k=>.lst ((k _ aBr).trans h) (r fun a ha=>k a (aBt _ ha))) (fun h _ r k=>.ins ((k _ aBr).trans h) (r fun a ha=>k a (aBt _ ha))) (fun h f k=>.mz ((k _ aBr).trans h) (cC.mono e f)) (fun h _ r k=>.dct ((k _ aBr).trans h) (r fun a ha=>k a (aBt _ ha))) (fun _ r k=>.pin (r k)) (fun h f g k=>.Lj ((k _ aBr).trans h) (aE.mono e f) (aE.mono e g)) (fun _=>.nil) Q.g (fun _=>.nil) Q.g (fun _=>.nil) Q.g h k
theorem bw.mono(e:aM Z Z'){t:CI}{v:BS}(k:∀a∈fp,H' a=H a)(h:bw K CL H Z t v fp):bw K CL H' Z' t v fp:=
 bw.rec (motive_1:=fun t v fp _=>(∀a∈fp,H' a=H a)->b8 K CL H' Z' t v fp) (motive_2:=fun t v fp _=>(∀a∈fp,H' a=H a)->bw K CL H' Z' t v fp) (motive_3:=fun t v fp _=>(∀a∈fp,H' a=H a)->d8 K CL H' Z' t v fp) (motive_4:=fun t v fp _=>(∀a∈fp,H' a=H a)->i9 K CL H' Z' t v fp)
   (fun h _=>.sh (h.mono e)) (fun h _ r k=>.tup (e _ _ h) (r k)) (fun h _ r k=>.lst ((k _ aBr).trans h) (r fun a ha=>k a (aBt _ ha))) (fun h _ r k=>.ins ((k _ aBr).trans h) (r fun a ha=>k a (aBt _ ha))) (fun h f k=>.mz ((k _ aBr).trans h) (cC.mono e f)) (fun h _ r k=>.dct ((k _ aBr).trans h) (r fun a ha=>k a (aBt _ ha))) (fun _ r k=>.pin (r k)) (fun h f g k=>.Lj ((k _ aBr).trans h) (aE.mono e f) (aE.mono e g)) (fun _=>.nil) Q.g (fun _=>.nil) Q.g (fun _=>.nil) Q.g h k
theorem d8.mono(e:aM Z Z'){t:BN}{v:Bi}(k:∀a∈fp,H' a=H a)(h:d8 K CL H Z t v fp):d8 K CL H' Z' t v fp:=
 d8.rec (motive_1:=fun t v fp _=>(∀a∈fp,H' a=H a)->b8 K CL H' Z' t v fp) (motive_2:=fun t v fp _=>(∀a∈fp,H' a=H a)->bw K CL H' Z' t v fp) (motive_3:=fun t v fp _=>(∀a∈fp,H' a=H a)->d8 K CL H' Z' t v fp) (motive_4:=fun t v fp _=>(∀a∈fp,H' a=H a)->i9 K CL H' Z' t v fp)
   (fun h _=>.sh (h.mono e)) (fun h _ r k=>.tup (e _ _ h) (r k)) (fun h _ r k=>.lst ((k _ aBr).trans h) (r fun a ha=>k a (aBt _ ha))) (fun h _ r k=>.ins ((k _ aBr).trans h) (r fun a ha=>k a (aBt _ ha))) (fun h f k=>.mz ((k _ aBr).trans h) (cC.mono e f)) (fun h _ r k=>.dct ((k _ aBr).trans h) (r fun a ha=>k a (aBt _ ha))) (fun _ r k=>.pin (r k)) (fun h f g k=>.Lj ((k _ aBr).trans h) (aE.mono e f) (aE.mono e g)) (fun _=>.nil) Q.g (fun _=>.nil) Q.g (fun _=>.nil) Q.g h k
theorem i9.mono(e:aM Z Z'){t:CS}{v:B1}(k:∀a∈fp,H' a=H a)(h:i9 K CL H Z t v fp):i9 K CL H' Z' t v fp:=
 i9.rec (motive_1:=fun t v fp _=>(∀a∈fp,H' a=H a)->b8 K CL H' Z' t v fp) (motive_2:=fun t v fp _=>(∀a∈fp,H' a=H a)->bw K CL H' Z' t v fp) (motive_3:=fun t v fp _=>(∀a∈fp,H' a=H a)->d8 K CL H' Z' t v fp) (motive_4:=fun t v fp _=>(∀a∈fp,H' a=H a)->i9 K CL H' Z' t v fp)
   (fun h _=>.sh (h.mono e)) (fun h _ r k=>.tup (e _ _ h) (r k)) (fun h _ r k=>.lst ((k _ aBr).trans h) (r fun a ha=>k a (aBt _ ha))) (fun h _ r k=>.ins ((k _ aBr).trans h) (r fun a ha=>k a (aBt _ ha))) (fun h f k=>.mz ((k _ aBr).trans h) (cC.mono e f)) (fun h _ r k=>.dct ((k _ aBr).trans h) (r fun a ha=>k a (aBt _ ha))) (fun _ r k=>.pin (r k)) (fun h f g k=>.Lj ((k _ aBr).trans h) (aE.mono e f) (aE.mono e g)) (fun _=>.nil) Q.g (fun _=>.nil) Q.g (fun _=>.nil) Q.g h k
theorem b8.there(h:b8 K CL H Z t v fp):∀a∈fp,∃o,H a=some o:=
 b8.rec (motive_1:=fun t v fp _=>∀a∈fp,∃o,H a=some o) (motive_2:=fun t v fp _=>∀a∈fp,∃o,H a=some o) (motive_3:=fun t v fp _=>∀a∈fp,∃o,H a=some o) (motive_4:=fun t v fp _=>∀a∈fp,∃o,H a=some o)
   (fun _ a ha=>absurd ha aBJ) (fun _ _ r=>r) (fun h _ r a ha=>(aBq.mp ha).elim (fun q=>⟨_,q▸h⟩) (r a)) (fun h _ r a ha=>(aBq.mp ha).elim (fun q=>⟨_,q▸h⟩) (r a)) (fun h _ a ha=>(aBq.mp ha).elim (fun q=>⟨_,q▸h⟩) (fun q=>absurd q aBJ)) (fun h _ r a ha=>(aBq.mp ha).elim (fun q=>⟨_,q▸h⟩) (r a)) (fun _ r=>r) (fun h _ _ a ha=>(aBq.mp ha).elim (fun q=>⟨_,q▸h⟩) (fun q=>absurd q aBJ)) (fun a ha=>absurd ha aBJ) (fun _ _ h r a ha=>(aBy.mp ha).elim (h a) (r a)) (fun a ha=>absurd ha aBJ) (fun _ _ h r a ha=>(aBy.mp ha).elim (h a) (r a)) (fun a ha=>absurd ha aBJ) (fun _ _ h r a ha=>(aBy.mp ha).elim (h a) (r a)) h
theorem bw.there{t:CI}{v:BS}(h:bw K CL H Z t v fp):∀a∈fp,∃o,H a=some o:=
 bw.rec (motive_1:=fun t v fp _=>∀a∈fp,∃o,H a=some o) (motive_2:=fun t v fp _=>∀a∈fp,∃o,H a=some o) (motive_3:=fun t v fp _=>∀a∈fp,∃o,H a=some o) (motive_4:=fun t v fp _=>∀a∈fp,∃o,H a=some o)
   (fun _ a ha=>absurd ha aBJ) (fun _ _ r=>r) (fun h _ r a ha=>(aBq.mp ha).elim (fun q=>⟨_,q▸h⟩) (r a)) (fun h _ r a ha=>(aBq.mp ha).elim (fun q=>⟨_,q▸h⟩) (r a)) (fun h _ a ha=>(aBq.mp ha).elim (fun q=>⟨_,q▸h⟩) (fun q=>absurd q aBJ)) (fun h _ r a ha=>(aBq.mp ha).elim (fun q=>⟨_,q▸h⟩) (r a)) (fun _ r=>r) (fun h _ _ a ha=>(aBq.mp ha).elim (fun q=>⟨_,q▸h⟩) (fun q=>absurd q aBJ)) (fun a ha=>absurd ha aBJ) (fun _ _ h r a ha=>(aBy.mp ha).elim (h a) (r a)) (fun a ha=>absurd ha aBJ) (fun _ _ h r a ha=>(aBy.mp ha).elim (h a) (r a)) (fun a ha=>absurd ha aBJ) (fun _ _ h r a ha=>(aBy.mp ha).elim (h a) (r a)) h
theorem b8.fj(e:aM Z Z')(k:∀a∈fp,Z' a=H a)(h:b8 K CL H Z t v fp):b7 K CL Z' t.fj v:=
 b8.rec (motive_1:=fun t v fp _=>(∀a∈fp,Z' a=H a)->b7 K CL Z' t.fj v) (motive_2:=fun t v fp _=>(∀a∈fp,Z' a=H a)->aE K CL Z' (T.ni t) v) (motive_3:=fun t v fp _=>(∀a∈fp,Z' a=H a)->zU K CL Z' (T.Cp t) v) (motive_4:=fun t v fp _=>(∀a∈fp,Z' a=H a)->sZ K CL Z' (T.ahC t) v)
   (fun h _=>by rw[T.fj];exact h.mono e) (fun h _ r k=>by rw[T.fj];exact .tup (xJ.of (e _ _ h)) (r k)) (fun h _ r k=>by rw[T.fj];exact .lst (sX.of ((k _ aBr).trans h)) (r fun a ha=>k a (aBt _ ha))) (fun h _ r k=>by rw[T.fj];exact .ins ((k _ aBr).trans h) (r fun a ha=>k a (aBt _ ha))) (fun h f k=>by rw[T.fj];exact .mz ((k _ aBr).trans h) (cC.mono e f)) (fun h _ r k=>by rw[T.fj];exact .dct (.inl ((k _ aBr).trans h)) (r fun a ha=>k a (aBt _ ha))) (fun _ r k=>by rw[T.fj];exact r k) (fun h f g k=>by rw[T.fj];exact .Lj ((k _ aBr).trans h) (aE.mono e f) (aE.mono e g)) (fun _=>by rw[T.ni];exact .nil) (fun _ _ h r k=>by rw[T.ni];exact .cons (h fun a ha=>k a (aBN _ ha)) (r fun a ha=>k a (aBw _ ha))) (fun _=>by rw[T.Cp];exact .nil) (fun _ _ h r k=>by rw[T.Cp];exact .cons (h fun a ha=>k a (aBN _ ha)) (r fun a ha=>k a (aBw _ ha))) (fun _=>by rw[T.ahC];exact .nil) (fun _ _ h r k=>by rw[T.ahC];exact .cons (h fun a ha=>k a (aBN _ ha)) (r fun a ha=>k a (aBw _ ha))) h k
variable{vs:BS}
theorem aE.ind{P:Ap->BS->Prop}(n:P [] [])(c:∀{d:D} {v:V} {ds:Ap} {vs:BS},b7 K CL Z d v->aE K CL Z ds vs->P ds vs->P (d::ds) (v::vs)){ds:Ap}(h:aE K CL Z ds vs):P ds vs:=
 aE.rec (motive_1:=fun _ _ _=>True) (motive_2:=fun d v _=>P d v) (motive_3:=fun _ _ _=>True) (motive_4:=fun _ _ _=>True) (motive_5:=fun _ _ _=>True)
   trivial (fun _=>trivial) (fun _=>trivial) (fun _=>trivial) (fun _=>trivial) (fun _=>trivial) (fun _ _ _=>trivial) (fun _ _ _=>trivial) (fun _ _ _=>trivial) (fun _ _ _=>trivial) (fun _ _ _=>trivial) (fun _ _ _ _ _=>trivial) n (fun a b _ i=>c a b i) trivial (fun _ _ _ _=>trivial) trivial (fun _ _ _ _=>trivial) trivial (fun _ _ _ _=>trivial) h
theorem cC.ind{P:Bn->Bz->Prop}(n:P [] [])(c:∀{x:Key} {d:D} {v:V} {ds:Bn} {vs:Bz},b7 K CL Z d v->cC K CL Z ds vs->P ds vs->P ((x,d)::ds) ((x,v)::vs)){ds:Bn}{vs:Bz}(h:cC K CL Z ds vs):P ds vs:=
 cC.rec (motive_1:=fun _ _ _=>True) (motive_2:=fun _ _ _=>True) (motive_3:=fun _ _ _=>True) (motive_4:=fun d v _=>P d v) (motive_5:=fun _ _ _=>True)
   trivial (fun _=>trivial) (fun _=>trivial) (fun _=>trivial) (fun _=>trivial) (fun _=>trivial) (fun _ _ _=>trivial) (fun _ _ _=>trivial) (fun _ _ _=>trivial) (fun _ _ _=>trivial) (fun _ _ _=>trivial) (fun _ _ _ _ _=>trivial) trivial (fun _ _ _ _=>trivial) trivial (fun _ _ _ _=>trivial) n (fun a b _ i=>c a b i) trivial (fun _ _ _ _=>trivial) h
theorem sZ.ind{P:Cn->B1->Prop}(n:P [] [])(c:∀{x:D1} {d:D} {v:V} {ds:Cn} {vs:B1},b7 K CL Z d v->sZ K CL Z ds vs->P ds vs->P ((x,d)::ds) ((x,v)::vs)){ds:Cn}{vs:B1}(h:sZ K CL Z ds vs):P ds vs:=
 sZ.rec (motive_1:=fun _ _ _=>True) (motive_2:=fun _ _ _=>True) (motive_3:=fun _ _ _=>True) (motive_4:=fun _ _ _=>True) (motive_5:=fun d v _=>P d v)
   trivial (fun _=>trivial) (fun _=>trivial) (fun _=>trivial) (fun _=>trivial) (fun _=>trivial) (fun _ _ _=>trivial) (fun _ _ _=>trivial) (fun _ _ _=>trivial) (fun _ _ _=>trivial) (fun _ _ _=>trivial) (fun _ _ _ _ _=>trivial) trivial (fun _ _ _ _=>trivial) trivial (fun _ _ _ _=>trivial) trivial (fun _ _ _ _=>trivial) n (fun a b _ i=>c a b i) h
variable{ts:CI}
theorem bw.ind{P:CI->BS->BT->Prop}(n:P [] [] [])(c:∀{t:T} {v:V} {ts:CI} {vs:BS} {fp gp:BT},b8 K CL H Z t v fp->bw K CL H Z ts vs gp->P ts vs gp->P (t::ts) (v::vs) (fp++gp))(h:bw K CL H Z ts vs fp):P ts vs fp:=
 bw.rec (motive_1:=fun _ _ _ _=>True) (motive_2:=fun d v f _=>P d v f) (motive_3:=fun _ _ _ _=>True) (motive_4:=fun _ _ _ _=>True)
   (fun _=>trivial) (fun _ _ _=>trivial) (fun _ _ _=>trivial) (fun _ _ _=>trivial) (fun _ _=>trivial) (fun _ _ _=>trivial) (fun _ _=>trivial) (fun _ _ _=>trivial) n (fun a b _ i=>c a b i) trivial (fun _ _ _ _=>trivial) trivial (fun _ _ _ _=>trivial) h
theorem d8.ind{P:BN->Bi->BT->Prop}(n:P [] [] [])(c:∀{x:Str} {t:T} {v:V} {ts:BN} {vs:Bi} {fp gp:BT},b8 K CL H Z t v fp->d8 K CL H Z ts vs gp->P ts vs gp->P ((x,t)::ts) ((x,v)::vs) (fp++gp)){ts:BN}{vs:Bi}(h:d8 K CL H Z ts vs fp):P ts vs fp:=
 d8.rec (motive_1:=fun _ _ _ _=>True) (motive_2:=fun _ _ _ _=>True) (motive_3:=fun d v f _=>P d v f) (motive_4:=fun _ _ _ _=>True)
   (fun _=>trivial) (fun _ _ _=>trivial) (fun _ _ _=>trivial) (fun _ _ _=>trivial) (fun _ _=>trivial) (fun _ _ _=>trivial) (fun _ _=>trivial) (fun _ _ _=>trivial) trivial (fun _ _ _ _=>trivial) n (fun a b _ i=>c a b i) trivial (fun _ _ _ _=>trivial) h
theorem i9.ind{P:CS->B1->BT->Prop}(n:P [] [] [])(c:∀{x:D1} {t:T} {v:V} {ts:CS} {vs:B1} {fp gp:BT},b8 K CL H Z t v fp->i9 K CL H Z ts vs gp->P ts vs gp->P ((x,t)::ts) ((x,v)::vs) (fp++gp)){ts:CS}{vs:B1}(h:i9 K CL H Z ts vs fp):P ts vs fp:=
 i9.rec (motive_1:=fun _ _ _ _=>True) (motive_2:=fun _ _ _ _=>True) (motive_3:=fun _ _ _ _=>True) (motive_4:=fun d v f _=>P d v f)
   (fun _=>trivial) (fun _ _ _=>trivial) (fun _ _ _=>trivial) (fun _ _ _=>trivial) (fun _ _=>trivial) (fun _ _ _=>trivial) (fun _ _=>trivial) (fun _ _ _=>trivial) trivial (fun _ _ _ _=>trivial) trivial (fun _ _ _ _=>trivial) n (fun a b _ i=>c a b i) h
theorem aE.length{d:Ap}{v:BS}(h:aE K CL Z d v):d.length=v.length:=
 aE.ind (P:=fun d v=>d.length=v.length) rfl (fun _ _ i=>congrArg (· + 1) i) h
theorem bw.length{d:CI}{v:BS}(h:bw K CL H Z d v fp):d.length=v.length:=
 bw.ind (P:=fun d v _=>d.length=v.length) rfl (fun _ _ i=>congrArg (· + 1) i) h
theorem jY.length{d:At}{v:L2.St}(h:jY K CL H Z d v fp):d.length=v.length:=by
 induction h with
 | nil=>rfl
 | skip _ i=>exact congrArg (· + 1) i
 | cons _ _ i=>exact congrArg (· + 1) i
theorem aE.get{Z:Hp}:∀{ds:Ap} {vs:BS} {i:Nat} {d:D},aE K CL Z ds vs->ds[i]? = some d->∃v,vs[i]? = some v/\b7 K CL Z d v
 | _,_,_,_,.nil,e=>by simp at e
 | _,_,0,_,.cons r _,e=>by simp at e;subst e;exact⟨_,rfl,r⟩
 | _,_,i+1,d,.cons _ t,e=>by
   obtain⟨u,h1,h2⟩:=aE.get (i:=i) (d:=d) t (by simpa using e);exact⟨u,by simpa using h1,h2⟩
theorem aE.aeu{Z:Hp}:∀{ds:Ap} {vs:BS} {i:Nat} {v:V},aE K CL Z ds vs->vs[i]? = some v->∃d,ds[i]? = some d/\b7 K CL Z d v
 | _,_,_,_,.nil,e=>by simp at e
 | _,_,0,_,.cons r _,e=>by simp at e;subst e;exact⟨_,rfl,r⟩
 | _,_,i+1,d,.cons _ t,e=>by
   obtain⟨u,h1,h2⟩:=aE.aeu (i:=i) (v:=d) t (by simpa using e);exact⟨u,by simpa using h1,h2⟩
theorem bw.get{H Z:Hp}:∀{ds:CI} {vs:BS} {fp:BT} {i:Nat} {d:T},bw K CL H Z ds vs fp->ds[i]? = some d->∃v gp,vs[i]? = some v/\b8 K CL H Z d v gp/\gp.Sublist fp
 | _,_,_,_,_,.nil,e=>by simp at e
 | _,_,_,0,_,.cons r _,e=>by simp at e;subst e;exact⟨_,_,rfl,r,List.sublist_append_left _ _⟩
 | _,_,_,i+1,d,.cons _ t,e=>by
   obtain⟨u,gp,h1,h2,h3⟩:=bw.get (i:=i) (d:=d) t (by simpa using e);exact⟨u,gp,by simpa using h1,h2,h3.trans (List.sublist_append_right _ _)⟩
theorem jY.get:∀{δ:At} {σ:L2.St} {fp:BT} {i:Nat} {t:T},jY K CL H Z δ σ fp->δ[i]? = some (some t) →
   ∃v f1 f2 f3,σ[i]? = some (some v)/\fp=f1++(f2++f3)/\b8 K CL H Z t v f2 ∧
     (∀{H' Z':Hp} {t':T} {v':V} {g:BT},aM Z Z'->(∀a∈f1++f3,H' a=H a)->b8 K CL H' Z' t' v' g->jY K CL H' Z' (δ.set i (some t')) (σ.set i (some v')) (f1++(g++f3))) ∧
     (∀{o:Option V},jY K CL H Z (δ.set i none) (σ.set i o) (f1++f3)):=by
 intro δ σ fp i t h;have mono:∀{H H' Z Z':Hp} {δ:At} {σ:L2.St} {fp:BT},aM Z Z'->(∀a∈fp,H' a=H a)->jY K CL H Z δ σ fp->jY K CL H' Z' δ σ fp:=by
   intro H H' Z Z' δ σ fp e k r
   induction r with
   | nil=>exact .nil
   | skip _ ih=>exact .skip (ih k)
   | cons r _ ih=>exact .cons (r.mono e fun a ha=>k a (aBN _ ha)) (ih fun a ha=>k a (aBw _ ha))
 induction h generalizing i with
 | nil=>intro e;simp at e
 | @skip o δ σ fp r ih=>
   cases i with
   | zero=>intro e;simp at e
   | succ i=>
     intro e;obtain⟨v,f1,f2,f3,h1,h2,h3,h4,h5⟩:=ih (i:=i) (by simpa using e);exact⟨v,f1,f2,f3,by simpa using h1,h2,h3,fun e k q=>.skip (h4 e k q),.skip h5⟩
 | @cons t0 v0 δ σ fp gp r0 r ih=>
   cases i with
   | zero=>
     intro e;simp at e;subst e;refine⟨v0,[],fp,gp,rfl,rfl,r0,fun {H' Z' t' v' g} e k q=>jY.cons (fp:=g) (gp:=gp) q (mono (fp:=gp) e (fun a ha=>k a (by simpa using ha)) r),.skip (by simpa using r)⟩
   | succ i=>
     intro e;obtain⟨v,f1,f2,f3,h1,h2,h3,h4,h5⟩:=ih (i:=i) (by simpa using e);refine⟨v,fp++f1,f2,f3,by simpa using h1,by rw[h2,List.append_assoc],h3,fun {H' Z' t' v' g} e k q=>?_,fun {o}=>?_⟩
     . rw[aBA];exact .cons (r0.mono e fun a ha=>k a (by simp[ha])) (h4 e (fun a ha=>k a (by rw[aBA];exact aBw _ ha)) q)
     . rw[aBA];exact .cons r0 h5
variable{δ:At}{σ:L2.St}
theorem jY.mono(e:aM Z Z')(k:∀a∈fp,H' a=H a)(r:jY K CL H Z δ σ fp):jY K CL H' Z' δ σ fp:=by
 induction r with
 | nil=>exact .nil
 | skip _ ih=>exact .skip (ih k)
 | cons r _ ih=>exact .cons (r.mono e fun a ha=>k a (aBN _ ha)) (ih fun a ha=>k a (aBw _ ha))
theorem jY.there(r:jY K CL H Z δ σ fp):∀a∈fp,∃o,H a=some o:=by
 induction r with
 | nil=>intro a ha;cases ha
 | skip _ ih=>exact ih
 | cons r _ ih=>exact fun a ha=>(aBy.mp ha).elim (r.there a) (ih a)
theorem jY.put(r:jY K CL H Z δ σ fp){g:BT}(q:b8 K CL H Z t v g) :
   ∀{i:Nat},i<δ.length->∃f,jY K CL H Z (δ.set i (some t)) (σ.set i (some v)) f/\∃f',f'.Sublist fp/\f.Perm (g++f'):=by
 induction r with
 | nil=>intro i hi;simp at hi
 | @skip o δ σ fp r ih=>
   intro i hi;cases i with
   | zero=>exact⟨g++fp,.cons q r,fp,aCm _,aD5 _⟩
   | succ i=>
     obtain⟨f,h1,f',h2,h3⟩:=ih (i:=i) (by simpa using hi);exact⟨f,.skip h1,f',h2,h3⟩
 | @cons t0 v0 δ σ fp gp r0 r ih=>
   intro i hi;cases i with
   | zero=>exact⟨g++gp,.cons q r,gp,aCW _ _,aD5 _⟩
   | succ i=>
     obtain⟨f,h1,f',h2,h3⟩:=ih (i:=i) (by simpa using hi);refine⟨fp++f,.cons r0 h1,fp++f',aCo (aCm _) h2,?_⟩;refine(aCi fp h3).trans ?_;rw[← aBA,← aBA];exact List.Perm.append_right f' aCr
def Za(X:Cx)(e:Expr):TE:=fun σ H Q=>∀(pins:BC) (s:Shared),Inv X pins σ H s->wpAny Q.d X.A (eval e X.env) (EP X pins σ Q) X.xe s
def amv(X:Cx)(e:Expr):TT:=fun σ H Q=>∀(pins:BC) (s:Shared),Inv X pins σ H s->wpAny Q.d X.A (isTrue e X.env (eval e X.env)) (TP X pins σ Q) X.xe s
def ahD(X:Cx)(es:CA):TA:=fun σ H Q=>∀(pos:Pos) (pins:BC) (s:Shared),Inv X pins σ H s->wpAny Q.d X.A (spliced (backTo pos (starEach es X.env))) (AP X pins σ Q) X.xe s
def aqP(X:Cx)(st:Stmt):TS:=fun D σ H=>∀(pins:BC) (s:Shared),Inv X pins σ H s->wpAny Q.d X.A (exec st X.env) (SP X pins D) X.xe s
def aqQ(X:Cx)(st:Cl):TS:=fun D σ H=>∀(pins:BC) (s:Shared),Inv X pins σ H s->wpAny Q.d X.A (execs st X.env) (SP X pins D) X.xe s
variable{X:Cx}{e:Expr}
def cR:PE X e (Za X e):=fun pins s _ _ _ I h=>h pins s I
def ptS:PT X e (amv X e):=fun pins s _ _ _ I h=>h pins s I
def paS{e:CA}:PA X e (ahD X e):=fun pos pins s _ _ _ I h=>h pos pins s I
def psS{e:Stmt}:PS X e (aqP X e):=fun pins s _ _ _ I h=>h pins s I
def pbS{e:Cl}:PSs X e (aqQ X e):=fun pins s _ _ _ I h=>h pins s I
def cE{t:TE}(h:PE X e t){Q:VK}(q:t σ H Q):Za X e σ H Q:=fun pins s I=>h pins s σ H Q I q
variable{Q:Do}
def J4{t:TT}(h:PT X e t)(q:t σ H Q):amv X e σ H Q:=fun pins s I=>h pins s σ H Q I q
def aev{e:CA}{t:TA}(h:PA X e t){Q:BS->Hp->Prop}(q:t σ H Q):ahD X e σ H Q:=fun pos pins s I=>h pos pins s σ H Q I q
def C5{e:Stmt}{t:TS}(h:PS X e t){D:Ends}(q:t D σ H):aqP X e D σ H:=fun pins s I=>h pins s σ H D I q
def atN{e:Cl}{t:TS}(h:PSs X e t){D:Ends}(q:t D σ H):aqQ X e D σ H:=fun pins s I=>h pins s σ H D I q
def notStar:Expr->Bool
 | .Starred _ _=>false
 | _=>true
variable{es:CA}{env:Env}
def bP(h:notStar e=true):starEach (e::es) env=(false,eval e env)::starEach es env:=by
 cases e<;>first|rfl|(cases h)
structure Bx where
 B:Hp
 Z:Hp
def xN:HO->Bool
 | .tup _=>true
 | .fj _ _=>true
 | _=>false
def acI(x:Str):Bool:=x.cps[0]? == some 35
def awV(x:Str):Str:=⟨x.cps.extract 1 x.cps.size⟩
def zV(CL:BA)(Z:Hp):Prop:=∀x,acI x=true->CL x≠0->Z (CL x)=some (.tabs (awV x))
structure cu(K:Frag)(CL:BA)(b:Bx)(H Z:Hp)(δ:At)(σ:L2.St)(ts:CI)(vs:BS):Prop where
 rep:∃fp gp,jY K CL H Z δ σ fp/\bw K CL H Z ts vs gp/\(fp++gp).Nodup/\∀a∈fp++gp,Z a=none/\b.B a=none
 bh:aM b.B H
 zz:aM b.Z Z
 zh:aM Z H
 new:∀a o,Z a=some o->b.Z a=none->b.B a=none
 tp:∀a o,H a=some o->xN o=true->Z a=some o
 tab:zV CL b.Z
variable{b:Bx}
theorem zV.mono{A B:Hp}(h:zV CL A)(e:aM A B):zV CL B:=fun x hx h0=>e _ _ (h x hx h0)
theorem cu.aqR(S:cu K CL b H Z δ σ ts vs):zV CL Z:=S.tab.mono S.zz
theorem cu.aqS(S:cu K CL b H Z δ σ ts vs):zV CL H:=S.aqR.mono S.zh
def aqT{A B:Hp}(e:aM A B)(h:B a=none):A a=none:=e.free h
variable{p:Addr}
theorem aM.upd{o:HO}(h:H p=none):aM H (upd H p o):=fun b u e=>by rw[aA (cy e h)];exact e
theorem cu.view(S:cu K CL b H Z δ σ (t::ts) (v::vs)):b7 K CL H t.fj v:=by
 obtain⟨fp,gp,_,r,_,_⟩:=S.rep;cases r with
 | cons r _=>exact r.fj S.zh fun _ _=>rfl
theorem cu.pop(S:cu K CL b H Z δ σ (t::ts) (v::vs)):cu K CL b H Z δ σ ts vs:=by
 obtain⟨fp,gp,e,r,nd,k⟩:=S.rep;cases r with
 | @cons _ _ _ _ f1 f2 r1 r2=>
   refine⟨⟨fp,f2,e,r2,nd.sublist (aCo (aCm _) (aCW _ _)),fun a ha=>k a ?_⟩,S.bh,S.zz,S.zh,S.new,S.tp,S.tab⟩;rcases aBy.mp ha with h|h
   . exact aBN _ h
   . exact aBw _ (aBw _ h)
theorem cu.push{d:D}(S:cu K CL b H Z δ σ ts vs)(r:b7 K CL Z d v):cu K CL b H Z δ σ (.sh d::ts) (v::vs):=by
 obtain⟨fp,gp,e,r2,nd,k⟩:=S.rep;exact⟨⟨fp,[]++gp,e,.cons (.sh r) r2,nd,k⟩,S.bh,S.zz,S.zh,S.new,S.tp,S.tab⟩
theorem cu.Mh(S:cu K CL b H Z δ σ (t::ts) (v::vs)):∃Z',aM Z Z'/\cu K CL b H Z' δ σ (.sh t.fj::ts) (v::vs):=by
 classical
 obtain⟨fp,gp,e,r,nd,k⟩:=S.rep;cases r with
 | @cons _ _ _ _ f1 f2 r1 r2=>
   have nZ:∀a∈f1,Z a=none/\b.B a=none:=fun a ha=>k a (aBw _ (aBN _ ha));have sz:aM Z (fun a=>if a∈f1 then H a else Z a):=fun a o q=>by
     by_cases ha:a∈f1
     . rw[(nZ a ha).1]at q;cases q
     . show(if a∈f1 then H a else Z a)=some o;rw[aBx ha];exact q
   have nd1:=aCw.mp nd;have dj:∀a∈fp++f2,a∉f1:=fun a ha h1=>by
     rcases aBy.mp ha with h|h
     . exact nd1.2.2 a h a (aBN _ h1) rfl
     . exact(aCw.mp nd1.2.1).2.2 a h1 a h rfl
   refine⟨fun a=>if a∈f1 then H a else Z a,sz,⟨⟨fp,[]++f2,e.mono sz (fun _ _=>rfl),.cons (.sh (r1.fj sz fun a ha=>aBE ha)) (r2.mono sz fun _ _=>rfl),?_,fun a ha=>?_⟩,S.bh,S.zz.trans sz,fun a o q=>?_,fun a o q z=>?_,fun a o q i=>?_,S.tab⟩⟩
   . exact nd.sublist (aCo (aCm _) (aCW _ _))
   . have ha':a∈fp++f2:=ha;refine⟨?_,(k a ?_).2⟩
     . show(if a∈f1 then H a else Z a)=none;rw[aBx (dj a ha')];refine(k a ?_).1;rcases aBy.mp ha' with h|h
       . exact aBN _ h
       . exact aBw _ (aBw _ h)
     . rcases aBy.mp ha' with h|h
       . exact aBN _ h
       . exact aBw _ (aBw _ h)
   . have q':(if a∈f1 then H a else Z a)=some o:=q;by_cases ha:a∈f1
     . rw[aBE ha]at q';exact q'
     . rw[aBx ha]at q';exact S.zh a o q'
   . have q':(if a∈f1 then H a else Z a)=some o:=q;by_cases ha:a∈f1
     . exact(nZ a ha).2
     . rw[aBx ha]at q';exact S.new a o q' z
   . exact sz a o (S.tp a o q i)
variable{i:Nat}
theorem cu.acJ(S:cu K CL b H Z δ σ ts vs)(hi:δ[i]? = some (some t)):∃v Z',σ[i]? = some (some v)/\aM Z Z'/\cu K CL b H Z' (δ.set i (some (.sh t.fj))) σ (.sh t.fj::ts) (v::vs):=by
 classical
 obtain⟨fp,gp,e,r,nd,k⟩:=S.rep;obtain⟨v,f1,f2,f3,hv,BG,rt,put,_⟩:=e.get hi;subst BG;have nZ:∀a∈f2,Z a=none/\b.B a=none:=fun a ha=>k a (by simp[ha]);have sz:aM Z (fun a=>if a∈f2 then H a else Z a):=fun a o q=>by
   by_cases ha:a∈f2
   . rw[(nZ a ha).1]at q;cases q
   . show(if a∈f2 then H a else Z a)=some o;rw[aBx ha];exact q
 have dj:∀a∈(f1++f3)++gp,a∉f2:=fun a ha h2=>by
   have hp:((f1++(f2++f3))++gp).Perm (f2++((f1++f3)++gp)):=by
     rw[← aBA,← aBA];refine(List.perm_append_right_iff gp).mpr ?_;rw[← aBA];exact(List.perm_append_right_iff f3).mpr aCr
   exact(aCw.mp (hp.nodup_iff.mp nd)).2.2 a h2 a ha rfl
 have rF:b7 K CL (fun a=>if a∈f2 then H a else Z a) t.fj v:=rt.fj sz fun a ha=>aBE ha;have aqU:σ.set i (some v)=σ:=by
   apply aCP;intro j;rw[aEc];split
   . rename_i h;subst h;split
     . exact hv.symm
     . rename_i h2;rw[aCs Q.a]
   . rfl
 have e2:jY K CL H (fun a=>if a∈f2 then H a else Z a) (δ.set i (some (.sh t.fj))) σ (f1++([]++f3)):=by
   have:=put (H':=H) (t':=.sh t.fj) (v':=v) (g:=[]) sz (fun _ _=>rfl) (.sh rF)
   rwa [aqU]at this
 refine⟨v,fun a=>if a∈f2 then H a else Z a,hv,sz,⟨⟨f1++([]++f3),[]++gp,e2,.cons (.sh rF) (r.mono sz fun _ _=>rfl),?_,fun a ha=>?_⟩,S.bh,S.zz.trans sz,fun a o q=>?_,fun a o q z=>?_,fun a o q i=>sz a o (S.tp a o q i),S.tab⟩⟩
 . exact nd.sublist (aCo (aCo (aCm _) (aCW _ _)) (aCm _))
 . have ha':a∈(f1++f3)++gp:=ha;have hm:a∈(f1++(f2++f3))++gp:=by
     simp only[aBy]at ha' ⊢;rcases ha' with(h|h)|h
     . exact .inl (.inl h)
     . exact .inl (.inr (.inr h))
     . exact .inr h
   refine⟨?_,(k a hm).2⟩;show(if a∈f2 then H a else Z a)=none;rw[aBx (dj a ha')];exact(k a hm).1
 . have q':(if a∈f2 then H a else Z a)=some o:=q;by_cases ha:a∈f2
   . rw[aBE ha]at q';exact q'
   . rw[aBx ha]at q';exact S.zh a o q'
 . have q':(if a∈f2 then H a else Z a)=some o:=q;by_cases ha:a∈f2
   . exact(nZ a ha).2
   . rw[aBx ha]at q';exact S.new a o q' z
theorem cu.move(S:cu K CL b H Z δ σ ts vs)(hi:δ[i]? = some (some t)):∃v,σ[i]? = some (some v)/\cu K CL b H Z (δ.set i none) σ (t::ts) (v::vs):=by
 obtain⟨fp,gp,e,r,nd,k⟩:=S.rep;obtain⟨v,f1,f2,f3,hv,BG,rt,_,del⟩:=e.get hi;subst BG;have aqU:σ.set i (some v)=σ:=by
   apply aCP;intro j;rw[aEc];split
   . rename_i h;subst h;split
     . exact hv.symm
     . rename_i h2;rw[aCs Q.a]
   . rfl
 have hp:((f1++(f2++f3))++gp).Perm ((f1++f3)++(f2++gp)):=by
   have h1:(f2++f3).Perm (f3++f2):=aCr;have h2:=(aCi f1 h1).append_right gp;simp only[aBA]at h2 ⊢;exact h2
 refine⟨v,hv,⟨⟨f1++f3,f2++gp,?_,.cons rt r,hp.nodup_iff.mp nd,fun a ha=>k a (hp.mem_iff.mpr ha)⟩,S.bh,S.zz,S.zh,S.new,S.tp,S.tab⟩⟩;have:=del (o:=some v)
 rwa [aqU]at this
theorem cu.look(S:cu K CL b H Z δ σ ts vs)(hi:δ[i]? = some (some t)):∃v,σ[i]? = some (some v)/\b7 K CL H t.fj v:=by
 obtain⟨fp,gp,e,r,nd,k⟩:=S.rep;obtain⟨v,f1,f2,f3,hv,BG,rt,_,_⟩:=e.get hi;exact⟨v,hv,rt.fj S.zh fun _ _=>rfl⟩
theorem cu.ahF{d:D}(S:cu K CL b H Z δ σ ts vs)(hi:δ[i]? = some (some (.sh d))):∃v,σ[i]? = some (some v)/\b7 K CL Z d v:=by
 obtain⟨fp,gp,e,r,nd,k⟩:=S.rep;obtain⟨v,f1,f2,f3,hv,BG,rt,_,_⟩:=e.get hi;cases rt with
 | sh h=>exact⟨v,hv,h⟩
theorem cu.set(S:cu K CL b H Z δ σ (t::ts) (v::vs))(hi:i<δ.length):cu K CL b H Z (δ.set i (some t)) (σ.set i (some v)) ts vs:=by
 obtain⟨fp,gp,e,r,nd,k⟩:=S.rep;cases r with
 | @cons _ _ _ _ f1 f2 r1 r2=>
   obtain⟨f,h1,f',h2,h3⟩:=e.put r1 hi;have hp:(f++f2).Perm (f'++(f1++f2)):=by
     refine(h3.append_right f2).trans ?_;rw[← aBA];exact aCr.append_right f2
   have ahG:(f'++(f1++f2)).Sublist (fp++(f1++f2)):=aCo h2 (aCm _);exact⟨⟨f,f2,h1,r2,hp.nodup_iff.mpr (nd.sublist ahG),fun a ha=>k a (ahG.subset (hp.mem_iff.mp ha))⟩,S.bh,S.zz,S.zh,S.new,S.tp,S.tab⟩
mutual
def D.kK:D->Bool
 | .tup ds=>D.bY ds
 | .lst _=>false
 | .ins _ _=>false
 | .mz _=>false
 | .dct _=>false
 | .any=>false
 | .Lj _ _ _=>false
 | _=>true
def D.bY:Ap->Bool
 | []=>true
 | d::ds=>d.kK&&D.bY ds
end
mutual
def T.clean:T->Bool
 | .sh d=>d.kK
 | .tup ts=>T.fZ ts
 | .lst ts=>T.fZ ts
 | .ins _ fs=>T.cz fs
 | .mz aY=>D.bY (aY.map (·.2))
 | .dct aY=>T.R4 aY
 | .pin _ t=>t.clean
 | .Lj _ _ _=>false
def T.fZ:CI->Bool
 | []=>true
 | t::ts=>t.clean&&T.fZ ts
def T.cz:BN->Bool
 | []=>true
 | (_,t)::ts=>t.clean&&T.cz ts
def T.R4:CS->Bool
 | []=>true
 | (_,t)::ts=>t.clean&&T.R4 ts
end
def bU(X:Cx)(CL:BA)(b:Bx)(e:Expr)(δ:At)(t:T)(δ':At):Prop:=
 ∀(H Z:Hp) (σ:L2.St) (ts:CI) (vs:BS) (Q:VK),cu X.K CL b H Z δ σ ts vs->(∀v H' Z',aM Z Z'->aM H H'->cu X.K CL b H' Z' δ' σ (t::ts) (v::vs)->Q v H')->Za X e σ H Q
def cL(X:Cx)(CL:BA)(b:Bx)(e:Expr)(δ:At)(d:D)(δ':At):Prop:=
 ∀(H Z:Hp) (σ:L2.St) (ts:CI) (vs:BS) (Q:VK),cu X.K CL b H Z δ σ ts vs->(∀v H' Z',aM Z Z'->aM H H'->cu X.K CL b H' Z' δ' σ ts vs->b7 X.K CL H' d v->Q v H')->Za X e σ H Q
def xO(X:Cx)(CL:BA)(b:Bx)(e:Expr)(δ:At)(p:Bool)(δ':At):Prop:=
 ∀(H Z:Hp) (σ:L2.St) (ts:CI) (vs:BS) (Q:Do),cu X.K CL b H Z δ σ ts vs->(∀H' Z',aM Z Z'->aM H H'->cu X.K CL b H' Z' δ' σ ts vs->Q p H')->amv X e σ H Q
def Vm(X:Cx)(CL:BA)(b:Bx)(es:CA)(δ:At)(tl:CI)(δ':At):Prop:=
 ∀(H Z:Hp) (σ:L2.St) (ts:CI) (vs:BS) (Q:BS->Hp->Prop),cu X.K CL b H Z δ σ ts vs →
   (∀us H' Z',us.length=tl.length->aM Z Z'->aM H H'->cu X.K CL b H' Z' δ' σ (tl.reverse++ts) (us.reverse++vs)->Q us H')->ahD X es σ H Q
def BAv(X:Cx)(CL:BA)(b:Bx)(es:CA)(δ:At)(ds:Ap)(δ':At):Prop:=
 ∀(H Z:Hp) (σ:L2.St) (ts:CI) (vs:BS) (Q:BS->Hp->Prop),cu X.K CL b H Z δ σ ts vs →
   (∀us H' Z',aM Z Z'->aM H H'->cu X.K CL b H' Z' δ' σ ts vs->aE X.K CL H' ds us->Q us H')->ahD X es σ H Q
structure ja where
 nx:At->Prop
 rt:T->At->Prop
 bk:At->Prop:=fun _=>False
 ct:At->Prop:=fun _=>False
structure Meets(K:Frag)(CL:BA)(b:Bx)(Z:Hp)(ts:CI)(vs:BS)(D:ja)(E:Ends):Prop where
 nx:∀δ' σ' H' Z',aM Z Z'->cu K CL b H' Z' δ' σ' ts vs->D.nx δ'->E.nx σ' H'
 rt:∀t v H' Z' δ' σ',aM Z Z'->cu K CL b H' Z' δ' σ' (t::ts) (v::vs)->D.rt t δ'->E.rt v H'
 bk:∀δ' σ' H' Z',aM Z Z'->cu K CL b H' Z' δ' σ' ts vs->D.bk δ'->E.bk σ' H'
 ct:∀δ' σ' H' Z',aM Z Z'->cu K CL b H' Z' δ' σ' ts vs->D.ct δ'->E.ct σ' H'
def TSv(X:Cx)(CL:BA)(b:Bx)(st:Stmt)(δ:At)(D:ja):Prop:=
 ∀(H Z:Hp) (σ:L2.St) (ts:CI) (vs:BS) (E:Ends),cu X.K CL b H Z δ σ ts vs->Meets X.K CL b Z ts vs D E->aqP X st E σ H
def gw(X:Cx)(CL:BA)(b:Bx)(st:Cl)(δ:At)(D:ja):Prop:=
 ∀(H Z:Hp) (σ:L2.St) (ts:CI) (vs:BS) (E:Ends),cu X.K CL b H Z δ σ ts vs->Meets X.K CL b Z ts vs D E->aqQ X st E σ H
theorem Meets.mono{D:ja}{E:Ends}(M:Meets K CL b Z ts vs D E)(e:aM Z Z'):Meets K CL b Z' ts vs D E:=
 ⟨fun _ _ _ _ s=>M.nx _ _ _ _ (e.trans s),fun _ _ _ _ _ _ s=>M.rt _ _ _ _ _ _ (e.trans s),fun _ _ _ _ s=>M.bk _ _ _ _ (e.trans s),fun _ _ _ _ s=>M.ct _ _ _ _ (e.trans s)⟩
def acK(zh:∀a o,H a=some o->xN o=true->Z a=some o)(h:xJ K H a xs):xJ K Z a xs:=by
 rcases h with(h|⟨o,h⟩)|h
 . exact .inl (.inl (zh _ _ h rfl))
 . exact .inl (.inr ⟨o,zh _ _ h rfl⟩)
 . exact .inr h
theorem b7.kK(zh:∀a o,H a=some o->xN o=true->Z a=some o){d:D}(k:d.kK=true)(h:b7 K CL H d v):b7 K CL Z d v:=
 b7.rec (motive_1:=fun d v _=>d.kK=true->b7 K CL Z d v) (motive_2:=fun d v _=>D.bY d=true->aE K CL Z d v) (motive_3:=fun d v _=>True) (motive_4:=fun d v _=>True) (motive_5:=fun d v _=>True)
   (fun _=>.non) (fun b _=>.bl b) (fun b _=>.int b) (fun b _=>.str b) (fun _ k=>by rw[D.kK]at k;cases k) (fun b _=>.val b) (fun h _ r k=>.tup (acK zh h) (r (by rw[D.kK]at k;exact k))) (fun _ _ _ k=>by rw[D.kK]at k;cases k) (fun _ _ _ k=>by rw[D.kK]at k;cases k) (fun _ _ _ k=>by rw[D.kK]at k;cases k) (fun _ _ _ k=>by rw[D.kK]at k;cases k) (fun _ _ _ _ _ k=>by rw[D.kK]at k;cases k) (fun _=>.nil) (fun _ _ h r k=>by rw[D.bY,aB6]at k;exact .cons (h k.1) (r k.2)) trivial (fun _ _ _ _=>trivial) trivial (fun _ _ _ _=>trivial) trivial (fun _ _ _ _=>trivial) h k
theorem aE.kK(zh:∀a o,H a=some o->xN o=true->Z a=some o){d:Ap}{v:BS}(k:D.bY d=true)(h:aE K CL H d v):aE K CL Z d v:=
 aE.rec (motive_1:=fun d v _=>d.kK=true->b7 K CL Z d v) (motive_2:=fun d v _=>D.bY d=true->aE K CL Z d v) (motive_3:=fun d v _=>True) (motive_4:=fun d v _=>True) (motive_5:=fun d v _=>True)
   (fun _=>.non) (fun b _=>.bl b) (fun b _=>.int b) (fun b _=>.str b) (fun _ k=>by rw[D.kK]at k;cases k) (fun b _=>.val b) (fun h _ r k=>.tup (acK zh h) (r (by rw[D.kK]at k;exact k))) (fun _ _ _ k=>by rw[D.kK]at k;cases k) (fun _ _ _ k=>by rw[D.kK]at k;cases k) (fun _ _ _ k=>by rw[D.kK]at k;cases k) (fun _ _ _ k=>by rw[D.kK]at k;cases k) (fun _ _ _ _ _ k=>by rw[D.kK]at k;cases k) (fun _=>.nil) (fun _ _ h r k=>by rw[D.bY,aB6]at k;exact .cons (h k.1) (r k.2)) trivial (fun _ _ _ _=>trivial) trivial (fun _ _ _ _=>trivial) trivial (fun _ _ _ _=>trivial) h k
theorem cC.clean{Z1:Hp}(zi:∀{d:D} {v:V},d.kK=true->b7 K CL Z1 d v->b7 K CL Z d v){aY:Bn}{gs:Bz}(k:D.bY (aY.map (·.2))=true)(h:cC K CL Z1 aY gs):cC K CL Z aY gs:=
 cC.ind (P:=fun aY gs=>D.bY (aY.map (·.2))=true->cC K CL Z aY gs) (fun _=>.nil) (fun h _ i k=>by rw[aBK,D.bY,aB6]at k;exact .cons (zi k.1 h) (i k.2)) h k
theorem b8.clean{Z1:Hp}(zh:∀a xs,Z1 a=some (.tup xs)->Z a=some (.tup xs))(zi:∀{d:D} {v:V},d.kK=true->b7 K CL Z1 d v->b7 K CL Z d v)(k:t.clean=true)(h:b8 K CL H Z1 t v fp):b8 K CL H Z t v fp:=
 b8.rec (motive_1:=fun t v fp _=>t.clean=true->b8 K CL H Z t v fp) (motive_2:=fun t v fp _=>T.fZ t=true->bw K CL H Z t v fp) (motive_3:=fun t v fp _=>T.cz t=true->d8 K CL H Z t v fp) (motive_4:=fun t v fp _=>T.R4 t=true->i9 K CL H Z t v fp)
   (fun h k=>.sh (zi (by rw[T.clean]at k;exact k) h)) (fun h _ r k=>.tup (zh _ _ h) (r (by rw[T.clean]at k;exact k))) (fun h _ r k=>.lst h (r (by rw[T.clean]at k;exact k))) (fun h _ r k=>.ins h (r (by rw[T.clean]at k;exact k))) (fun h f k=>.mz h (cC.clean zi (by rw[T.clean]at k;exact k) f)) (fun h _ r k=>.dct h (r (by rw[T.clean]at k;exact k))) (fun _ r k=>.pin (r (by rw[T.clean]at k;exact k))) (fun _ _ _ k=>by rw[T.clean]at k;cases k) (fun _=>.nil) (fun _ _ h r k=>by rw[T.fZ,aB6]at k;exact .cons (h k.1) (r k.2)) (fun _=>.nil) (fun _ _ h r k=>by rw[T.cz,aB6]at k;exact .cons (h k.1) (r k.2)) (fun _=>.nil) (fun _ _ h r k=>by rw[T.R4,aB6]at k;exact .cons (h k.1) (r k.2)) h k
theorem cu.back{W W':Hp}(S:cu K CL b H Z δ σ ts vs)(hh:aM H H')(zw:aM Z W)(ww:aM W W')(wh:aM W' H')(new:∀a o,W' a=some o->W a=none->H a=none)
   (tp:∀a o,H' a=some o->xN o=true->W' a=some o) (r:b8 K CL H' W' t v fp) (nd:fp.Nodup) (own:∀a∈fp,W' a=none/\H a=none) (c:W=Z\/t.clean=true) :
   ∃Z',aM Z Z'/\cu K CL b H' Z' δ σ (t::ts) (v::vs):=by
 classical
 let Z':Hp:=fun a=>if (H a).isSome=true then Z a else W' a
 have zs:∀{a:Addr} {o:HO},H a=some o->Z' a=Z a:=fun {a o} e=>by
   show(if (H a).isSome=true then Z a else W' a)=Z a;rw[aBE (by rw[e];rfl)]
 have zn:∀{a:Addr},H a=none->Z' a=W' a:=fun {a} e=>by
   show(if (H a).isSome=true then Z a else W' a)=W' a;rw[aBx (by rw[e];simp)]
 have sz:aM Z Z':=fun a o q=>by rw[zs (S.zh a o q)];exact q
 have zw':∀a o,Z' a=some o->W' a=some o:=fun a o q=>by
   cases e:H a with
   | none=>rw[zn e]at q;exact q
   | some u=>rw[zs e]at q;exact ww a o (zw a o q)
 have ztp:∀a o,H' a=some o->xN o=true->Z' a=some o:=fun a o q i=>by
   cases e:H a with
   | none=>rw[zn e];exact tp a o q i
   | some u=>
     rw[zs e];have:=hh a u e;rw[q]at this;cases this;exact S.tp a o e i
 have r':b8 K CL H' Z' t v fp:=by
   rcases c with c|c
   . have:Z'=W':=by
       funext a;cases e:H a with
       | none=>exact zn e
       | some u=>
         rw[zs e];cases q:W' a with
         | none=>
           cases q2:Z a with
           | none=>rfl
           | some o=>rw[ww a o (zw a o q2)]at q;cases q
         | some o=>
           cases q2:W a with
           | none=>rw[new a o q q2]at e;cases e
           | some o2=>
             have:=ww a o2 q2;rw[q]at this;cases this;rw[← c];exact q2
     rw[this];exact r
   . refine b8.clean (fun a xs h=>?_) (fun {d v} k h=>?_) c r
     . exact ztp a _ (wh a _ h) rfl
     . exact b7.kK (H:=H') ztp k (h.mono wh)
 obtain⟨f0,g0,e0,r0,nd0,k0⟩:=S.rep;have old:∀a∈f0++g0,∃o,H a=some o:=fun a ha=>(aBy.mp ha).elim (e0.there a) (r0.there a);have keep:∀a∈f0++g0,H' a=H a:=fun a ha=>by
   obtain⟨o,e⟩:=old a ha;rw[e];exact hh a o e
 refine⟨Z',sz,⟨⟨f0,fp++g0,e0.mono sz (fun a ha=>keep a (aBN _ ha)),.cons r' (r0.mono sz fun a ha=>keep a (aBw _ ha)),?_,fun a ha=>?_⟩,S.bh.trans hh,S.zz.trans sz,fun a o q=>wh a o (zw' a o q),fun a o q z=>?_,ztp,S.tab⟩⟩
 . have hp:(f0++(fp++g0)).Perm (fp++(f0++g0)):=by
     rw[← aBA,← aBA];exact aCr.append_right g0
   refine hp.nodup_iff.mpr (aCw.mpr ⟨nd,nd0,fun a ha c hc e=>?_⟩);subst e;obtain⟨o,q⟩:=old a hc;rw[(own a ha).2]at q;cases q
 . have:a∈f0++g0\/a∈fp:=by
     simp only[aBy]at ha ⊢;rcases ha with h|h|h
     . exact .inl (.inl h)
     . exact .inr h
     . exact .inl (.inr h)
   rcases this with h|h
   . obtain⟨o,q⟩:=old a h;exact⟨by rw[zs q];exact(k0 a h).1,(k0 a h).2⟩
   . exact⟨by rw[zn (own a h).2];exact(own a h).1,S.bh.free (own a h).2⟩
 . cases e:H a with
   | none=>exact S.bh.free e
   | some u=>rw[zs e]at q;exact S.new a o q z
section
variable{δ1 δ2:At}{e1 e2:Expr}{pos:Pos}{d d1 d2:D}
def aoU(h:bU X CL b e δ t δ1):cL X CL b e δ t.fj δ1:=fun H Z σ ts vs Q S k=>h H Z σ ts vs Q S fun v H' Z' z s S'=>k v H' Z' z s S'.pop S'.view
def ak(h:bU X CL b e δ (.sh d) δ1):cL X CL b e δ d δ1:=by have:=aoU h;rwa [T.fj]at this
def aG(h:cL X CL b e δ d δ1)(i:d.kK=true):bU X CL b e δ (.sh d) δ1:=fun H Z σ ts vs Q S k=>h H Z σ ts vs Q S fun v H' Z' z s S' r=>k v H' Z' z s (S'.push (b7.kK S'.tp i r))
def Mi(h:bU X CL b e δ t δ1):bU X CL b e δ (.sh t.fj) δ1:=fun H Z σ ts vs Q S k=>h H Z σ ts vs Q S fun v H' Z' z s S'=>by
 obtain⟨Z2,z2,S2⟩:=S'.Mh;exact k v H' Z2 (z.trans z2) s S2
def GF{i:Int}{j:Nat}:bU X CL b (.Constant (.int i) j pos) δ (.sh (.int i)) δ:=fun H Z σ ts vs Q S k=>cE ap1 (k _ _ Z (.refl _) (.refl _) (S.push (.int i)))
def rG{i:Bool}{j:Nat}:bU X CL b (.Constant (.bool i) j pos) δ (.sh (.bl i)) δ:=fun H Z σ ts vs Q S k=>cE as7 (k _ _ Z (.refl _) (.refl _) (S.push (.bl i)))
def b9{x:Str}{j:Nat}:bU X CL b (.Constant (.str x) j pos) δ (.sh (.str x)) δ:=fun H Z σ ts vs Q S k=>cE ap2 (k _ _ Z (.refl _) (.refl _) (S.push (.str x)))
section
variable{x:Str}(i:Nat)(hi:X.N[i]? = some x:=by rfl)(hv:Vis X.env.scope x:=by first|exact Or.inl rfl|exact Or.inr (Or.inl rfl)|exact Or.inr (Or.inr rfl))(hd:AD x:=by decide)(uG:AE x:=by decide)
include hi hv hd uG
def aqV(h:δ[i]? = some (some (.sh d)):=by rfl):bU X CL b (.Name x pos) δ (.sh d) δ:=fun H Z σ ts vs Q S k=>by
 obtain⟨v,e,r⟩:=S.ahF h;exact cE (qI hi hv hd uG) ⟨v,e,k v H Z (.refl _) (.refl _) (S.push r)⟩
def amw(h:δ[i]? = some (some t):=by rfl):bU X CL b (.Name x pos) δ (.sh t.fj) (δ.set i (some (.sh t.fj))):=fun H Z σ ts vs Q S k=>by
 obtain⟨v,Z',e,z,S'⟩:=S.acJ h;exact cE (qI hi hv hd uG) ⟨v,e,k v H Z' z (.refl _) S'⟩
def amx(h:δ[i]? = some (some t):=by rfl):bU X CL b (.Name x pos) δ t (δ.set i none):=fun H Z σ ts vs Q S k=>by
 obtain⟨v,e,S'⟩:=S.move h;exact cE (qI hi hv hd uG) ⟨v,e,k v H Z (.refl _) (.refl _) S'⟩
def aqW(h:δ[i]? = some (some t):=by rfl):cL X CL b (.Name x pos) δ t.fj δ:=fun H Z σ ts vs Q S k=>by
 obtain⟨v,e,r⟩:=S.look h;exact cE (qI hi hv hd uG) ⟨v,e,k v H Z (.refl _) (.refl _) S r⟩
end
def scV:D->Option V
 | .non=>some .non
 | .bl b=>some (.bl b)
 | .int i=>some (.int i)
 | .str x => some (.str x)
 | _=>none
theorem b7.sc{d:D}{w:V}(r:b7 K CL Z d v)(h:scV d=some w):v=w:=by
 cases r<;>first|(exact aBX h)|(cases h)
def amA{d:D}{w:V}(h:scV d=some w):b7 K CL Z d w:=by
 cases d<;>first|(cases h;constructor)|(cases h)
def zW{op:Operator}{r:R2}{w1 w2 w:V}(ho:zG X (binaryOp op) r)(h1:cL X CL b e1 δ d1 δ1)(h2:cL X CL b e2 δ1 d2 δ2)(s1:scV d1=some w1)(s2:scV d2=some w2)(s3:scV d=some w)
   (hr:∀(H:Hp) (Q:VK),Q w H->r w1 w2 H Q):bU X CL b (.BinOp e1 op e2 pos) δ (.sh d) δ2:=fun H Z σ ts vs Q S k=>by
 refine cE (QI ho cR cR) (h1 H Z σ ts vs _ S fun v1 H1 Z1 z1 k1 S1 r1=>h2 H1 Z1 σ ts vs _ S1 fun v2 H2 Z2 z2 k2 S2 r2=>?_);rw[r1.sc s1,r2.sc s2];exact hr H2 Q (k w H2 Z2 (z1.trans z2) (k1.trans k2) (S2.push (amA s3)))
def mC{i j:Int}(h1:cL X CL b e1 δ (.int i) δ1)(h2:cL X CL b e2 δ1 (.int j) δ2):bU X CL b (.BinOp e1 .Add e2 pos) δ (.sh (.int (i+j))) δ2:=zW aqq h1 h2 rfl rfl rfl fun _ _ q=>⟨i,j,rfl,rfl,q⟩
def tu{i j:Int}(h1:cL X CL b e1 δ (.int i) δ1)(h2:cL X CL b e2 δ1 (.int j) δ2):bU X CL b (.BinOp e1 .Sub e2 pos) δ (.sh (.int (i-j))) δ2:=zW aqr h1 h2 rfl rfl rfl fun _ _ q=>⟨i,j,rfl,rfl,q⟩
def R5{i j:Int}(h1:cL X CL b e1 δ (.int i) δ1)(h2:cL X CL b e2 δ1 (.int j) δ2)(c:al9 i j):bU X CL b (.BinOp e1 .Mult e2 pos) δ (.sh (.int (i*j))) δ2:=zW aqs h1 h2 rfl rfl rfl fun _ _ q=>⟨i,j,rfl,rfl,c,q⟩
def dz{i j:Int}(h1:cL X CL b e1 δ (.int i) δ1)(h2:cL X CL b e2 δ1 (.int j) δ2)(c:0<j):bU X CL b (.BinOp e1 .Mod e2 pos) δ (.sh (.int (i % j))) δ2:=zW aqt h1 h2 rfl rfl rfl fun _ _ q=>⟨i,j,rfl,rfl,c,q⟩
def gu{i j:Int}(h1:cL X CL b e1 δ (.int i) δ1)(h2:cL X CL b e2 δ1 (.int j) δ2)(c:atn i j):bU X CL b (.BinOp e1 .FloorDiv e2 pos) δ (.sh (.int (i / j))) δ2:=zW ama h1 h2 rfl rfl rfl fun _ _ q=>⟨i,j,rfl,rfl,c,q⟩
def R6{i j:Int}(h1:cL X CL b e1 δ (.int i) δ1)(h2:cL X CL b e2 δ1 (.int j) δ2)(c:ato i j):bU X CL b (.BinOp e1 .Pow e2 pos) δ (.sh (.int (i ^ j.toNat))) δ2:=zW aqu h1 h2 rfl rfl rfl fun _ _ q=>⟨i,j,rfl,rfl,c,q⟩
def oY{x y:Str}(h1:cL X CL b e1 δ (.str x) δ1)(h2:cL X CL b e2 δ1 (.str y) δ2)(c:x.length+y.length<=sizeLine):bU X CL b (.BinOp e1 .Add e2 pos) δ (.sh (.str (x++y))) δ2:=zW YS h1 h2 rfl rfl rfl fun _ _ q=>⟨x,y,rfl,rfl,c,q⟩
def zX{op:CmpOp}{r:R2}{p:Bool}{w1 w2:V}(ho:zG X (compareOp op) r)(h1:cL X CL b e1 δ d1 δ1)(h2:cL X CL b e2 δ1 d2 δ2)(s1:scV d1=some w1)(s2:scV d2=some w2)
   (hr:∀(H:Hp) (Q:VK),Q (.bl p) H->r w1 w2 H Q) (hm:behindInMarks op e2=false):xO X CL b (.Compare e1 [op] [e2] pos) δ p δ2/\bU X CL b (.Compare e1 [op] [e2] pos) δ (.sh (.bl p)) δ2:=by
 constructor
 . intro H Z σ ts vs Q S k;refine J4 (BD ho cR cR hm) (h1 H Z σ ts vs _ S fun v1 H1 Z1 z1 k1 S1 r1=>h2 H1 Z1 σ ts vs _ S1 fun v2 H2 Z2 z2 k2 S2 r2=>?_);rw[r1.sc s1,r2.sc s2];exact hr H2 _ ⟨p,rfl,k H2 Z2 (z1.trans z2) (k1.trans k2) S2⟩
 . intro H Z σ ts vs Q S k;refine cE (By ho cR cR hm) (h1 H Z σ ts vs _ S fun v1 H1 Z1 z1 k1 S1 r1=>h2 H1 Z1 σ ts vs _ S1 fun v2 H2 Z2 z2 k2 S2 r2=>?_);rw[r1.sc s1,r2.sc s2];exact hr H2 _ (k _ H2 Z2 (z1.trans z2) (k1.trans k2) (S2.push (.bl p)))
def atP{w1 w2:V}(h1:cL X CL b e1 δ d1 δ1)(h2:cL X CL b e2 δ1 d2 δ2)(s1:scV d1=some w1)(s2:scV d2=some w2)(sc:aqw w1 w2=true) :
   xO X CL b (.Compare e1 [.Eq] [e2] pos) δ (decide (w1=w2)) δ2/\bU X CL b (.Compare e1 [.Eq] [e2] pos) δ (.sh (.bl (decide (w1=w2)))) δ2:=zX ahd h1 h2 s1 s2 (fun _ _ q=>⟨sc,q⟩) (vR _)
def cg{i j:Int}(h1:cL X CL b e1 δ (.int i) δ1)(h2:cL X CL b e2 δ1 (.int j) δ2):xO X CL b (.Compare e1 [.Eq] [e2] pos) δ (decide (i=j)) δ2/\bU X CL b (.Compare e1 [.Eq] [e2] pos) δ (.sh (.bl (decide (i=j)))) δ2:=
 zX ahd h1 h2 rfl rfl (fun _ _ q=>⟨rfl,by rw[show decide (V.int i=V.int j)=decide (i=j) by simp];exact q⟩) (vR _)
def lC{i j:Int}(h1:cL X CL b e1 δ (.int i) δ1)(h2:cL X CL b e2 δ1 (.int j) δ2):xO X CL b (.Compare e1 [.NotEq] [e2] pos) δ (!decide (i=j)) δ2/\bU X CL b (.Compare e1 [.NotEq] [e2] pos) δ (.sh (.bl (!decide (i=j)))) δ2:=
 zX ahe h1 h2 rfl rfl (fun _ _ q=>⟨rfl,by rw[show decide (V.int i=V.int j)=decide (i=j) by simp];exact q⟩) (vR _)
def bI{i j:Str}(h1:cL X CL b e1 δ (.str i) δ1)(h2:cL X CL b e2 δ1 (.str j) δ2):xO X CL b (.Compare e1 [.Eq] [e2] pos) δ (decide (i=j)) δ2/\bU X CL b (.Compare e1 [.Eq] [e2] pos) δ (.sh (.bl (decide (i=j)))) δ2:=
 zX ahd h1 h2 rfl rfl (fun _ _ q=>⟨rfl,by rw[show decide (V.str i=V.str j)=decide (i=j) by simp];exact q⟩) (vR _)
def vS{i j:Str}(h1:cL X CL b e1 δ (.str i) δ1)(h2:cL X CL b e2 δ1 (.str j) δ2):xO X CL b (.Compare e1 [.NotEq] [e2] pos) δ (!decide (i=j)) δ2/\bU X CL b (.Compare e1 [.NotEq] [e2] pos) δ (.sh (.bl (!decide (i=j)))) δ2:=
 zX ahe h1 h2 rfl rfl (fun _ _ q=>⟨rfl,by rw[show decide (V.str i=V.str j)=decide (i=j) by simp];exact q⟩) (vR _)
def Vo{i j:Int}(h1:cL X CL b e1 δ (.int i) δ1)(h2:cL X CL b e2 δ1 (.int j) δ2):xO X CL b (.Compare e1 [.Lt] [e2] pos) δ (decide (i<j)) δ2/\bU X CL b (.Compare e1 [.Lt] [e2] pos) δ (.sh (.bl (decide (i<j)))) δ2:=zX acs h1 h2 rfl rfl (fun _ _ q=>⟨i,j,rfl,rfl,q⟩) (vR _)
def aoV{i j:Int}(h1:cL X CL b e1 δ (.int i) δ1)(h2:cL X CL b e2 δ1 (.int j) δ2):xO X CL b (.Compare e1 [.LtE] [e2] pos) δ (decide (i<=j)) δ2/\bU X CL b (.Compare e1 [.LtE] [e2] pos) δ (.sh (.bl (decide (i<=j)))) δ2:=zX acu h1 h2 rfl rfl (fun _ _ q=>⟨i,j,rfl,rfl,q⟩) (vR _)
def Ey{i j:Int}(h1:cL X CL b e1 δ (.int i) δ1)(h2:cL X CL b e2 δ1 (.int j) δ2):xO X CL b (.Compare e1 [.Gt] [e2] pos) δ (decide (j<i)) δ2/\bU X CL b (.Compare e1 [.Gt] [e2] pos) δ (.sh (.bl (decide (j<i)))) δ2:=zX atp h1 h2 rfl rfl (fun _ _ q=>⟨i,j,rfl,rfl,q⟩) (vR _)
end
theorem bw.split:∀{as bs:CI} {us ws:BS} {gp:BT},as.length=us.length->bw K CL H Z (as++bs) (us++ws) gp->∃g1 g2,gp=g1++g2/\bw K CL H Z as us g1/\bw K CL H Z bs ws g2
 | [],_,[],_,gp,_,r=>⟨[],gp,rfl,.nil,r⟩
 | [],_,_::_,_,_,h,_=>by simp at h
 | _::_,_,[],_,_,h,_=>by simp at h
 | a::as,bs,u::us,ws,gp,h,r=>by
   cases r with
   | @cons _ _ _ _ f1 f2 r1 r2=>
     obtain⟨g1,g2,e,h1,h2⟩:=bw.split (as:=as) (us:=us) (by simpa using h) r2;exact⟨f1++g1,g2,by rw[e,aBA],.cons r1 h1,h2⟩
variable{us:BS}
theorem bw.app{as bs:CI}{ws:BS}{g1 g2:BT}(h:bw K CL H Z as us g1)(q:bw K CL H Z bs ws g2):bw K CL H Z (as++bs) (us++ws) (g1++g2):=
 bw.ind (P:=fun as us g1=>bw K CL H Z (as++bs) (us++ws) (g1++g2)) q (fun r _ i=>by rw[aBA];exact .cons r i) h
theorem bw.rev:∀{as:CI} {us:BS} {g:BT},bw K CL H Z as.reverse us.reverse g->∃g',bw K CL H Z as us g'/\g'.Perm g
 | [],[],g,r=>by
   have r':bw K CL H Z [] [] g:=r;cases r';exact⟨[],.nil,aD5 _⟩
 | [],u::us,g,r=>by have:=r.length;simp at this
 | a::as,[],g,r=>by have:=r.length;simp at this
 | a::as,u::us,g,r=>by
   rw[aC2,aC2]at r;have hl:=r.length;obtain⟨g1,g2,e,r1,r2⟩:=bw.split (by simp at hl ⊢;omega) r;subst e;obtain⟨g',r',p⟩:=bw.rev r1;cases r2 with
   | @cons _ _ _ _ f1 f2 q1 q2=>
     cases q2;refine⟨f1++g',.cons q1 r',?_⟩;rw[aBW];exact(aCi f1 p).trans aCr
theorem bw.toF:∀{ds:Ap} {us:BS} {g:BT},bw K CL H Z (ds.map T.sh) us g->aE K CL Z ds us/\g=[]
 | [],_,_,r=>by
   have r':bw K CL H Z [] _ _:=r;cases r';exact⟨.nil,rfl⟩
 | d::ds,_,_,r=>by
   have r':bw K CL H Z (T.sh d::ds.map T.sh) _ _:=r;cases r' with
   | cons r1 r2=>
     cases r1 with
     | sh h=>
       obtain⟨q,e⟩:=bw.toF r2;exact⟨.cons h q,by rw[e];rfl⟩
theorem kL:∀(ds:Ap),T.ni (ds.map T.sh)=ds
 | []=>rfl
 | d::ds=>by rw[aBK,T.ni,kL ds,T.fj]
variable{tl:CI}
theorem cu.GH(S:cu K CL b H Z δ σ (tl.reverse++ts) (us.reverse++vs))(hl:us.length=tl.length)(hp:H p=none) :
   aM Z (upd Z p (.tup us))/\aM H (upd H p (.tup us))/\cu K CL b (upd H p (.tup us)) (upd Z p (.tup us)) δ σ (.tup tl::ts) (.ref p::vs):=by
 obtain⟨fp,gp,e,r,nd,k⟩:=S.rep;obtain⟨g1,g2,eg,r1,r2⟩:=bw.split (by simp[hl]) r;subst eg;obtain⟨g',r',pm⟩:=r1.rev;have zp:Z p=none:=S.zh.free hp;have sz:aM Z (upd Z p (.tup us)):=aM.upd zp;have sh:aM H (upd H p (.tup us)):=aM.upd hp;have keep:∀a∈fp++(g1++g2),a≠p:=fun a ha=>by
   have:∃o,H a=some o:=by
     rcases aBy.mp ha with h|h
     . exact e.there a h
     . exact r.there a h
   obtain⟨o,q⟩:=this;exact cy q hp
 have pm2:(fp++(g'++g2)).Perm (fp++(g1++g2)):=(pm.append_right g2).append_left fp;have kk:∀a∈fp++(g'++g2),a≠p:=fun a ha=>keep a (pm2.mem_iff.mp ha);refine⟨sz,sh,⟨⟨fp,g'++g2,e.mono sz (fun a ha=>aA (keep a (aBN _ ha))),.cons (.tup bA (r'.mono sz fun a ha=>aA (kk a (by simp[ha])))) (r2.mono sz fun a ha=>aA (keep a (by simp[ha]))),pm2.nodup_iff.mpr nd,fun a ha=>?_⟩,S.bh.trans sh,S.zz.trans sz,fun a o q=>?_,fun a o q z=>?_,fun a o q i=>?_,S.tab⟩⟩
 . exact⟨by rw[aA (kk a ha)];exact(k a (pm2.mem_iff.mp ha)).1,(k a (pm2.mem_iff.mp ha)).2⟩
 . by_cases ha:a=p
   . subst ha;rw[bA]at q ⊢;exact q
   . rw[aA ha]at q ⊢;exact S.zh a o q
 . by_cases ha:a=p
   . subst ha;exact S.bh.free hp
   . rw[aA ha]at q;exact S.new a o q z
 . by_cases ha:a=p
   . subst ha;rw[bA]at q ⊢;exact q
   . rw[aA ha]at q ⊢;exact S.tp a o q i
theorem cu.C6{g0:BT}(S:cu K CL b H Z δ σ (tl.reverse++ts) (us.reverse++vs))(hl:us.length=tl.length)(hp:H p=none) :
   aM H (upd H p (.lst us))/\cu K CL b (upd H p (.lst us)) Z δ σ (.lst tl::ts) (.ref p::vs):=by
 obtain⟨fp,gp,e,r,nd,k⟩:=S.rep;obtain⟨g1,g2,eg,r1,r2⟩:=bw.split (by simp[hl]) r;subst eg;obtain⟨g',r',pm⟩:=r1.rev;have zp:Z p=none:=S.zh.free hp;have sh:aM H (upd H p (.lst us)):=aM.upd hp;have keep:∀a∈fp++(g1++g2),a≠p:=fun a ha=>by
   have:∃o,H a=some o:=by
     rcases aBy.mp ha with h|h
     . exact e.there a h
     . exact r.there a h
   obtain⟨o,q⟩:=this;exact cy q hp
 have pm2:(fp++(g'++g2)).Perm (fp++(g1++g2)):=(pm.append_right g2).append_left fp;have kk:∀a∈fp++(g'++g2),a≠p:=fun a ha=>keep a (pm2.mem_iff.mp ha);have pm3:(fp++((p::g')++g2)).Perm (p::(fp++(g'++g2))):=by
   rw[aB3];exact aCN
 refine⟨sh,⟨⟨fp,(p::g')++g2,e.mono (.refl _) (fun a ha=>aA (keep a (aBN _ ha))),.cons (.lst bA (r'.mono (.refl _) fun a ha=>aA (kk a (by simp[ha])))) (r2.mono (.refl _) fun a ha=>aA (keep a (by simp[ha]))),?_,fun a ha=>?_⟩,S.bh.trans sh,S.zz,S.zh.trans sh,S.new,fun a o q i=>?_,S.tab⟩⟩
 . refine pm3.nodup_iff.mpr (aCu.mpr ⟨fun h=>kk p h rfl,pm2.nodup_iff.mpr nd⟩)
 . rcases aBq.mp (pm3.mem_iff.mp ha) with h|h
   . subst h;exact⟨zp,S.bh.free hp⟩
   . exact k a (pm2.mem_iff.mp h)
 . by_cases ha:a=p
   . subst ha;rw[bA]at q;cases q;cases i
   . rw[aA ha]at q;exact S.tp a o q i
variable{δ1 δ2:At}{e1 e2:Expr}{p q:Bool}{pos:Pos}{d:D}{ds:Ap}
def cj:Vm X CL b [] δ [] δ:=fun H Z σ ts vs Q S k=>aev dQ (k [] H Z rfl (.refl _) (.refl _) S)
def bE(h1:bU X CL b e δ t δ1)(h2:Vm X CL b es δ1 tl δ2)(hs:AC X e es:=by exact bP rfl):Vm X CL b (e::es) δ (t::tl) δ2:=fun H Z σ ts vs Q S k=>
 aev (bW cR paS hs) (h1 H Z σ ts vs _ S fun v H1 Z1 z1 k1 S1=>h2 H1 Z1 σ _ _ _ S1 fun us H2 Z2 hl z2 k2 S2=>k (v::us) H2 Z2 (by simp[hl]) (z1.trans z2) (k1.trans k2) (by
   rw[aC2,aC2,aBA,aBA];exact S2))
def av:BAv X CL b [] δ [] δ:=fun H Z σ ts vs Q S k=>aev dQ (k [] H Z (.refl _) (.refl _) S .nil)
def ah(h1:cL X CL b e δ d δ1)(h2:BAv X CL b es δ1 ds δ2)(hs:AC X e es:=by exact bP rfl):BAv X CL b (e::es) δ (d::ds) δ2:=fun H Z σ ts vs Q S k=>
 aev (bW cR paS hs) (h1 H Z σ ts vs _ S fun v H1 Z1 z1 k1 S1 r1=>h2 H1 Z1 σ _ _ _ S1 fun us H2 Z2 z2 k2 S2 r2=>k (v::us) H2 Z2 (z1.trans z2) (k1.trans k2) S2 (.cons (r1.mono k2) r2))
variable{j:Nat}
def Zb(h:Vm X CL b es δ tl δ1)(hl:tl.length<=sizeLine):bU X CL b (.Tuple es j pos) δ (.tup tl) δ1:=fun H Z σ ts vs Q S k=>
 cE (aqz paS) (h H Z σ ts vs _ S fun us H1 Z1 hu z1 k1 S1=>⟨by rw[hu];exact hl,fun p hp=>by
   obtain⟨a,c,S2⟩:=S1.GH hu hp;exact k _ _ _ (z1.trans a) (k1.trans c) S2⟩)
def aU(h:Vm X CL b es δ (ds.map T.sh) δ1)(hl:ds.length<=sizeLine):bU X CL b (.Tuple es j pos) δ (.sh (.tup ds)) δ1:=by
 have:=Mi (Zb (pos:=pos) (j:=j) h (by simpa using hl))
 rwa [T.fj,kL]at this
def dM(h:Vm X CL b es δ tl δ1)(hl:tl.length<=sizeLine):bU X CL b (.List es pos) δ (.lst tl) δ1:=fun H Z σ ts vs Q S k=>
 cE (aqA paS) (h H Z σ ts vs _ S fun us H1 Z1 hu z1 k1 S1=>⟨by rw[hu];exact hl,fun p hp=>by
   obtain⟨c,S2⟩:=S1.C6 (g0:=[]) hu hp;exact k _ _ _ z1 (k1.trans c) S2⟩)
def f6(h:bU X CL b e δ (.sh (.bl p)) δ1)(he:∀whole,isTrue e X.env whole=(do let v ← whole;standAt e.pos;holding [v] (truthy v)):=by intro _;rfl):xO X CL b e δ p δ1:=fun H Z σ ts vs Q S k=>
 J4 (ap4 cR he) (h H Z σ ts vs _ S fun v H1 Z1 z1 k1 S1=>⟨p,by have:=S1.view;rw[T.fj]at this;exact this.sc rfl,k H1 Z1 z1 k1 S1.pop⟩)
def iC(h:xO X CL b e δ p δ1):xO X CL b (.UnaryOp .Not e pos) δ (!p) δ1:=fun H Z σ ts vs Q S k=>J4 (ap7 ptS) (h H Z σ ts vs _ S fun H1 Z1 z1 k1 S1=>k H1 Z1 z1 k1 S1)
def aqX(X:Cx)(e:Expr):TT:=fun σ H Q=>∀(whole:Sem Value) (pins:BC) (s:Shared),Inv X pins σ H s->wpAny Q.d X.A (isTrue e X.env whole) (TP X pins σ Q) X.xe s
def pwS:PW X e (aqX X e):=fun whole pins s _ _ _ I h=>h whole pins s I
def TWv(X:Cx)(CL:BA)(b:Bx)(e:Expr)(δ:At)(p:Bool)(δ':At):Prop:=
 ∀(H Z:Hp) (σ:L2.St) (ts:CI) (vs:BS) (Q:Do),cu X.K CL b H Z δ σ ts vs->(∀H' Z',aM Z Z'->aM H H'->cu X.K CL b H' Z' δ' σ ts vs->Q p H')->aqX X e σ H Q
def amB{t:TT}(h:PW X e t)(q:t σ H Q):aqX X e σ H Q:=fun whole pins s I=>h whole pins s σ H Q I q
def jg(h:TWv X CL b e δ p δ1):xO X CL b e δ p δ1:=fun H Z σ ts vs Q S k pins s I=>h H Z σ ts vs Q S k _ pins s I
def nj(h:xO X CL b e δ p δ1):TWv X CL b (.BoolOp .And [e] pos) δ p δ1:=fun H Z σ ts vs Q S k=>amB (al4 ptS) (h H Z σ ts vs _ S k)
def jZ(h:xO X CL b e δ p δ1):TWv X CL b (.BoolOp .Or [e] pos) δ p δ1:=fun H Z σ ts vs Q S k=>amB (ap5 ptS) (h H Z σ ts vs _ S k)
theorem gy(h:xO X CL b e δ p δ1)(h2:p=true->TWv X CL b (.BoolOp .And (e2::es) pos) δ1 q δ1):TWv X CL b (.BoolOp .And (e::e2::es) pos) δ (p&&q) δ1:=fun H Z σ ts vs Q S k=>
 amB (ap6 ptS pwS) (h H Z σ ts vs _ S fun H1 Z1 z1 k1 S1=>by
   cases p with
   | true=>exact Y8 (h2 rfl H1 Z1 σ ts vs _ S1 fun H2 Z2 z2 k2 S2=>k H2 Z2 (z1.trans z2) (k1.trans k2) S2)
   | false=>exact Y7 (k H1 Z1 z1 k1 S1))
theorem j0(h:xO X CL b e δ p δ1)(h2:p=false->TWv X CL b (.BoolOp .Or (e2::es) pos) δ1 q δ1):TWv X CL b (.BoolOp .Or (e::e2::es) pos) δ (p || q) δ1:=fun H Z σ ts vs Q S k=>
 amB (as8 ptS pwS) (h H Z σ ts vs _ S fun H1 Z1 z1 k1 S1=>by
   cases p with
   | true=>exact Y8 (k H1 Z1 z1 k1 S1)
   | false=>exact Y7 (h2 rfl H1 Z1 σ ts vs _ S1 fun H2 Z2 z2 k2 S2=>k H2 Z2 (z1.trans z2) (k1.trans k2) S2))
def mD{op:BoolOp}(h:bU X CL b e δ t δ1):bU X CL b (.BoolOp op [e] pos) δ t δ1:=fun H Z σ ts vs Q S k=>cE (ap8 cR) (h H Z σ ts vs _ S k)
def lE(h:bU X CL b e δ (.sh (.bl p)) δ1)(h2:p=true->bU X CL b (.BoolOp .And (e2::es) pos) δ1 (.sh (.bl q)) δ1):bU X CL b (.BoolOp .And (e::e2::es) pos) δ (.sh (.bl (p&&q))) δ1:=fun H Z σ ts vs Q S k=>
 cE (ap9 cR cR) (h H Z σ ts vs _ S fun v H1 Z1 z1 k1 S1=>by
   have hv:v=.bl p:=by have:=S1.view;rw[T.fj]at this;exact this.sc rfl
   refine⟨p,hv,?_⟩;cases p with
   | true=>exact Y8 (h2 rfl H1 Z1 σ ts vs _ S1.pop fun v H2 Z2 z2 k2 S2=>k v H2 Z2 (z1.trans z2) (k1.trans k2) S2)
   | false=>exact Y7 (k _ H1 Z1 z1 k1 (S1.pop.push (.bl false))))
def aoX(h:bU X CL b e δ (.sh (.bl p)) δ1)(h2:p=false->bU X CL b (.BoolOp .Or (e2::es) pos) δ1 (.sh (.bl q)) δ1):bU X CL b (.BoolOp .Or (e::e2::es) pos) δ (.sh (.bl (p || q))) δ1:=fun H Z σ ts vs Q S k=>
 cE (atb cR cR) (h H Z σ ts vs _ S fun v H1 Z1 z1 k1 S1=>by
   have hv:v=.bl p:=by have:=S1.view;rw[T.fj]at this;exact this.sc rfl
   refine⟨p,hv,?_⟩;cases p with
   | true=>exact Y8 (k _ H1 Z1 z1 k1 (S1.pop.push (.bl true)))
   | false=>exact Y7 (h2 rfl H1 Z1 σ ts vs _ S1.pop fun v H2 Z2 z2 k2 S2=>k v H2 Z2 (z1.trans z2) (k1.trans k2) S2))
def ahI(h:bU X CL b e δ (.sh (.bl p)) δ1):bU X CL b (.UnaryOp .Not e pos) δ (.sh (.bl (!p))) δ1:=fun H Z σ ts vs Q S k=>
 cE (L2.aqa cR) (h H Z σ ts vs _ S fun v H1 Z1 z1 k1 S1=>⟨p,by have:=S1.view;rw[T.fj]at this;exact this.sc rfl,k _ H1 Z1 z1 k1 (S1.pop.push (.bl (!p)))⟩)
theorem vU(h:xO X CL b e δ p δ1)(h1:p=true->bU X CL b e1 δ1 t δ2)(h2:p=false->bU X CL b e2 δ1 t δ2):bU X CL b (.IfExp e e1 e2 pos) δ t δ2:=fun H Z σ ts vs Q S k=>
 cE (ag8 ptS cR cR) (h H Z σ ts vs _ S fun H1 Z1 z1 k1 S1=>by
   cases p with
   | true=>exact Y8 (h1 rfl H1 Z1 σ ts vs _ S1 fun v H2 Z2 z2 k2 S2=>k v H2 Z2 (z1.trans z2) (k1.trans k2) S2)
   | false=>exact Y7 (h2 rfl H1 Z1 σ ts vs _ S1 fun v H2 Z2 z2 k2 S2=>k v H2 Z2 (z1.trans z2) (k1.trans k2) S2))
variable{k:Int}
theorem Lk(r:aE K CL Z ds vs)(h:Cu ds k=some d):∃v,Cu vs k=some v/\b7 K CL Z d v:=by
 unfold Cu at h ⊢;rw[← r.length];cases e:YD ds.length k with
 | none=>rw[e]at h;cases h
 | some j=>
   rw[e]at h;exact r.get h
def ay(h1:cL X CL b e1 δ (.tup ds) δ1)(h2:cL X CL b e2 δ1 (.int k) δ2)(hk:Cu ds k=some d)(hs:uJ e2:=by exact fun _ _=>rfl):cL X CL b (.Subscript e1 e2 pos) δ d δ2:=fun H Z σ ts vs Q S kk=>
 cE (Ma ahp cR cR hs) (h1 H Z σ ts vs _ S fun v1 H1 Z1 z1 k1 S1 r1=>h2 H1 Z1 σ ts vs _ S1 fun v2 H2 Z2 z2 k2 S2 r2=>by
   have r1':=r1.mono k2;cases r1' with
   | tup hq rr=>
     obtain⟨v,hv,rv⟩:=Lk rr hk;exact⟨_,_,k,v,rfl,r2.sc rfl,hq,hv,kk v H2 Z2 (z1.trans z2) (k1.trans k2) S2 rv⟩)
def aI(h1:cL X CL b e1 δ (.lst ds) δ1)(h2:cL X CL b e2 δ1 (.int k) δ2)(hk:Cu ds k=some d)(hs:uJ e2:=by exact fun _ _=>rfl):cL X CL b (.Subscript e1 e2 pos) δ d δ2:=fun H Z σ ts vs Q S kk=>
 cE (Ma Li cR cR hs) (h1 H Z σ ts vs _ S fun v1 H1 Z1 z1 k1 S1 r1=>h2 H1 Z1 σ ts vs _ S1 fun v2 H2 Z2 z2 k2 S2 r2=>by
   have r1':=r1.mono k2;cases r1' with
   | lst hq rr=>
     obtain⟨v,hv,rv⟩:=Lk rr hk;exact⟨_,_,k,v,rfl,r2.sc rfl,hq,hv,kk v H2 Z2 (z1.trans z2) (k1.trans k2) S2 rv⟩)
variable{x:Str}
def R7{c:Nat}(h1:cL X CL b e1 δ (.str x) δ1)(h2:cL X CL b e2 δ1 (.int k) δ2)(hl:x.length<=sizeLine)(hk:Cu x.cps.toList k=some c)(hs:uJ e2:=by exact fun _ _=>rfl):bU X CL b (.Subscript e1 e2 pos) δ (.sh (.str ⟨#[c]⟩)) δ2:=fun H Z σ ts vs Q S kk=>
 cE (Ma aqG cR cR hs) (h1 H Z σ ts vs _ S fun v1 H1 Z1 z1 k1 S1 r1=>h2 H1 Z1 σ ts vs _ S1 fun v2 H2 Z2 z2 k2 S2 r2=>
   ⟨x,k,c,r1.sc rfl,r2.sc rfl,hl,hk,kk _ H2 Z2 (z1.trans z2) (k1.trans k2) (S2.push (.str _))⟩)
def C7(h1:bU X CL b e1 δ (.sh (.tup ds)) δ1)(h2:cL X CL b e2 δ1 (.int k) δ2)(hk:Cu ds k=some d)(hs:uJ e2:=by exact fun _ _=>rfl):bU X CL b (.Subscript e1 e2 pos) δ (.sh d) δ2:=fun H Z σ ts vs Q S kk=>
 cE (Ma ahp cR cR hs) (h1 H Z σ ts vs _ S fun v1 H1 Z1 z1 k1 S1=>h2 H1 Z1 σ _ _ _ S1 fun v2 H2 Z2 z2 k2 S2 r2=>by
   obtain⟨fp,gp,_,r,_,_⟩:=S2.rep;cases r with
   | cons r _=>
     cases r with
     | sh r=>
       cases r with
       | tup hq rr=>
         obtain⟨v,hv,rv⟩:=Lk rr hk;exact⟨_,_,k,v,rfl,r2.sc rfl,aM.YF S2.zh hq,hv,kk v H2 Z2 (z1.trans z2) (k1.trans k2) (S2.pop.push rv)⟩)
def ahJ(h1:bU X CL b e1 δ (.sh (.lst ds)) δ1)(h2:cL X CL b e2 δ1 (.int k) δ2)(hk:Cu ds k=some d)(hs:uJ e2:=by exact fun _ _=>rfl):bU X CL b (.Subscript e1 e2 pos) δ (.sh d) δ2:=fun H Z σ ts vs Q S kk=>
 cE (Ma Li cR cR hs) (h1 H Z σ ts vs _ S fun v1 H1 Z1 z1 k1 S1=>h2 H1 Z1 σ _ _ _ S1 fun v2 H2 Z2 z2 k2 S2 r2=>by
   obtain⟨fp,gp,_,r,_,_⟩:=S2.rep;cases r with
   | cons r _=>
     cases r with
     | sh r=>
       cases r with
       | lst hq rr=>
         obtain⟨v,hv,rv⟩:=Lk rr hk;exact⟨_,_,k,v,rfl,r2.sc rfl,S2.zh.seq hq,hv,kk v H2 Z2 (z1.trans z2) (k1.trans k2) (S2.pop.push rv)⟩)
theorem cu.za:∀{ds:Ap} {us:BS} {ts:CI} {vs:BS},aE K CL Z ds us->cu K CL b H Z δ σ ts vs->cu K CL b H Z δ σ ((ds.map T.sh).reverse++ts) (us.reverse++vs)
 | _,_,_,_,.nil,S=>S
 | _,_,ts,vs,.cons (d:=d) (v:=v) (ds:=ds) (vs:=us) r t,S=>by
   rw[aBK,aC2,aC2,aBA,aBA];exact cu.za t (S.push r)
theorem cu.drops(S:cu K CL b H Z δ σ (tl++ts) (us++vs))(hl:us.length=tl.length):cu K CL b H Z δ σ ts vs:=by
 induction tl generalizing us with
 | nil=>
   cases us with
   | nil=>exact S
   | cons _ _=>simp at hl
 | cons t tl ih=>
   cases us with
   | nil=>simp at hl
   | cons u us=>exact ih S.pop (by simpa using hl)
theorem cu.amC{ds:Ap}(S:cu K CL b H Z δ σ ((ds.map T.sh).reverse++ts) (us.reverse++vs))(hl:us.length=ds.length):aE K CL Z ds us:=by
 obtain⟨fp,gp,e,r,nd,k⟩:=S.rep;obtain⟨g1,g2,eg,r1,r2⟩:=bw.split (by simp[hl]) r;obtain⟨g',r',pm⟩:=r1.rev;exact r'.toF.1
section
variable{pp:Pos}{ds:Ap}
def Ez(hm:X.mg "len" = none)(h:cL X CL b e δ (.lst ds) δ1)(hg:Gl X "len":=by rfl)(hs:AC X e []:=by exact bP rfl)(hpl:(backTo pos (starEach ([]:CA) X.env)).any (·.1)=false:=by rfl):bU X CL b (.Call (.Name "len" pp) [e] [] pos) δ (.sh (.int ds.length)) δ1:=fun H Z σ ts vs Q S k=>
 cE (wL Ew hg hm PySem.boot_len (bW cR dQ hs) (he:=hs)) (h H Z σ ts vs _ S fun v H1 Z1 z1 k1 S1 r=>by
   cases r with
   | lst hq rr=>exact⟨_,_,rfl,.inl hq,by rw[← rr.length];exact k _ H1 Z1 z1 k1 (S1.push (.int _))⟩)
def R8(hm:X.mg "len" = none)(h:cL X CL b e δ (.tup ds) δ1)(hg:Gl X "len":=by rfl)(hs:AC X e []:=by exact bP rfl):bU X CL b (.Call (.Name "len" pp) [e] [] pos) δ (.sh (.int ds.length)) δ1:=fun H Z σ ts vs Q S k=>
 cE (wL Ew hg hm PySem.boot_len (bW cR dQ hs) (he:=hs)) (h H Z σ ts vs _ S fun v H1 Z1 z1 k1 S1 r=>by
   cases r with
   | tup hq rr=>exact⟨_,_,rfl,.inr hq,by rw[← rr.length];exact k _ H1 Z1 z1 k1 (S1.push (.int _))⟩)
def Lp(hm:X.mg "len" = none)(h:cL X CL b e δ (.str x) δ1)(hl:x.length<=sizeLine)(hg:Gl X "len":=by rfl)(hs:AC X e []:=by exact bP rfl):bU X CL b (.Call (.Name "len" pp) [e] [] pos) δ (.sh (.int x.length)) δ1:=fun H Z σ ts vs Q S k=>
 cE (wL RZ hg hm PySem.boot_len (bW cR dQ hs) (he:=hs)) (h H Z σ ts vs _ S fun v H1 Z1 z1 k1 S1 r=>⟨x,by rw[r.sc rfl],hl,k _ H1 Z1 z1 k1 (S1.push (.int _))⟩)
def fE(hm:X.mg "list" = none)(h:cL X CL b e δ (.lst ds) δ1)(hi:D.bY ds=true)(hg:Gl X "list":=by rfl)(hv:bootBuiltins "list" = some (.type "list"):=by rfl)(hs:AC X e []:=by exact bP rfl):bU X CL b (.Call (.Name "list" pp) [e] [] pos) δ (.lst (ds.map T.sh)) δ1:=fun H Z σ ts vs Q S k=>
 cE (wM R0 hg hm hv (bW cR dQ hs) (he:=hs)) (h H Z σ ts vs _ S fun v H1 Z1 z1 k1 S1 r=>by
   cases r with
   | lst hq rr=>
     refine⟨_,_,rfl,.inl hq,fun l hl=>?_⟩;obtain⟨c,S2⟩:=(cu.za (aE.kK S1.tp hi rr) S1).C6 (g0:=[]) (by simp[rr.length]) hl;exact k _ _ _ z1 (k1.trans c) S2)
def spA(K:Frag)(CL:BA){A:Type}(n:Nat)(arg:A->Ap)(Pre:A->Prop)(res:A->T):Sp:=fun vs H Q _=>
 ∃(W:Hp) (a:A),aM W H/\(∀c o,H c=some o->xN o=true->W c=some o)/\aE K CL W (arg a) vs/\(arg a).length=n/\Pre a/\zV CL W ∧
   ∀v H' W' fp,aM H H'->aM W W'->aM W' H'->(∀c o,W' c=some o->W c=none->H c=none)->(∀c o,H' c=some o->xN o=true->W' c=some o) →
     b8 K CL H' W' (res a) v fp->fp.Nodup->(∀c∈fp,W' c=none/\H c=none)->Q v H'
variable{A:Type}{k n:Nat}{f:Addr}{fd:FuncData}{ps:AT}{arg:A->Ap}{Pre:A->Prop}{res:A->T}
def amD(a:A)(F:oS X.prog X.w X.K X.mg X.base J2 k f fd ps (spA X.K CL n arg Pre res))(hr:mw k X.A)(hm:X.mg x=some (.ref f))(hk:keepIn X.K (.ref f)=true)(hb:Binds X.K fd ps [])
   (h:BAv X CL b (e::es) δ (arg a) δ1) (hn:(arg a).length=n) (hp:Pre a) (hc:(res a).clean=true) (hg:Gl X x)
   (Qd:AD x:=by decide) (he:AC X e es:=by exact bP rfl) (hpl:AL X pos es:=by rfl) :
   bU X CL b (.Call (.Name x pp) (e::es) [] pos) δ (res a) δ1:=fun H Z σ ts vs Q S kk=>
 cE (acw F hr hg hm hk hb .nil acH paS Qd he hpl) (h H Z σ ts vs _ S fun us H1 Z1 z1 k1 S1 r=>by
   rw[aBW];refine⟨H1,a,.refl _,fun _ _ q _=>q,r,hn,hp,S1.aqS,fun v H' W' fp hh ww wh nw tp rt nd own=>?_⟩;obtain⟨Z',z',S'⟩:=S1.back hh S1.zh ww wh nw tp rt nd own (.inr hc);exact kk v H' Z' (z1.trans z') (k1.trans hh) S')
def ahK(a:A)(F:oS X.prog X.w X.K X.mg X.base J2 k f fd ps (spA X.K CL n arg Pre res))(hr:mw k X.A)(hm:X.mg x=some (.ref f))(hk:keepIn X.K (.ref f)=true)(hb:Binds X.K fd ps [])
   (h:Vm X CL b (e::es) δ ((arg a).map T.sh) δ1) (hn:(arg a).length=n) (hp:Pre a) (hg:Gl X x)
   (Qd:AD x:=by decide) (he:AC X e es:=by exact bP rfl) (hpl:AL X pos es:=by rfl) :
   bU X CL b (.Call (.Name x pp) (e::es) [] pos) δ (res a) δ1:=fun H Z σ ts vs Q S kk=>
 cE (acw F hr hg hm hk hb .nil acH paS Qd he hpl) (h H Z σ ts vs _ S fun us H1 Z1 hl z1 k1 S1=>by
   rw[aBW];have hl':us.length=(arg a).length:=by rw[hl,aBp]
   have S2:=S1.drops (by simp[hl']);refine⟨Z1,a,S1.zh,S1.tp,S1.amC hl',hn,hp,S1.aqR,fun v H' W' fp hh ww wh nw tp rt nd own=>?_⟩;obtain⟨Z',z',S'⟩:=S2.back hh (.refl _) ww wh nw tp rt nd own (.inl rfl);exact kk v H' Z' (z1.trans z') (k1.trans hh) S')
variable{D D':ja}{st:Stmt}{jM atQ:Cl}
theorem Meets.to{E:Ends}(M:Meets K CL b Z ts vs D E)(h1:∀δ,D'.nx δ->D.nx δ)(h2:∀t δ,D'.rt t δ->D.rt t δ)(h3:∀δ,D'.bk δ->D.bk δ)(h4:∀δ,D'.ct δ->D.ct δ):Meets K CL b Z ts vs D' E:=
 ⟨fun _ _ _ _ s S k=>M.nx _ _ _ _ s S (h1 _ k),fun _ _ _ _ _ _ s S k=>M.rt _ _ _ _ _ _ s S (h2 _ _ k),fun _ _ _ _ s S k=>M.bk _ _ _ _ s S (h3 _ k),fun _ _ _ _ s S k=>M.ct _ _ _ _ s S (h4 _ k)⟩
def aj(h:D.nx δ):gw X CL b [] δ D:=fun H Z σ ts vs E S M=>atN al5 (M.nx δ σ H Z (.refl _) S h)
def eK(h:TSv X CL b st δ {D with nx:=fun δ1=>gw X CL b jM δ1 D}):gw X CL b (st::jM) δ D:=fun H Z σ ts vs E S M=>
 atN (ag9 psS pbS) (h H Z σ ts vs _ S ⟨fun δ' σ' H' Z' s S' k=>k H' Z' σ' ts vs E S' (M.mono s),M.rt,M.bk,M.ct⟩)
def aq0(h:bU X CL b e δ t δ1)(k:D.rt t δ1):TSv X CL b (.Return (some e) pos) δ D:=fun H Z σ ts vs E S M=>C5 (aqb cR) (h H Z σ ts vs _ S fun v H1 Z1 z1 k1 S1=>M.rt t v H1 Z1 δ1 σ z1 S1 k)
theorem atR(h:xO X CL b e δ p δ1)(h1:p=true->gw X CL b jM δ1 D)(h2:p=false->gw X CL b atQ δ1 D):TSv X CL b (.If e jM atQ pos) δ D:=fun H Z σ ts vs E S M=>
 C5 (ate ptS pbS pbS) (h H Z σ ts vs _ S fun H1 Z1 z1 k1 S1=>by
   cases p with
   | true=>exact Y8 (h1 rfl H1 Z1 σ ts vs E S1 (M.mono z1))
   | false=>exact Y7 (h2 rfl H1 Z1 σ ts vs E S1 (M.mono z1)))
def ahL(i:Nat){pos':Pos}(h:bU X CL b e δ t δ1)(k:D.nx (δ1.set i (some t)))(hl:i<δ1.length:=by decide)(hN:X.N.Nodup:=by assumption)(hi:X.N[i]? = some x:=by rfl)(hx:Loc X.env.scope x:=by first|exact .inl rfl|exact .inr rfl)
   (hs:swapsWith e (some (.Name x pos')) pos.line X.env=pure false:=by rfl) (hf:AM X x:=by first|exact .inl rfl|exact .inr rfl|assumption):TSv X CL b (.Assign [.Name x pos'] e pos) δ D:=fun H Z σ ts vs E S M=>
 C5 (aqj hN hi hx cR hs hf) (h H Z σ ts vs _ S fun v H1 Z1 z1 k1 S1=>M.nx _ _ H1 Z1 z1 (S1.set hl) k)
end
def entry(N:AT)(ds:Ap):At:=ds.map (fun d=>some (T.sh d))++List.replicate (N.length-ds.length) none
theorem xP{K:Frag}{CL:BA}{H Z:Hp}:∀{ds:Ap} {vs:BS} (n:Nat),aE K CL Z ds vs->jY K CL H Z (ds.map (fun d=>some (T.sh d))++List.replicate n none) (vs.map some++List.replicate n none) []
 | _,_,0,.nil=>.nil
 | _,_,n+1,.nil=>.skip (xP (ds:=[]) (vs:=[]) n .nil)
 | _,_,n,.cons r t=>.cons (fp:=[]) (gp:=[]) (.sh r) (xP n t)
variable{P:Program}{w:World}{f:Addr}{fd:FuncData}{ps:AT}{A:Type}
def R9{mg:B0}{base:Heap}{qual:Str}{st:Stmt}{N:AT}{k:Nat}{arg:A->Ap}{Pre:A->Prop}{res:A->T}(F:jr K x qual st f fd)(S:gF N ps (au st))
   (hb:∀(uH:Value) (Ar:Around) (outer:Da) (s:Shared) (H:Hp) (E:XK) (b:Bx) (a:A),mw k (Ar.deeper (envOfC qual (au st) s.heap.objs.size f uH))->Pre a →
     gw (Qe J2 P w K mg base N qual (au st) f uH Ar outer s H E).nox CL b (lZ st) (entry N (arg a)) {nx:=fun _=>res a=.sh .non,rt:=fun t _=>t=res a}) :
   oS P w K mg base J2 (k+1) f fd ps (spA K CL ps.length arg Pre res):=by
 refine F.ok S (fun vs H Q E h=>?_) (fun uH Ar outer s H vs Q E hr h=>?_)
 . obtain⟨W,a,_,_,r,hl,_⟩:=h;rw[← r.length];exact hl
 . obtain⟨W,a,wh,tp,r,hl,hp,tb,kk⟩:=h;refine⟨_,pbS,hb uH Ar outer s H E ⟨H,W⟩ a hr hp H W _ [] [] _ ⟨⟨[],[],?_,.nil,aD6,fun a ha=>by cases ha⟩,.refl _,.refl _,wh,fun a o q z=>?_,tp,tb⟩ ⟨fun δ' σ' H' Z' s' S' e=>?_,fun t v H' Z' δ' σ' s' S' e=>?_,fun _ _ _ _ _ _ e=>e.elim,fun _ _ _ _ _ _ e=>e.elim⟩⟩
   . unfold entry L2.start;rw[← r.length];exact xP _ r
   . have q':W a=some o:=q;have z':W a=none:=z;rw[q']at z';cases z'
   . exact kk .non H' Z' [] S'.bh S'.zz S'.zh S'.new S'.tp (by rw[show res a=.sh .non from e];exact .sh .non) aD6 fun a ha=>by cases ha
   . have e':t=res a:=e;subst e';obtain⟨fp,gp,_,r',nd,own⟩:=S'.rep;cases r' with
     | @cons _ _ _ _ f1 f2 r1 r2=>
       have h1:=(aCw.mp nd).2.1;exact kk v H' Z' f1 S'.bh S'.zz S'.zh S'.new S'.tp r1 (aCw.mp h1).1 fun a ha=>own a (aBw _ (aBN _ ha))
variable{prog:Program}{A:Around}{R:Result->Shared->Prop}{s:Shared}{elt iter:Expr}{ifs:CA}{scope:Scope}
theorem Sb{target:Expr}{it acc:Value}(I:Nat->Shared->Prop)
   (turn:∀n s,I n s->wpAny (model prog w) A (pyNext it) (fun r s₁=>match r with
     | none=>R (.ok .next) s₁
     | some v=>wpAny (model prog w) A (letOwnedTupleGo target it v) (fun _ s₁'=>wpAny (model prog w) A (assign target env v) (fun _ s₂=>
         wpAny (model prog w) A (forIn ifs true fun c r=>if r=true then do let ok ← isTrue c env (eval c env);pure (ForInStep.yield ok) else pure (ForInStep.yield r)) (fun ok s₃=>
           if ok=true then wpAny (model prog w) A (eval elt env) (fun x s₄=>
             wpAny (model prog w) A (call (.builtin "list.append") [acc,x]) (fun _ s₅=>∃m,m<n/\I m s₅) (fun _ _=>False) s₄) (fun _ _=>False) s₃
           else ∃m,m<n/\I m s₃) (fun _ _=>False) s₂) (fun _ _=>False) s₁') (fun _ _=>False) s₁) (fun _ _=>False) s)
   (n:Nat) (h:I n s) :
   codeAny (model prog w) A (.compLoop (.ListComp elt [⟨target,iter,ifs,0⟩] scope pos) 0 it acc env) R s:=by
 refine codeAny_loop rfl I (fun n s hI=>?_) n h;show wpAny _ A ((compTurn (.ListComp elt [⟨target,iter,ifs,0⟩] scope pos) 0 it acc env).onRaise (fun x=>do noteFrame x env;theTreesLotGoes x)) _ _ s;refine wpAny_noted ?_;rw[compTurn_list];refine aBY (wpAny_standAt (aBY (aC5 (turn n s hI) (fun r s₁ h₁=>?_) fun _ _ h'=>h'.elim)));cases r with
 | none=>exact aCb h₁
 | some v=>
   refine aBY (aC5 h₁ (fun _ s₁' h₁'=>?_) fun _ _ h'=>h'.elim);refine aBY (aC5 h₁' (fun _ s₂ h₂=>aBY (aC5 h₂ (fun ok s₃ h₃=>?_) fun _ _ h'=>h'.elim)) fun _ _ h'=>h'.elim);cases ok with
   | false=>exact aCb ⟨rfl,h₃⟩
   | true=>
     exact aBY (aBY (aC5 h₃ (fun x s₄ h₄=>aBY (aC5 h₄ (fun _ s₅ h₅=>aCb (aCb ⟨rfl,h₅⟩)) fun _ _ h'=>h'.elim)) fun _ _ h'=>h'.elim))
abbrev _root_.Cc:=List (Str×NameKind)
abbrev _root_.Db:=List (Str×Addr)
def nq(env:Env):Cc->Db->Db
 | [],cs=>cs
 | (n,k)::r,cs=>nq env r (if k == .free then(n,(env.cells.lookup n).getD 0)::cs else cs)
def Qh(h:∀x∈scope.names,x.2=.free->∃c,env.cells.lookup x.1=some c):closureFor scope env=pure (nq env scope.names []):=by
 have go:∀(l:Cc) (cs:Db),(∀x∈l,x.2=.free->∃c,env.cells.lookup x.1=some c) →
     (forIn l cs fun x r=>match x with|(name,kind)=>if (kind==NameKind.free)=true then do let a ← cellOf env name;pure (ForInStep.yield ((name,a)::r)) else pure (ForInStep.yield r):Sem Db)=pure (nq env l cs):=by
   intro l
   induction l with
   | nil=>intro cs _;rfl
   | cons x r ih=>
     intro cs hx;obtain⟨n,k⟩:=x;rw[List.forIn_cons];by_cases hk:k=.free
     . subst hk;obtain⟨c,hc⟩:=hx (n,.free) aBr rfl;have e:cellOf env n=pure c:=by unfold cellOf;rw[hc]
       simp only[aDe,aDQ,e,pure_bind];rw[ih _ fun y hy=>hx y (aBt _ hy)];simp only[nq,aDe,aDQ];rw[hc];rfl
     . have hb:(k==NameKind.free)=false:=by simpa using hk
       simp only[hb,Bool.false_eq_true,if_false,pure_bind];rw[ih _ fun y hy=>hx y (aBt _ hy)];simp only[nq,hb,Bool.false_eq_true,if_false]
 unfold closureFor;have:=go scope.names [] h;simp only[bind_pure]at this ⊢;exact this
theorem C8{env:Env}:∀{l:Cc} {cs:Db} {y:Str} {c:Addr},(∀x∈l,x.2=.free->∃c,env.cells.lookup x.1=some c)->(∀y c,cs.lookup y=some c->env.cells.lookup y=some c) →
   (nq env l cs).lookup y=some c->env.cells.lookup y=some c
 | [],cs,y,c,_,h,e=>h y c e
 | (n,k)::r,cs,y,c,hx,h,e=>by
   refine C8 (l:=r) (fun z hz=>hx z (aBt _ hz)) (fun z d hz=>?_) e;by_cases hk:k=.free
   . subst hk;obtain⟨c',hc⟩:=hx (n,.free) aBr rfl;simp only[aDe,aDQ,hc,Option.getD_some,aCd]at hz;by_cases hzn:(z==n)=true
     . rw[hzn]at hz;have:z=n:=by simpa using hzn
       subst this;cases hz;exact hc
     . have:(z==n)=false:=by simpa using hzn
       rw[this]at hz;exact h z d hz
   . have hb:(k==NameKind.free)=false:=by simpa using hk
     rw[hb]at hz;exact h z d hz
theorem Jf{env:Env}{y:Str}:∀{l:Cc} {cs:Db},(∃c,cs.lookup y=some c)->∃c,(nq env l cs).lookup y=some c
 | [],cs,h=>h
 | (n,k)::r,cs,h=>by
   refine Jf (l:=r) ?_;by_cases hk:(k==NameKind.free)=true
   . rw[aBE hk,aCd];by_cases hy:(y==n)=true
     . rw[hy];exact⟨_,rfl⟩
     . have:(y==n)=false:=by simpa using hy
       rw[this];exact h
   . rw[aBx hk];exact h
theorem C9{env:Env}{y:Str}:∀{l:Cc} {cs:Db},l.lookup y=some .free->∃c,(nq env l cs).lookup y=some c
 | [],_,h=>by simp at h
 | (n,k)::r,cs,h=>by
   rw[aCd]at h;by_cases hy:(y==n)=true
   . rw[hy]at h;cases h;refine Jf (l:=r) ?_;rw[aBE (by rfl),aCd,hy];exact⟨_,rfl⟩
   . have:(y==n)=false:=by simpa using hy
     rw[this]at h;exact C9 (l:=r) h
def dB(X:Cx)(scope:Scope)(Nc:AT)(C:Addr)(s:Shared)(H:Hp)(fp:BT):Cx where
 prog:=X.prog
 w:=X.w
 K:=X.K
 mg:=X.mg
 base:=X.base
 A:=X.A
 N:=Nc
 s₀:=s
 H₀:=H
 env:=compEnvC scope (nq X.env scope.names []) C X.env
 outer:=X.stack
 stack:=X.stack
 ex:=fp
 fn:=fun _=>false
 calm:=X.calm
 pn:=[]
 xe:=fun _ _=>False
abbrev _root_.CU:=List Nat
structure wQ(X:Cx)(scope:Scope)(x:Str)(Nc:AT)(ix:CU):Prop where
 kind:scope.kind=.function
 Sd:∀y∈scope.names,y.2 ≠ .cell
 nd:Nc.Nodup
 names:∀y∈scope.names,y.2=.local->scope.names.lookup y.1=some .local
 own:scope.names.lookup x=some .local
 frees:∀y∈scope.names,y.2=.free->scope.names.lookup y.1=some .free/\(X.env.kindOf y.1=some .cell\/X.env.kindOf y.1=some .free)
 hd:Nc=x::ix.filterMap (X.N[·]?)
 ixs:∀i∈ix,∃y,X.N[i]? = some y/\scope.names.lookup y=some .free
theorem j3{env:Env}:∀{names:Cc} {x:Str} {k:NameKind},names.lookup x=some k ->
   (names.map fun(n,k)=>if (k==NameKind.free&&env.scope.kind == .function&&env.kindOf n==some .cell) then(n,NameKind.cell) else(n,k)).lookup x=some (if (k==NameKind.free&&env.scope.kind == .function&&env.kindOf x==some .cell) then .cell else k)
 | [],_,_,h=>by simp at h
 | (n,k')::r,x,k,h=>by
   have ih:=@j3 env r x k;show List.lookup x ((if (k'==NameKind.free&&env.scope.kind == .function&&env.kindOf n==some .cell)=true then(n,NameKind.cell) else(n,k'))::_)=_;cases hx:x==n with
   | true=>
     simp only[aCd,hx]at h;cases h;have e:x=n:=by simpa using hx
     subst e;split<;>simp[aCd]
   | false=>
     simp only[aCd,hx]at h;split
     . simp only[aCd,hx];exact ih h
     . simp only[aCd,hx];exact ih h
theorem rH{env:Env}:∀{names:Cc} {x:Str},names.lookup x=none ->
   (names.map fun(n,k)=>if (k==NameKind.free&&env.scope.kind == .function&&env.kindOf n==some .cell) then(n,NameKind.cell) else(n,k)).lookup x=none
 | [],_,_=>rfl
 | (n,k')::r,x,h=>by
   have ih:=@rH env r x;show List.lookup x ((if (k'==NameKind.free&&env.scope.kind == .function&&env.kindOf n==some .cell)=true then(n,NameKind.cell) else(n,k'))::_)=_;cases hx:x==n with
   | true=>simp only[aCd,hx]at h;cases h
   | false=>
     simp only[aCd,hx]at h;split
     . simp only[aCd,hx];exact ih h
     . simp only[aCd,hx];exact ih h
variable{Nc:AT}{pins:BC}
def aew{acn:BC}{σ':L2.St}{s':Shared}{h'':Heap}(I:Q.e)(BG:∀b∈fp,JY X pins H b)
   (J:Inv (dB X scope Nc s.heap.objs.size s H fp) acn σ' H' s') (hs:Heap.SameBut s.heap.objs.size s'.heap h''):Inv X pins σ H' {s' with heap:=h''}:=by
 have un:Un (frs X.stack) fp H H' s.heap s'.heap:=J.base;have un2:Un (frs X.stack) fp H H' s.heap h'':=by
   have ne:∀b o,s.heap.get? b=some o->b≠s.heap.objs.size:=fun b o e=>aCq (aB1 e);refine⟨fun b o e n hb hx=>(hs.2 b (ne b o e)).trans (un.keep b o e n hb hx),fun b o e n hb hx=>?_,un.free,fun b o e hx=>?_,un.RK,un.ni,un.RL⟩
   . obtain⟨sl,q⟩:=un.slot b o e n hb hx;exact⟨sl,(hs.2 b (ne b o e)).trans q⟩
   . obtain⟨o',q⟩:=un.there b o e hx;exact⟨o',(hs.2 b (ne b o e)).trans q⟩
 have nC:H' s.heap.objs.size=none:=J.free;have dI:En X.prog X.w H' h'':=fun b u e=>by
   refine(J.dI b u e).RJ (fun c v hc q=>(hs.2 c ?_).trans q) (fun _ q=>q) fun _ _ q=>q;rintro rfl;rcases hc with z|z
   . subst z;rw[nC]at e;cases e
   . rw[nC]at z;cases z
 obtain⟨hh,g,d,t,os'⟩:=s';obtain rfl:os'=s.os:=J.os;show L2.Inv X pins σ H' {s with heap:=h'',gens:=g,drawn:=d,toks:=t};exact I.call (h':=h'') (g':=g) (d':=d) (t':=t) (ch:=fp) un2 dI J.bare fun b hb=>⟨(BG b hb).2.2.2.1,(BG b hb).2.1,(BG b hb).2.2.2.2.1,(BG b hb).2.2.2.2.2⟩
def aq1(X:Cx):CA->TT
 | []=>fun _ H Q=>Q true H
 | [c]=>amv X c
 | _=>fun _ _ _=>False
def ahM(I:Q.e)(h:aq1 X ifs σ H Q)(hx:X.xe=fun _ _=>False) :
   wpAny Q.d X.A (forIn ifs true fun c r=>if r=true then do let ok ← isTrue c X.env (eval c X.env);pure (ForInStep.yield ok) else pure (ForInStep.yield r)) (TP X pins σ Q) (fun _ _=>False) s:=by
 match ifs,h with
 | [],h=>exact wpAny_tests_nil ⟨H,I,h⟩
 | [c],h=>
   have:=h pins s I;rw[hx]at this;exact wpAny_tests_one this
def TIv(X:Cx)(CL:BA)(b:Bx)(ifs:CA)(δ:At)(p:Bool):Prop:=
 match ifs with
 | []=>p=true
 | [c]=>xO X CL b c δ p δ
 | _=>False
theorem TIv.sem(h:TIv X CL b ifs δ p)(S:cu X.K CL b H Z δ σ [] [])
   (k:∀H' Z',aM Z Z'->aM H H'->cu X.K CL b H' Z' δ σ [] []->Q p H'):aq1 X ifs σ H Q:=by
 match ifs,h with
 | [],h=>
   have e:p=true:=h;subst e;exact k H Z (.refl _) (.refl _) S
 | [c],h=>exact(show xO X CL b c δ p δ from h) H Z σ [] [] Q S k
def jA:(T.lst ts).clean=T.fZ ts:=by rw[T.clean]
theorem Mj{g:D->T}:∀{ds:Ap},(∀d∈ds,(g d).clean=true)->T.fZ (ds.map g)=true
 | [],_=>by rw[aDY,T.fZ]
 | d::ds,h=>by
   rw[aBK,T.fZ,h d aBr,Mj fun e he=>h e (aBt _ he)];rfl
theorem bw.at:∀{tl:CI} {us:BS} {fp:BT} {j:Nat} {t:T},bw K CL H Z tl us fp->tl[j]? = some t->∃v f1 f2 f3,us[j]? = some v/\fp=f1++(f2++f3)/\b8 K CL H Z t v f2 ∧
   ∀{H':Hp} {t':T} {v':V} {g:BT},(∀a∈f1++f3,H' a=H a)->b8 K CL H' Z t' v' g->bw K CL H' Z (tl.set j t') (us.set j v') (f1++(g++f3))
 | _,_,_,_,_,.nil,e=>by simp at e
 | _,_,_,0,_,.cons (fp:=fp) (gp:=gp) r q,e=>by
   simp at e;subst e;exact⟨_,[],fp,gp,rfl,rfl,r,fun {H' t' v' g} k r'=>bw.cons (fp:=g) (gp:=gp) r' (bw.mono (fp:=gp) (.refl _) (fun a ha=>k a (by simpa using ha)) q)⟩
 | _,_,_,j+1,t,.cons (fp:=fp) (gp:=gp) r q,e=>by
   obtain⟨v,f1,f2,f3,h1,h2,h3,h4⟩:=bw.at (j:=j) (t:=t) q (by simpa using e);refine⟨v,fp++f1,f2,f3,by simpa using h1,by rw[h2,List.append_assoc],h3,fun k r'=>?_⟩;rw[aBA];exact .cons (r.mono (.refl _) fun a ha=>k a (by simp[ha])) (h4 (fun a ha=>k a (by rw[aBA];exact aBw _ ha)) r')
variable{α:Type}
def lG{l:List α}{x:α}(h:l[i]? = some x):l.set i x=l:=by
 apply aCP;intro j;rw[aEc];split
 . rename_i e;subst e;split
   . exact h.symm
   . rename_i h2;rw[aCs Q.a]
 . rfl
theorem cu.write{f1 f2 f3 g gp gp':BT}(S:cu K CL b H Z δ σ ts vs)(nd:((f1++(f2++f3))++gp).Nodup)(own:∀c∈(f1++(f2++f3))++gp,Z c=none/\b.B c=none)(ha:a∈f2)
   (hH:∃o,H a=some o) (e':jY K CL (upd H a (.lst xs)) Z δ2 σ (f1++(g++f3))) (r':bw K CL (upd H a (.lst xs)) Z tl us gp') (pm:((f1++(g++f3))++gp').Nodup) (sub:∀c∈(f1++(g++f3))++gp',c∈(f1++(f2++f3))++gp) :
   cu K CL b (upd H a (.lst xs)) Z δ2 σ tl us:=by
 have oa:=own a (by simp[ha]);refine⟨⟨_,_,e',r',pm,fun c hc=>own c (sub c hc)⟩,fun c o q=>?_,S.zz,fun c o q=>?_,S.new,fun c o q i=>?_,S.tab⟩
 . rw[aA (cy q oa.2)];exact S.bh c o q
 . rw[aA (cy q oa.1)];exact S.zh c o q
 . by_cases hc:c=a
   . subst hc;rw[bA]at q;cases q;cases i
   . rw[aA hc]at q;exact S.tp c o q i
theorem cu.append(S:cu K CL b H Z δ σ (t::ts) (v::vs))(hi:δ[i]? = some (some (.lst tl))) :
   ∃a us,σ[i]? = some (some (.ref a))/\H a=some (.lst us)/\us.length=tl.length/\cu K CL b (upd H a (.lst (us++[v]))) Z (δ.set i (some (.lst (tl++[t])))) σ ts vs:=by
 obtain⟨fp,gp,e,r,nd,k⟩:=S.rep;obtain⟨v0,f1,f2,f3,hv,BG,rt,put,_⟩:=e.get hi;subst BG;cases rt with
 | @lst a us _ g ha rs=>
   cases r with
   | @cons _ _ _ _ ft gr q1 q2=>
     have ne:∀c∈(f1++(g++f3))++(ft++gr),c≠a:=fun c hc e=>by
       subst e;have hp:((f1++((c::g)++f3))++(ft++gr)).Perm (c::((f1++(g++f3))++(ft++gr))):=by
         rw[aB3,← aB3];exact(aCN.append_right _)
       exact(aCu.mp (hp.nodup_iff.mp nd)).1 hc
     refine⟨a,us,hv,ha,rs.length.symm,?_⟩;have r1:b8 K CL (upd H a (.lst (us++[v]))) Z (.lst (tl++[t])) (.ref a) (a::(g++(ft++[]))):=
       .lst bA (bw.app (rs.mono (.refl _) fun c hc=>aA (ne c (by simp[hc]))) (.cons (q1.mono (.refl _) fun c hc=>aA (ne c (by simp[hc]))) .nil))
     have e2:=put (H':=upd H a (.lst (us++[v]))) (.refl _) (fun c hc=>aA (ne c (by
       rcases aBy.mp hc with h|h
       . simp[h]
       . simp[h]))) r1
     rw[lG hv]at e2;have hp:((f1++((a::(g++(ft++[])))++f3))++gr).Perm ((f1++((a::g)++f3))++(ft++gr)):=by
       simp only[aBW,aB3,aBA];refine aCi f1 (List.Perm.cons a (aCi g ?_));rw[← aBA,← aBA];exact aCr.append_right gr
     exact S.write nd k (aBr) ⟨_,ha⟩ e2 (q2.mono (.refl _) fun c hc=>aA (ne c (by simp[hc]))) (hp.nodup_iff.mpr nd) fun c hc=>hp.mem_iff.mp hc
theorem cu.setAt(S:cu K CL b H Z δ σ (t::ts) (v::vs))(hi:δ[i]? = some (some (.lst tl)))(hj:j<tl.length) :
   ∃a us,σ[i]? = some (some (.ref a))/\H a=some (.lst us)/\us.length=tl.length/\cu K CL b (upd H a (.lst (us.set j v))) Z (δ.set i (some (.lst (tl.set j t)))) σ ts vs:=by
 obtain⟨fp,gp,e,r,nd,k⟩:=S.rep;obtain⟨v0,f1,f2,f3,hv,BG,rt,put,_⟩:=e.get hi;subst BG;cases rt with
 | @lst a us _ g ha rs=>
   cases r with
   | @cons _ _ _ _ ft gr q1 q2=>
     have ne:∀c∈(f1++(g++f3))++(ft++gr),c≠a:=fun c hc e=>by
       subst e;have hp:((f1++((c::g)++f3))++(ft++gr)).Perm (c::((f1++(g++f3))++(ft++gr))):=by
         rw[aB3,← aB3];exact(aCN.append_right _)
       exact(aCu.mp (hp.nodup_iff.mp nd)).1 hc
     refine⟨a,us,hv,ha,rs.length.symm,?_⟩;obtain⟨vj,g1,g2,g3,_,hg,_,set⟩:=rs.at (aBC hj);subst hg;have r1:b8 K CL (upd H a (.lst (us.set j v))) Z (.lst (tl.set j t)) (.ref a) (a::(g1++(ft++g3))):=
       .lst bA (set (fun c hc=>aA (ne c (by
         rcases aBy.mp hc with h|h
         . simp[h]
         . simp[h]))) (q1.mono (.refl _) fun c hc=>aA (ne c (by simp[hc]))))
     have e2:=put (H':=upd H a (.lst (us.set j v))) (.refl _) (fun c hc=>aA (ne c (by
       rcases aBy.mp hc with h|h
       . simp[h]
       . simp[h]))) r1
     rw[lG hv]at e2;have hp:((f1++((a::(g1++(ft++g3)))++f3))++gr).Perm ((f1++((a::(g1++g3))++f3))++(ft++gr)):=by
       simp only[aB3,aBA];refine aCi f1 (List.Perm.cons a (aCi g1 ?_));have:=(aCr (l₁:=ft) (l₂:=g3++f3)).append_right gr;simp only[aBA]at this;exact this
     have sb:((f1++((a::(g1++g3))++f3))++(ft++gr)).Sublist ((f1++((a::(g1++(g2++g3)))++f3))++(ft++gr)):=by
       refine aCo (aCo (aCm _) (aCo (List.Sublist.cons₂ a ?_) (aCm _))) (aCm _);exact aCo (aCm _) (aCW _ _)
     exact S.write nd k (aBr) ⟨_,ha⟩ e2 (q2.mono (.refl _) fun c hc=>aA (ne c (by simp[hc]))) (hp.nodup_iff.mpr (nd.sublist sb)) fun c hc=>sb.subset (hp.mem_iff.mp hc)
section
variable{tl0:CI}{D:ja}{pp pa pb:Pos}
def aq2(i:Nat)(h0:δ[i]? = some (some (.lst tl0)))(h:bU X CL b e δ t δ1)(h1:δ1[i]? = some (some (.lst tl)))(hl:tl.length<sizeLine)(k:D.nx (δ1.set i (some (.lst (tl++[t])))))
   (hi:X.N[i]? = some x:=by rfl) (hv:Vis X.env.scope x:=by first|exact Or.inl rfl|exact Or.inr (Or.inl rfl)|exact Or.inr (Or.inr rfl)) (hd:AD x:=by decide) (uG:AE x:=by decide)
   (fY:attributeBase (.Name x pp) "append" X.env (eval (.Name x pp) X.env)=eval (.Name x pp) X.env:=by rfl)
   (oX:AB X pb e:=by rfl)
   (hline:(pa.endLine==pb.line)=true:=by rfl) (hs:AC X e []:=by exact bP rfl) (Se:swapsWith (.Call (.Attribute (.Name x pp) "append" pa) [e] [] pb) none pos.line X.env=pure false:=by rfl) :
   TSv X CL b (.Expr (.Call (.Attribute (.Name x pp) "append" pa) [e] [] pb) pos) δ D:=fun H Z σ ts vs E S M=>
 C5 (Ep (Cw aDc aD0 aD1 BF (qI hi hv hd uG) (bW cR dQ hs) fY oX hline hs rfl) Se) (by
   obtain⟨v0,e0,r0⟩:=S.look h0;refine⟨v0,e0,?_,?_⟩
   . rw[T.fj]at r0;cases r0 with
     | lst hq _=>exact .inl ⟨rfl,_,hq⟩
   . refine h H Z σ ts vs _ S fun v H1 Z1 z1 k1 S1=>?_;obtain⟨a,us,ea,ha,hu,S2⟩:=S1.append h1;rw[e0]at ea;cases ea;exact⟨a,us,v,rfl,rfl,ha,by rw[hu];exact hl,M.nx _ σ _ Z1 z1 S2 k⟩)
end
def atW:Option (Option T)->Option T
 | some (some t)=>some (.sh t.fj)
 | _=>none
def shO:Option (Option T)->Option T
 | some (some (T.sh d))=>some (.sh d)
 | _=>none
def Vp(δ:At)(ix:CU):At:=ix.map fun i=>atW δ[i]?
def Vq(δ:At)(ix:CU):At:=ix.map fun i=>shO δ[i]?
theorem Vr(S:cu K CL b H Z δ σ ts vs):∀(ix:CU) (H':Hp),jY K CL H' H (Vp δ ix) (ix.map fun i=>(σ[i]?).getD none) []
 | [],_=>.nil
 | i::r,H'=>by
   have ih:=Vr S r H';show jY K CL H' H (atW δ[i]?::Vp δ r) (((σ[i]?).getD none)::r.map fun i=>(σ[i]?).getD none) [];cases e:δ[i]? with
   | none=>exact .skip ih
   | some o=>
     cases o with
     | none=>exact .skip ih
     | some t=>
       obtain⟨v,hv,rv⟩:=S.look e;rw[hv];exact .cons (fp:=[]) (gp:=[]) (.sh rv) ih
theorem Vs(S:cu K CL b H Z δ σ ts vs):∀(ix:CU) (H':Hp),jY K CL H' Z (Vq δ ix) (ix.map fun i=>(σ[i]?).getD none) []
 | [],_=>.nil
 | i::r,H'=>by
   have ih:=Vs S r H';show jY K CL H' Z (shO δ[i]?::Vq δ r) (((σ[i]?).getD none)::r.map fun i=>(σ[i]?).getD none) [];cases e:δ[i]? with
   | none=>exact .skip ih
   | some o=>
     cases o with
     | none=>exact .skip ih
     | some t=>
       cases t with
       | sh d=>
         obtain⟨v,hv,rv⟩:=S.ahF e;rw[hv];exact .cons (fp:=[]) (gp:=[]) (.sh rv) ih
       | tup _=>exact .skip ih
       | lst _=>exact .skip ih
       | ins _ _=>exact .skip ih
       | mz _=>exact .skip ih
       | dct _=>exact .skip ih
       | pin _ _=>exact .skip ih
       | Lj _ _ _=>exact .skip ih
section
variable{ds:Ap}
structure Comes(X:Cx)(CL:BA)(b:Bx)(δ1:At)(σ:L2.St)(ts:CI)(vs:BS)(Z H:Hp)(ds:Ap)(J:It)(H1:Hp):Prop where
 ex:∃Z1 us,aM Z Z1/\aM H H1/\cu X.K CL b H1 Z1 δ1 σ ts vs/\aE X.K CL Z1 ds us/\(∀i H2,aM Z1 H2->i<ds.length->J.go i H2) ∧
   (∀i H2 x H',aM Z1 H2->i<ds.length->J.yld i H2 x H'->H'=H2/\us[i]? = some x)/\(∀H2,aM Z1 H2->J.stop ds.length H2)
def TIt(X:Cx)(CL:BA)(b:Bx)(tg e:Expr)(δ:At)(ds:Ap)(δ1:At):Prop:=
 ∃wi,PI X tg e wi/\∀(H Z:Hp) (σ:L2.St) (ts:CI) (vs:BS) (R:It->Hp->Prop),cu X.K CL b H Z δ σ ts vs->(∀J H1,Comes X CL b δ1 σ ts vs Z H ds J H1->R J H1)->wi σ H R
theorem cY{tg:Expr}(h:bU X CL b iter δ (.sh (.lst ds)) δ1):TIt X CL b tg iter δ ds δ1:=by
 refine⟨_,al7 cR,fun H Z σ ts vs R S k=>h H Z σ ts vs _ S fun v H1 Z1 z1 k1 S1=>?_⟩;obtain⟨fp,gp,_,r,_,_⟩:=S1.rep;cases r with
 | cons r _=>
   cases r with
   | sh r=>
     cases r with
     | @lst a us _ hq rr=>
       refine⟨a,rfl,⟨us,S1.zh.seq hq⟩,k _ _ ⟨Z1,us,z1,k1,S1.pop,rr,fun i H2 s hi=>?_,fun i H2 y H' s hi hy=>⟨hy.1,hy.2 us (s.seq hq)⟩,fun H2 s=>⟨us,s.seq hq,by rw[rr.length];exact aBD _⟩⟩⟩;have hi':i<us.length:=by rw[← rr.length];exact hi
       exact⟨us,us[i],s.seq hq,by simp[hi']⟩
theorem GJ{tg:Expr}(h:bU X CL b iter δ (.sh (.tup ds)) δ1):TIt X CL b tg iter δ ds δ1:=by
 refine⟨_,aqn cR,fun H Z σ ts vs R S k=>h H Z σ ts vs _ S fun v H1 Z1 z1 k1 S1=>?_⟩;obtain⟨fp,gp,_,r,_,_⟩:=S1.rep;cases r with
 | cons r _=>
   cases r with
   | sh r=>
     cases r with
     | @tup a us _ hq rr=>
       refine⟨a,rfl,⟨us,aM.YF S1.zh hq⟩,k _ _ ⟨Z1,us,z1,k1,S1.pop,rr,fun i H2 s hi=>?_,fun i H2 y H' s hi hy=>⟨hy.1,hy.2 us (aM.YF s hq)⟩,fun H2 s=>⟨us,aM.YF s hq,by rw[rr.length];exact aBD _⟩⟩⟩;have hi':i<us.length:=by rw[← rr.length];exact hi
       exact⟨us,us[i],aM.YF s hq,by simp[hi']⟩
def gH(lo:Int)(n:Nat):Ap:=(List.range n).map fun(i:Nat)=>D.int (lo+i)
def Vt(lo:Int)(n:Nat):aE K CL Z (gH lo n) ((List.range n).map fun(i:Nat)=>V.int (lo+i)):=by
 unfold gH;generalize List.range n=l
 induction l with
 | nil=>exact .nil
 | cons i r ih=>exact .cons (.int _) ih
def tD{tg:Expr}{pr pc:Pos}{n:Int}(hm:X.mg "range" = none)(h:cL X CL b iter δ (.int n) δ1)(hn:-(2 ^ 62)<=n/\n<2 ^ 62)(hg:Gl X "range")(YM:starEach [iter] X.env=[(false,eval iter X.env)]:=by rfl)(ahO:AC X iter []:=by exact bP rfl) :
   TIt X CL b tg (.Call (.Name "range" pr) [iter] [] pc) δ (gH 0 n.toNat) δ1:=by
 refine⟨_,aec hg hm (bW cR dQ ahO) YM,fun H Z σ ts vs R S k=>h H Z σ ts vs _ S fun v H1 Z1 z1 k1 S1 r=>⟨n,by rw[r.sc rfl],hn.1,hn.2,k _ _ ⟨Z1,_,z1,k1,S1,Vt 0 n.toNat,fun i H2 s hi=>?_,fun i H2 y H' s hi hy=>?_,fun H2 s=>?_⟩⟩⟩
 . show i<n.toNat;have:(gH 0 n.toNat).length=n.toNat:=by simp[gH]
   omega
 . have hi':i<n.toNat:=by simpa [gH] using hi
   refine⟨hy.1,?_⟩;rw[aBR,aB9 hi',hy.2];rfl
 . show n.toNat<=(gH 0 n.toNat).length;simp[gH]
def aex{tg:Expr}{pr pc:Pos}{m n:Int}(hm:X.mg "range" = none)(h1:cL X CL b e1 δ (.int m) δ1)(h2:cL X CL b e2 δ1 (.int n) δ2)(hn:-(2 ^ 62)<=m/\m<2 ^ 62 /\ -(2 ^ 62)<=n/\n<2 ^ 62)(hg:Gl X "range")
   (YM:AR X e1 e2:=by rfl) (ahO:starEach [e2] X.env=[(false,eval e2 X.env)]:=by rfl) (awY:starEach [e1,e2] X.env=(false,eval e1 X.env)::starEach [e2] X.env:=by rfl) (awZ:AC X e2 []:=by rfl) :
   TIt X CL b tg (.Call (.Name "range" pr) [e1,e2] [] pc) δ (gH m (n-m).toNat) δ2:=by
 refine⟨_,aed hg hm (bW cR (bW cR dQ awZ) awY) YM ahO,fun H Z σ ts vs R S k=>h1 H Z σ ts vs _ S fun v H1 Z1 z1 k1 S1 r=>h2 H1 Z1 σ ts vs _ S1 fun v2 H2 Z2 z2 k2 S2 r2=>⟨m,n,by rw[r.sc rfl,r2.sc rfl],hn,k _ _ ⟨Z2,_,z1.trans z2,k1.trans k2,S2,Vt m (n-m).toNat,fun i H2 s hi=>?_,fun i H2 y H' s hi hy=>?_,fun H2 s=>?_⟩⟩⟩
 . show i<(n-m).toNat;have:(gH m (n-m).toNat).length=(n-m).toNat:=by simp[gH]
   omega
 . have hi':i<(n-m).toNat:=by simpa [gH] using hi
   refine⟨hy.1,?_⟩;rw[aBR,aB9 hi',hy.2];rfl
 . show(n-m).toNat<=(gH m (n-m).toNat).length;simp[gH]
def aq3{D:ja}{jM:Cl}(i:Nat){pos':Pos}(P:Nat->At->Prop)(h:TIt X CL b (.Name x pos') iter δ ds δ1)(h0:P 0 δ1)(hl:∀j δ,P j δ->i<δ.length)
   (hs:∀j d δ,ds[j]? = some d->P j δ->gw X CL b jM (δ.set i (some (.sh d))) {nx:=P (j+1),rt:=D.rt,bk:=D.nx,ct:=P (j+1)}) (hd:∀δ,P ds.length δ->D.nx δ)
   (hp:PassesOwn Q.d X.A X.env X.xe) (hc:X.calm=true) (hN:X.N.Nodup) (hi:X.N[i]? = some x) (hx:Loc X.env.scope x) (hf:AM X x) (hq:AN X iter:=by intro _;rfl) :
   TSv X CL b (.For (.Name x pos') iter jM [] pos) δ D:=fun H Z σ ts vs E S M=>by
 obtain⟨wi,pi,hw⟩:=h;refine C5 (ahb hp hc pi (Er hN hi hx hf) pbS hq) (hw H Z σ ts vs _ S fun J H1 zz=>?_);obtain⟨Z1,us,z1,k1,S1,rr,go,yl,st⟩:=zz;refine⟨fun j m σ H2=>m=ds.length-j/\j<=ds.length/\∃Z2 δ2,aM Z1 Z2/\cu X.K CL b H2 Z2 δ2 σ ts vs/\P j δ2,⟨_,rfl,aB0 _,Z1,δ1,.refl _,S1,h0⟩,?_⟩;rintro j m σ H2 ⟨rfl,hj,Z2,δ2,s,S2,p2⟩;by_cases U1:j<ds.length
 . refine .inr ⟨go j H2 (s.trans S2.zh) U1,fun σ' H'=>∃Z2 δ2,aM Z1 Z2/\cu X.K CL b H' Z2 δ2 σ' ts vs/\P (j+1) δ2,fun σ' H' h=>⟨ds.length-(j+1),We,rfl,U1,h⟩,fun y H' hy=>?_⟩;obtain⟨e,hu⟩:=yl j H2 y H' (s.trans S2.zh) U1 hy;subst e;obtain⟨d,hd',rd⟩:=rr.aeu hu;have S3:=(S2.push (rd.mono s)).set (hl j δ2 p2);exact hs j d δ2 hd' p2 _ Z2 _ ts vs _ S3 ⟨fun δ' σ' H' Z' s' S' k=>⟨Z',δ',s.trans s',S',k⟩,fun t v H' Z' δ' σ' s' S' k=>M.rt t v H' Z' δ' σ' (z1.trans (s.trans s')) S' k,fun δ' σ' H' Z' s' S' k=>M.nx δ' σ' H' Z' (z1.trans (s.trans s')) S' k,fun δ' σ' H' Z' s' S' k=>⟨Z',δ',s.trans s',S',k⟩⟩
 . have e:j=ds.length:=by omega
   subst e;exact .inl ⟨st H2 (s.trans S2.zh),M.nx δ2 σ H2 Z2 (z1.trans s) S2 (hd δ2 p2)⟩
def Block(X:Cx)(CL:BA)(scope:Scope)(Nc:AT)(ifs:CA)(elt:Expr)(δc:At)(ds:Ap)(p:D->Bool)(g:D->T):Prop:=
 ∀C s0 H0 f0 b' d,d∈ds->TIv (dB X scope Nc C s0 H0 f0) CL b' ifs (some (.sh d)::δc) (p d)/\(p d=true->bU (dB X scope Nc C s0 H0 f0) CL b' elt (some (.sh d)::δc) (g d) (some (.sh d)::δc))
variable{δc:At}{p:D->Bool}{g:D->T}
end
def isD:L3.D->String->Option Bool
 | .non,n=>if n="int" \/ n="str" \/ n="list" \/ n="tuple" \/ n="bool" \/ n="dict" then some false else none
 | .bl _,n=>if n="int" \/ n="bool" then some true else if n="str" \/ n="list" \/ n="tuple" \/ n="dict" then some false else none
 | .int _,n=>if n="int" then some true else if n="str" \/ n="list" \/ n="tuple" \/ n="bool" \/ n="dict" then some false else none
 | .str _, n => if n = "str" then some true else if n = "int" \/ n = "list" \/ n = "tuple" \/ n = "bool" \/ n = "dict" then some false else none
 | .lst _,n=>if n="list" then some true else if n="int" \/ n="str" \/ n="tuple" \/ n="bool" \/ n="dict" then some false else none
 | .tup _,n=>if n="tuple" then some true else if n="int" \/ n="str" \/ n="list" \/ n="bool" \/ n="dict" then some false else none
 | _,_=>none
def aq4(t n:String):Option Bool:=if (Value.type t==Value.type n)=true then some true else if PySem.W.kitMeta n=true then(fastBuiltinMro t).map (·.contains (.type n)) else none
def wR{t n:String}:PySem.W.kitOne K (.type t) (.type n)=aq4 t n:=rfl
def ahP:(["NoneType","bool","int","str","list","tuple"].all fun t=>["int","str","list","tuple","bool","dict"].all fun n=>aq4 t n==some (t==n || (t=="bool" && n=="int")))=true:=Q.f
def BH{t n:String}(ht:t∈["NoneType","bool","int","str","list","tuple"])(hn:n∈["int","str","list","tuple","bool","dict"]):aq4 t n=some (t==n || (t=="bool" && n=="int")):=by
 have:=ahP;rw[aCO]at this;have h:=this t ht;rw[aCO]at h;simpa using h n hn
def tyD:L3.D->Option String
 | .non=>some "NoneType"
 | .bl _=>some "bool"
 | .int _=>some "int"
 | .str _ => some "str"
 | .lst _=>some "list"
 | .tup _=>some "tuple"
 | _=>none
theorem aey:y9 X (.builtin "isinstance") (fun xs H Q=>∃y n d t,xs=[y,.ty n]/\b7 X.K CL H d y/\tyD d=some t/\n∈["int","str","list","tuple","bool","dict"]/\Q (.bl (t==n || (t=="bool" && n=="int"))) H):=by
 intro pins s σ H xs us Q I r h;obtain⟨y,n,d,t,rfl,rd,ht,hn,q⟩:=h;obtain⟨u,u2,rfl,ru,ru2⟩:=r.two;cases (show u2=Value.type n from ru2);have fin:∀tk,EP X pins σ Q (.bool (t==n || (t=="bool" && n=="int"))) {s with toks:=tk}:=fun tk=>⟨.bl _,H,I.tok tk,rfl,q⟩;cases rd with
 | non=>cases ht;cases (show u=Value.none from ru);exact aDA PySem.W.kitx_none I.QG True.intro (wR.trans (BH Wp hn)) (fun z=>nomatch z) fin
 | bl c=>cases ht;cases (show u=Value.bool c from ru);exact aDA PySem.W.kitx_bool I.QG True.intro (wR.trans (BH Wp hn)) (fun z=>nomatch z) fin
 | int c=>cases ht;obtain⟨tt,e⟩:=(show ∃t,u=Value.int c t from ru);cases e;exact aDA PySem.W.kitx_int I.QG True.intro (wR.trans (BH Q.c hn)) (fun z=>nomatch z) fin
 | str c=>cases ht;obtain⟨tt,e⟩:=(show ∃t,u=Value.str c t from ru);cases e;exact aDA PySem.W.kitx_str I.QG True.intro (wR.trans (BH Q.c hn)) (fun z=>nomatch z) fin
 | @lst a ws _ hq rr=>
   cases ht;cases (show u=Value.ref a from ru);obtain⟨its,_,pl,_⟩:=I.list hq;obtain⟨o,n',e,c,_⟩:=pl;exact aDA PySem.W.kitx_list I.QG ⟨o,e,c⟩ (wR.trans (BH Q.c hn)) (fun z=>nomatch z) fin
 | @tup a ws _ hq rr=>
   cases ht;cases (show u=Value.ref a from ru);obtain⟨its,_,pl,_⟩:=I.tuple hq;obtain⟨o,e,c,_⟩:=pl;exact aDA PySem.W.kitx_tuple I.QG ⟨o,e,c⟩ (wR.trans (BH Q.c hn)) (fun z=>nomatch z) fin
 | ins _ _=>cases ht
 | any _=>cases ht
 | val _=>cases ht
 | mz _ _=>cases ht
 | dct _ _=>cases ht
 | Lj _ _ _=>cases ht
variable{pp:Pos}
def Sf{d:L3.D}{t n:String}{nm:Str}{pq:Pos}(hm:X.mg "isinstance" = none)(hmn:X.mg nm=none)(hg:Gl X "isinstance")(hgn:Gl X nm)(hbn:bootBuiltins nm=some (.type n))(hnm:nm≠"__name__")(hnd:AD nm)(h:cL X CL b e δ d δ1)(ht:tyD d=some t)(hn:n∈["int","str","list","tuple","bool","dict"])
   (hs:starEach [e,.Name nm pq] X.env=(false,eval e X.env)::starEach [.Name nm pq] X.env:=by exact bP rfl) :
   bU X CL b (.Call (.Name "isinstance" pp) [e,.Name nm pq] [] pos) δ (.sh (.bl (t==n || (t=="bool" && n=="int")))) δ1:=fun H Z σ ts vs Q S k=>
 cE (wL (aey (CL:=CL)) hg hm boot_isinstance (bW cR (bW (al3 hgn hmn hbn (v:=.ty n) rfl hnm hnd) dQ) hs) (he:=hs)) (h H Z σ ts vs _ S fun v H1 Z1 z1 k1 S1 r=>
   ⟨v,n,d,t,rfl,r,ht,hn,k _ H1 Z1 z1 k1 (S1.push (.bl _))⟩)
variable{n:Nat}
def wU(h:Nat.ble n 1000=true):n<=sizeLine:=aCj (bz (aBu h))
structure Vn(X:Cx)(i:Nat)(x:Str):Prop where
 hi:X.N[i]? = some x
 hv:Vis X.env.scope x
 hd:(x==("__debug__":Str))=false
 uG:(x==("__classdict__":Str))=false
structure Ln(X:Cx)(i:Nat)(x:Str):Prop extends Vn X i x where
 loc:Loc X.env.scope x
 hf:X.fn x=true\/X.env.scope.names.lookup x=some .local
structure Gx(X:Cx):Prop where
 nd:X.N.Nodup
 calm:X.calm=true
 xe:PassesOwn Q.d X.A X.env X.xe
structure Fc(X:Cx)(CL:BA)(x:Str)(k n:Nat){A:Type}(arg:A->Ap)(Pre:A->Prop)(res:A->T):Prop where
 ex:∃f fd ps,oS X.prog X.w X.K X.mg X.base J2 k f fd ps (spA X.K CL n arg Pre res)/\X.mg x=some (.ref f)/\keepIn X.K (.ref f)=true/\Binds X.K fd ps []
 room:mw k X.A
section
variable{d:L3.D}{D:ja}{jM:Cl}{ds:Ap}
def v_(n:Vn X i x)(h:δ[i]? = some (some (.sh d)):=by rfl):bU X CL b (.Name x pos) δ (.sh d) δ:=aqV i n.hi n.hv n.hd n.uG h
def vF(n:Vn X i x)(h:δ[i]? = some (some t):=by rfl):bU X CL b (.Name x pos) δ (.sh t.fj) (δ.set i (some (.sh t.fj))):=amw i n.hi n.hv n.hd n.uG h
def vM(n:Vn X i x)(h:δ[i]? = some (some t):=by rfl):bU X CL b (.Name x pos) δ t (δ.set i none):=amx i n.hi n.hv n.hd n.uG h
def vB(n:Vn X i x)(h:δ[i]? = some (some t):=by rfl):cL X CL b (.Name x pos) δ t.fj δ:=aqW i n.hi n.hv n.hd n.uG h
def cS(h:cL X CL b e δ (.int k) δ1):bU X CL b (.UnaryOp .USub e pos) δ (.sh (.int (-k))) δ1:=fun H Z σ ts vs Q S kk=>
 cE (atl aqv cR) (h H Z σ ts vs _ S fun v H1 Z1 z1 k1 S1 r=>⟨k,r.sc rfl,kk _ H1 Z1 z1 k1 (S1.push (.int _))⟩)
def vL(n:Vn X i x)(h:δ[i]? = some (some (.lst (ds.map T.sh))):=by rfl):cL X CL b (.Name x pos) δ (.lst ds) δ:=by
 have:=vB (CL:=CL) (b:=b) (pos:=pos) n h
 rwa [T.fj,kL]at this
def c_{k:Nat}{A:Type}{arg:A->Ap}{Pre:A->Prop}{res:A->T}(a:A)(F:Fc X CL x k n arg Pre res)(hg:Gl X x)(h:BAv X CL b (e::es) δ (arg a) δ1)(hp:Pre a)(hc:(res a).clean=true)(hn:(arg a).length=n:=by rfl)
   (Qd:AD x:=by decide) (he:AC X e es:=by exact bP rfl) (hpl:AL X pos es:=by rfl) :
   bU X CL b (.Call (.Name x pp) (e::es) [] pos) δ (res a) δ1:=by
 obtain⟨f,fd,ps,F1,m,k,b⟩:=F.ex;exact amD a F1 F.room m k b h hn hp hc hg Qd he hpl
def cF{k:Nat}{A:Type}{arg:A->Ap}{Pre:A->Prop}{res:A->T}(a:A)(F:Fc X CL x k n arg Pre res)(hg:Gl X x)(h:Vm X CL b (e::es) δ ((arg a).map T.sh) δ1)(hp:Pre a)(hn:(arg a).length=n:=by rfl)
   (Qd:AD x:=by decide) (he:AC X e es:=by exact bP rfl) (hpl:AL X pos es:=by rfl) :
   bU X CL b (.Call (.Name x pp) (e::es) [] pos) δ (res a) δ1:=by
 obtain⟨f,fd,ps,F1,m,k,b⟩:=F.ex;exact ahK a F1 F.room m k b h hn hp hg Qd he hpl
def aD{pos':Pos}(g:Gx X)(n:Ln X i x)(h:bU X CL b e δ t δ1)(k:gw X CL b jM (δ1.set i (some t)) D)(hl:i<δ1.length:=by exact aBu rfl)(hs:swapsWith e (some (.Name x pos')) pos.line X.env=pure false:=by rfl) :
   gw X CL b (.Assign [.Name x pos'] e pos::jM) δ D:=eK (ahL i h k hl g.nd n.hi n.loc hs n.hf)
def aH(h:bU X CL b e δ t δ1)(k:D.rt t δ1):gw X CL b (.Return (some e) pos::jM) δ D:=eK (aq0 h k)
def aS{a c:Cl}(h:xO X CL b e δ p δ1)(h1:p=true->gw X CL b a δ1 {D with nx:=fun δ2=>gw X CL b jM δ2 D})(h2:p=false->gw X CL b c δ1 {D with nx:=fun δ2=>gw X CL b jM δ2 D}):gw X CL b (.If e a c pos::jM) δ D:=eK (atR h h1 h2)
theorem gw.to{D':ja}(h:gw X CL b jM δ D')(h1:∀δ,D'.nx δ->D.nx δ)(h2:∀t δ,D'.rt t δ->D.rt t δ)(h3:∀δ,D'.bk δ->D.bk δ)(h4:∀δ,D'.ct δ->D.ct δ):gw X CL b jM δ D:=fun H Z σ ts vs E S M=>h H Z σ ts vs E S (M.to h1 h2 h3 h4)
def Vu{a c:Cl}(J:At->Prop)(h:xO X CL b e δ p δ1)(h1:p=true->gw X CL b a δ1 {D with nx:=J})(h2:p=false->gw X CL b c δ1 {D with nx:=J})(k:∀δ2,J δ2->gw X CL b jM δ2 D):gw X CL b (.If e a c pos::jM) δ D:=
 aS h (fun hp=>gw.to (h1 hp) k (fun _ _ q=>q) (fun _ q=>q) (fun _ q=>q)) (fun hp=>gw.to (h2 hp) k (fun _ _ q=>q) (fun _ q=>q) (fun _ q=>q))
def j4{body:Cl}{pos':Pos}(g:Gx X)(n:Ln X i x)(P:Nat->At->Prop)(h:TIt X CL b (.Name x pos') e δ ds δ1)(h0:P 0 δ1)(hl:∀j δ,P j δ->i<δ.length)
   (hs:∀j d δ,ds[j]? = some d->P j δ->gw X CL b body (δ.set i (some (.sh d))) {nx:=P (j+1),rt:=D.rt,bk:=fun δ2=>gw X CL b jM δ2 D,ct:=P (j+1)}) (hd:∀δ,P ds.length δ->gw X CL b jM δ D) (hq:AN X e:=by intro _;rfl) :
   gw X CL b (.For (.Name x pos') e body [] pos::jM) δ D:=
 eK (aq3 (D:={D with nx:=fun δ1=>gw X CL b jM δ1 D}) i P h h0 hl hs hd g.xe g.calm g.nd n.hi n.loc n.hf hq)
def jt{o:Option Expr}{l:Nat}(h:∃c,swapsWith e o l env=pure c):swapsWith e o l env=pure true\/swapsWith e o l env=pure false:=by
 obtain⟨c,h⟩:=h;cases c
 . exact .inr h
 . exact .inl h
def ahR{C:Addr}(h1:Nc[i]? = some x)(h2:scope.names.lookup x=some .local)(hd:AD x:=by decide)(uG:AE x:=by decide):Vn (dB X scope Nc C s H fp) i x:=
 ⟨h1,.inl (lookup_relabel_local h2),hd,uG⟩
def aq7{C:Addr}(h1:Nc[i]? = some x)(h2:scope.names.lookup x=some .free)(hd:AD x:=by decide)(uG:AE x:=by decide):Vn (dB X scope Nc C s H fp) i x:=by
 refine⟨h1,?_,hd,uG⟩;have q:=j3 (env:=X.env) h2;show(relabel scope X.env).names.lookup x=some .local\/(relabel scope X.env).names.lookup x=some .cell\/(relabel scope X.env).names.lookup x=some .free;rw[show(relabel scope X.env).names.lookup x=_ from q];split
 . exact .inr (.inl rfl)
 . exact .inr (.inr rfl)
def amF{C:Addr}(h2:scope.names.lookup x=some .globalImplicit):Gl (dB X scope Nc C s H fp) x:=by
 have q:=j3 (env:=X.env) h2;show(relabel scope X.env).names.lookup x=some .globalImplicit;rw[show(relabel scope X.env).names.lookup x=_ from q];rfl
def l0{C:Addr}{k:Nat}{A:Type}{arg:A->Ap}{Pre:A->Prop}{res:A->T}(F:Fc X CL x k n arg Pre res):Fc (dB X scope Nc C s H fp) CL x k n arg Pre res:=⟨F.ex,F.room⟩
end
variable{ds:Ap}
def Sg{i j:Bool}(h1:cL X CL b e1 δ (.bl i) δ1)(h2:cL X CL b e2 δ1 (.bl j) δ2):xO X CL b (.Compare e1 [.NotEq] [e2] pos) δ (!decide (i=j)) δ2/\bU X CL b (.Compare e1 [.NotEq] [e2] pos) δ (.sh (.bl (!decide (i=j)))) δ2:=
 zX ahe h1 h2 rfl rfl (fun _ _ q=>⟨rfl,by rw[show decide (V.bl i=V.bl j)=decide (i=j) by simp];exact q⟩) (vR _)
def acN(h:Vm X CL b es δ (ds.map T.sh) δ1)(hl:ds.length<=sizeLine:=by exact wU rfl):bU X CL b (.List es pos) δ (.sh (.lst ds)) δ1:=by
 have:=Mi (dM (pos:=pos) h (by simpa using hl))
 rwa [T.fj,kL]at this
variable{d:L3.D}{t:String}{pq:Pos}
def aez:bootBuiltins "int" = some (.type "int"):=Q.f
def Zc:bootBuiltins "bool" = some (.type "bool"):=Q.f
def isB(hm:X.mg "isinstance" = none)(hmn:X.mg "bool" = none)(hg:Gl X "isinstance")(hgn:Gl X "bool")(h:cL X CL b e δ d δ1)(ht:tyD d=some t:=by rfl)(hs:starEach [e,.Name "bool" pq] X.env=(false,eval e X.env)::starEach [.Name "bool" pq] X.env:=by exact bP rfl) :
   bU X CL b (.Call (.Name "isinstance" pp) [e,.Name "bool" pq] [] pos) δ (.sh (.bl (t=="bool" || (t=="bool" && "bool" == "int")))) δ1:=Sf hm hmn hg hgn Zc Q.c Q.c h ht Q.c hs
def cH:bootBuiltins "list" = some (.type "list"):=Q.f
def isL(hm:X.mg "isinstance" = none)(hmn:X.mg "list" = none)(hg:Gl X "isinstance")(hgn:Gl X "list")(h:cL X CL b e δ d δ1)(ht:tyD d=some t:=by rfl)(hs:starEach [e,.Name "list" pq] X.env=(false,eval e X.env)::starEach [.Name "list" pq] X.env:=by exact bP rfl) :
   bU X CL b (.Call (.Name "isinstance" pp) [e,.Name "list" pq] [] pos) δ (.sh (.bl (t=="list" || (t=="bool" && "list" == "int")))) δ1:=Sf hm hmn hg hgn cH Q.c Q.c h ht Q.c hs
def Jg:bootBuiltins "tuple" = some (.type "tuple"):=Q.f
def isT(hm:X.mg "isinstance" = none)(hmn:X.mg "tuple" = none)(hg:Gl X "isinstance")(hgn:Gl X "tuple")(h:cL X CL b e δ d δ1)(ht:tyD d=some t:=by rfl)(hs:starEach [e,.Name "tuple" pq] X.env=(false,eval e X.env)::starEach [.Name "tuple" pq] X.env:=by exact bP rfl) :
   bU X CL b (.Call (.Name "isinstance" pp) [e,.Name "tuple" pq] [] pos) δ (.sh (.bl (t=="tuple" || (t=="bool" && "tuple" == "int")))) δ1:=Sf hm hmn hg hgn Jg Q.c Q.c h ht Q.c hs
def chk(sc:Scope)(l:Cc):Bool:=l.all fun p=>sc.names.lookup p.1==some p.2
def iL{sc:Scope}{l:Cc}(h:chk sc l=true)(i:Nat){k:NameKind}(hi:l[i]? = some (x,k)):sc.names.lookup x=some k:=by
 unfold chk at h;rw[aCO]at h;exact aDh.mp (h _ (aBQ hi))
inductive ahS(X:Cx):CU->AT->Prop where
 | nil:ahS X [] []
 | cons {i:Nat} {y:Str} {ix:CU} {ys:AT} (n:Vn X i y) (k:X.env.kindOf y=some .cell\/X.env.kindOf y=some .free) (r:ahS X ix ys):ahS X (i::ix) (y::ys)
def ahT(scope:Scope)(x:Str)(zY:AT):Bool:=
 scope.kind == .function&&scope.names.lookup x==some .local&&zY.all (fun y=>scope.names.lookup y==some .free)&&decide ((x::zY).Nodup) &&
   scope.names.all fun y=>y.2 != .cell&&(y.2 != .local || scope.names.lookup y.1==some .local)&&(y.2 != .free || (zY.contains y.1&&scope.names.lookup y.1==some .free))
variable{ix:CU}
def bC{zY:AT}(c:ahS X ix zY)(ok:ahT scope x zY=true):wQ X scope x (x::zY) ix:=by
 unfold ahT at ok;simp only[aB6,aCO,aCG,aDh]at ok;obtain⟨⟨⟨⟨h1,h2⟩,h3⟩,h4⟩,h5⟩:=ok;have kc:∀y∈zY,X.env.kindOf y=some .cell\/X.env.kindOf y=some .free:=by
   clear h3 h4 h5
   induction c with
   | nil=>intro y hy;cases hy
   | cons n k r ih=>
     intro y hy;rcases aBq.mp hy with e|hy
     . subst e;exact k
     . exact ih y hy
 refine⟨h1,fun y hy e=>?_,h4,fun y hy e=>?_,h2,fun y hy e=>?_,?_,fun i hi=>?_⟩
 . have:=(h5 y hy).1.1;rw[e]at this;simp at this
 . have:=(h5 y hy).1.2;rw[e]at this;simpa using this
 . have:=(h5 y hy).2;rw[e]at this;simp at this;exact⟨this.2,kc _ this.1⟩
 . congr 1;clear h3 h4 h5 kc
   induction c with
   | nil=>rfl
   | cons n k r ih=>rw[aCS,n.hi,← ih]
 . clear h4 h5 kc
   induction c with
   | nil=>cases hi
   | @cons i' y ix ys n k r ih=>
     rcases aBq.mp hi with e|hi
     . subst e;exact⟨y,n.hi,h3 y aBr⟩
     . exact ih (fun z hz=>h3 z (aBt _ hz)) hi
def D.Gv:D->Int
 | .int i=>i
 | _=>0
def D.toS:D->Str
 | .str x => x
 | _=>Str.empty
def lF{bs:BB}(h0:0<=k)(h1:k<bs.length):Cu (bs.map D.int) k=some (.int (bs.getD k.toNat 0)):=by
 obtain⟨j,rfl⟩:∃j:Nat,k=j:=⟨k.toNat,We⟩;refine jf ?_;have hl:j<bs.length:=by omega
 rw[aBR,aBC hl];simp[List.getD,hl]
theorem j5:∀(bs:BB),D.bY (bs.map D.int)=true
 | []=>rfl
 | i::r=>by rw[aBK,D.bY,j5 r];rfl
def wV{lo:Int}{d:D}(h:(gH lo n)[j]? = some d):d=.int (lo+j)/\j<n:=by
 have hl:j<n:=by
   have:=(aB4.mp h).1;simpa [gH] using this
 refine⟨?_,hl⟩;unfold gH at h;rw[aBR,aB9 hl]at h;exact(aBX h).symm
def dJ(l:List α):l.filter (fun _=>true)=l:=by simp
theorem Vv{K:Frag}{CL:BA}{Z:Hp}:∀(ns:BB),aE K CL Z (ns.map D.int) (ns.map V.int)
 | []=>.nil
 | n::r=>.cons (.int n) (Vv r)
def aq8{arg:BB->Ap}{pre:BB->Prop}{res:BB->T}{ns:BB}(ha:arg ns=[.lst (ns.map D.int)])(hp:pre ns)(hr:res ns=.sh (.bl true))(hS:sX K H a (ns.map V.int))(h0:∀x,acI x=true->CL x=0:=by intros;rfl) :
   spA K CL 1 arg pre res [.ref a] H (fun v _=>v=.bl true) fun _ _ _=>False:=
 ⟨H,ns,.refl _,fun _ _ q _=>q,by rw[ha];exact .cons (.lst hS (Vv ns)) .nil,by rw[ha];rfl,hp,fun x hx e=>absurd (h0 x hx) e,fun v H' W' fp _ _ _ _ _ r _ _=>by
   rw[hr]at r;cases r with
   | sh r=>exact r.sc rfl⟩
mutual
def D.toPy:D->PyData
 | .non=>.none
 | .bl b=>.bool b
 | .int i=>.int i
 | .str x => .str x
 | .tup ds=>.tuple (D.ly ds)
 | .lst ds=>.list (D.ly ds)
 | .ins _ _=>.none
 | .mz _=>.none
 | .dct _=>.none
 | .any=>.none
 | .val _=>.none
 | .Lj _ _ _=>.none
def D.ly:Ap->List PyData
 | []=>[]
 | d::ds=>d.toPy::D.ly ds
end
inductive BI:Nat->D->Prop where
 | non (n:Nat):BI n .non
 | bl (n:Nat) (b:Bool):BI n (.bl b)
 | int (n:Nat) (i:Int):BI n (.int i)
 | str (n:Nat) (x:Str) (h:PyData.strOk x=true):BI n (.str x)
 | tup {n:Nat} {ds:Ap} (h:∀d∈ds,BI n d):BI (n+1) (.tup ds)
 | lst {n:Nat} {ds:Ap} (h:∀d∈ds,BI n d):BI (n+1) (.lst ds)
def eqD(a b:D):Bool:=PyData.eqv a.toPy b.toPy
theorem BI.aq9{n:Nat}:∀{ds:Ap},(∀d∈ds,d.toPy.canLay0=true/\d.toPy.depth<=n)->PyData.canLayAll0 (D.ly ds)=true/\PyData.depthAll (D.ly ds)<=n
 | [],_=>⟨by rw[D.ly,PyData.canLayAll0],by rw[D.ly,PyData.depthAll];exact aB0 _⟩
 | d::ds,h=>by
   have h1:=h d aBr;have h2:=BI.aq9 (ds:=ds) fun e he=>h e (aBt _ he);rw[D.ly,PyData.canLayAll0,PyData.depthAll,h1.1,h2.1];exact⟨rfl,Nat.max_le.mpr ⟨h1.2,h2.2⟩⟩
theorem BI.lay{d:D}(h:BI n d):d.toPy.canLay0=true/\d.toPy.depth<=n:=by
 induction h with
 | non n=>exact⟨by rw[D.toPy,PyData.canLay0],by rw[D.toPy,PyData.depth];exact aB0 _⟩
 | bl n b=>exact⟨by rw[D.toPy,PyData.canLay0],by rw[D.toPy,PyData.depth];exact aB0 _⟩
 | int n i=>exact⟨by rw[D.toPy,PyData.canLay0],by rw[D.toPy,PyData.depth];exact aB0 _⟩
 | str n x hx=>exact⟨by rw[D.toPy,PyData.canLay0];exact hx,by rw[D.toPy,PyData.depth];exact aB0 _⟩
 | @tup n ds _ ih=>
   have:=BI.aq9 ih;rw[D.toPy,PyData.canLay0,PyData.depth];exact⟨this.1,We⟩
 | @lst n ds _ ih=>
   have:=BI.aq9 ih;rw[D.toPy,PyData.canLay0,PyData.depth];exact⟨this.1,We⟩
def ahU(I:L2.Inv X pins σ H s){d:D}{u:Value}(hd:BI n d)(q:b7 X.K CL H d v)(r:RelV v u):∃as,Reads s.heap u d.toPy as:=by
 refine b7.rec (motive_1:=fun d v _=>∀(n:Nat) (u:Value),BI n d->RelV v u->∃as,Reads s.heap u d.toPy as)
   (motive_2:=fun ds vs _=>∀(n:Nat) (us:BY),(∀d∈ds,BI n d)->Vals vs us->∃as,ReadsAll s.heap us (D.ly ds) as) (motive_3:=fun _ _ _=>True) (motive_4:=fun _ _ _=>True) (motive_5:=fun _ _ _=>True)
   (fun _ _ _ r=>?non) (fun b _ _ _ r=>?bl) (fun i _ _ _ r=>?int) (fun x _ _ _ r=>?str) (fun _ _ _ hd _=>by cases hd) (fun _ _ _ hd _=>by cases hd) (fun hq _ ih n u hd r=>?tup) (fun hq _ ih n u hd r=>?lst) (fun _ _ _ _ _ hd _=>by cases hd) (fun _ _ _ _ _ hd _=>by cases hd) (fun _ _ _ _ _ hd _=>by cases hd) (fun _ _ _ _ _ _ _ hd _=>by cases hd)
   (fun _ _ _ r=>?nil) (fun _ _ ih ihs n us h r=>?cons) trivial (fun _ _ _ _=>trivial) trivial (fun _ _ _ _=>trivial) trivial (fun _ _ _ _=>trivial) q n u hd r
 case non=>cases r;rw[D.toPy];exact⟨[],.none⟩
 case bl=>cases r;rw[D.toPy];exact⟨[],.bool b⟩
 case int=>obtain⟨t,rfl⟩:=r;rw[D.toPy];exact⟨[],.int i t⟩
 case str=>obtain⟨t,rfl⟩:=r;rw[D.toPy];exact⟨[],.str x t⟩
 case tup=>
   cases hd with
   | tup hd=>
     cases r;obtain⟨its,rv,⟨o,e,c,k,dt⟩,_⟩:=I.tuple hq;obtain⟨as,ra⟩:=ih _ _ hd rv;rw[D.toPy];exact⟨as,.tuple e c dt (by simpa using ra)⟩
 case lst=>
   cases hd with
   | lst hd=>
     cases r;obtain⟨its,rv,⟨o,k,e,c,_,dt⟩,_⟩:=I.list hq;obtain⟨as,ra⟩:=ih _ _ hd rv;rw[D.toPy];exact⟨_,.list e c dt (by simpa using ra)⟩
 case nil=>cases r;rw[D.ly];exact⟨[],.nil⟩
 case cons=>
   cases r with
   | cons r rs=>
     obtain⟨as,ra⟩:=ih n _ (h _ aBr) r;obtain⟨bs,rb⟩:=ihs n _ (fun e he=>h e (aBt _ he)) rs;rw[D.ly];exact⟨as++bs,.cons ra rb⟩
variable{δ3:At}{p2:Pos}{t:T}{jM:Cl}{DD:ja}{d1 d2:D}{ds:Ap}
def ara(hu:X.A.units+64<cLine):zG X (compareOp .Eq) (fun x y H Q=>∃a c,b7 X.K CL H a x/\b7 X.K CL H c y/\BI 60 a/\BI 60 c/\Q (.bl (eqD a c)) H):=by
 intro pins s σ H x y v u Q I rx ry h;obtain⟨a,c,ra,rc,da,dc,q⟩:=h;obtain⟨as,r1⟩:=ahU I da ra rx;obtain⟨bs,r2⟩:=ahU I dc rc ry;exact SeqAt.rcAt_reads r1 r2 da.lay.1 dc.lay.1 (by have:=da.lay.2;omega) X.prog X.w X.xe _ ⟨.bl _,H,I,rfl,q⟩
def aw2{op:CmpOp}{f:Bool->Bool}(ho:zG X (compareOp op) (fun x y H Q=>∃a c,b7 X.K CL H a x/\b7 X.K CL H c y/\BI 60 a/\BI 60 c/\Q (.bl (f (eqD a c))) H))(h1:cL X CL b e1 δ d1 δ1)(h2:cL X CL b e2 δ1 d2 δ2)(k1:BI 60 d1)(k2:BI 60 d2)
   (hm:behindInMarks op e2=false):xO X CL b (.Compare e1 [op] [e2] pos) δ (f (eqD d1 d2)) δ2/\bU X CL b (.Compare e1 [op] [e2] pos) δ (.sh (.bl (f (eqD d1 d2)))) δ2:=by
 constructor
 . intro H Z σ ts vs Q S k;refine J4 (BD ho cR cR hm) (h1 H Z σ ts vs _ S fun v1 H1 Z1 z1 k1' S1 r1=>h2 H1 Z1 σ ts vs _ S1 fun v2 H2 Z2 z2 k2' S2 r2=>?_);exact⟨d1,d2,r1.mono k2',r2,k1,k2,_,rfl,k H2 Z2 (z1.trans z2) (k1'.trans k2') S2⟩
 . intro H Z σ ts vs Q S k;refine cE (By ho cR cR hm) (h1 H Z σ ts vs _ S fun v1 H1 Z1 z1 k1' S1 r1=>h2 H1 Z1 σ ts vs _ S1 fun v2 H2 Z2 z2 k2' S2 r2=>?_);exact⟨d1,d2,r1.mono k2',r2,k1,k2,k _ H2 Z2 (z1.trans z2) (k1'.trans k2') (S2.push (.bl _))⟩
def ahV(hu:X.A.units+64<cLine)(h1:cL X CL b e1 δ d1 δ1)(h2:cL X CL b e2 δ1 d2 δ2)(k1:BI 60 d1)(k2:BI 60 d2):xO X CL b (.Compare e1 [.Eq] [e2] pos) δ (eqD d1 d2) δ2/\bU X CL b (.Compare e1 [.Eq] [e2] pos) δ (.sh (.bl (eqD d1 d2))) δ2:=
 aw2 (f:=fun b=>b) (ara hu) h1 h2 k1 k2 (vR _)
def cutD(xs:List α)(lo hi:B2):List α:=(xs.drop (HT.jF xs.length 0 lo)).take (HT.jF xs.length xs.length hi-HT.jF xs.length 0 lo)
theorem aE.drop{K:Frag}{Z:Hp}:∀{ds:Ap} {vs:BS} (n:Nat),aE K CL Z ds vs->aE K CL Z (ds.drop n) (vs.drop n)
 | _,_,0,r=>r
 | _,_,_+1,.nil=>.nil
 | _,_,n+1,.cons _ t=>aE.drop n t
theorem aE.take{K:Frag}{Z:Hp}:∀{ds:Ap} {vs:BS} (n:Nat),aE K CL Z ds vs->aE K CL Z (ds.take n) (vs.take n)
 | _,_,0,_=>.nil
 | _,_,_+1,.nil=>.nil
 | _,_,n+1,.cons r t=>.cons r (aE.take n t)
theorem aE.cut{ds:Ap}(r:aE K CL Z ds vs)(lo hi:B2):aE K CL Z (cutD ds lo hi) (Vg vs lo hi):=by
 unfold cutD Vg;rw[r.length];exact(r.drop _).take _
theorem zZ:∀{ds:Ap},D.bY ds=true->∀d∈ds,d.kK=true
 | [],_,_,h=>by cases h
 | d::ds,k,e,h=>by
   rw[D.bY,aB6]at k;rcases aBq.mp h with h|h
   . subst h;exact k.1
   . exact zZ k.2 e h
theorem mh:∀{ds:Ap},(∀d∈ds,d.kK=true)->D.bY ds=true
 | [],_=>rfl
 | d::ds,h=>by rw[D.bY,h d aBr,mh fun e he=>h e (aBt _ he)];rfl
def amG{xs:List α}{lo hi:B2}{x:α}(h:x∈cutD xs lo hi):x∈xs:=List.mem_of_mem_drop (aDK h)
def TOv(X:Cx)(CL:BA)(b:Bx)(e:Option Expr)(δ:At)(k:B2)(δ':At):Prop:=
 ∃t,PO X e t/\∀(H Z:Hp) (σ:L2.St) (ts:CI) (vs:BS) (Q:B2->Hp->Prop),cu X.K CL b H Z δ σ ts vs->(∀H' Z',aM Z Z'->aM H H'->cu X.K CL b H' Z' δ' σ ts vs->Q k H')->t σ H Q
def ny:TOv X CL b none δ none δ:=⟨_,amg,fun H Z σ ts vs Q S k=>k H Z (.refl _) (.refl _) S⟩
def nA(h:cL X CL b e δ (.int k) δ1):TOv X CL b (some e) δ (some k) δ1:=⟨_,amh cR,fun H Z σ ts vs Q S kk=>h H Z σ ts vs _ S fun v H1 Z1 z1 k1 S1 r=>⟨k,r.sc rfl,kk H1 Z1 z1 k1 S1⟩⟩
theorem wW{lo hi:Option Expr}{l h:B2}(h1:cL X CL b e δ (.lst ds) δ1)(hi1:D.bY ds=true)(h2:TOv X CL b lo δ1 l δ2)(h3:TOv X CL b hi δ2 h δ3):bU X CL b (.Subscript e (.Slice lo hi none p2) pos) δ (.lst ((cutD ds l h).map T.sh)) δ3:=fun H Z σ ts vs Q S k=>by
 obtain⟨t2,po2,w2⟩:=h2;obtain⟨t3,po3,w3⟩:=h3;refine cE (L8 ami cR po2 po3) (h1 H Z σ ts vs _ S fun v H1 Z1 z1 k1 S1 r=>w2 H1 Z1 σ ts vs _ S1 fun H2 Z2 z2 k2 S2=>w3 H2 Z2 σ ts vs _ S2 fun H3 Z3 z3 k3 S3=>?_);have r':=r.mono (k2.trans k3);cases r' with
 | lst hq rr=>
   refine⟨_,_,rfl,hq,fun p hp=>?_⟩;have rc:=aE.kK S3.tp (mh fun d hd=>zZ hi1 d (amG hd)) (rr.cut l h);obtain⟨c,S4⟩:=(cu.za rc S3).C6 (g0:=[]) (by simp[rc.length]) hp;exact k _ _ _ (z1.trans (z2.trans z3)) (k1.trans (k2.trans (k3.trans c))) S4
def GK(hm:X.mg "tuple" = none)(h:cL X CL b e δ (.lst ds) δ1)(hi:D.bY ds=true)(hg:Gl X "tuple")(hs:AC X e []:=by exact bP rfl):bU X CL b (.Call (.Name "tuple" pp) [e] [] pos) δ (.sh (.tup ds)) δ1:=fun H Z σ ts vs Q S k=>
 cE (wM Qg hg hm Jg (bW cR dQ hs) (he:=hs)) (h H Z σ ts vs _ S fun v H1 Z1 z1 k1 S1 r=>by
   cases r with
   | lst hq rr=>
     refine⟨_,_,rfl,.inl ⟨hq,fun l hl=>?_⟩⟩;obtain⟨a,c,S2⟩:=(cu.za (aE.kK S1.tp hi rr) S1).GH (by simp[rr.length]) hl;obtain⟨Z3,z3,S3⟩:=S2.Mh;rw[T.fj,kL]at S3;exact k _ _ Z3 (z1.trans (a.trans z3)) (k1.trans c) S3)
variable{pa pb:Pos}
def lz{tl0:CI}(n:Vn X i x)(h0:δ[i]? = some (some (.lst tl0)))(h:bU X CL b e δ t δ1)(h1:δ1[i]? = some (some (.lst tl)))(hl:tl.length<=1000000)(k:gw X CL b jM (δ1.set i (some (.lst (tl++[t])))) DD)
   (fY:attributeBase (.Name x pp) "append" X.env (eval (.Name x pp) X.env)=eval (.Name x pp) X.env:=by rfl)
   (oX:AB X pb e:=by rfl)
   (hline:(pa.endLine==pb.line)=true:=by rfl) (hs:AC X e []:=by exact bP rfl) (Se:swapsWith (.Call (.Attribute (.Name x pp) "append" pa) [e] [] pb) none pos.line X.env=pure false:=by rfl) :
   gw X CL b (.Expr (.Call (.Attribute (.Name x pp) "append" pa) [e] [] pb) pos::jM) δ DD:=
 eK (aq2 i h0 h h1 (aC8 hl (by rw[aB8];decide)) k n.hi n.hv n.hd n.uG fY oX hline hs Se)
def acO{ps:Pos}(n:Vn X i x)(h:bU X CL b e δ t δ1)(h2:cL X CL b e2 δ1 (.int k) δ1)(h1:δ1[i]? = some (some (.lst tl)))(hk:YD tl.length k=some j)(kk:gw X CL b jM (δ1.set i (some (.lst (tl.set j t)))) DD)
   (ha:∀v,assign (.Subscript (.Name x pp) e2 ps) X.env v=(do
     let ov ← holding [v] (eval (.Name x pp) X.env)
     let iv ← holding [v,ov] (eval e2 X.env)
     standAt ps
     holding [v,ov,iv] (setItem ov iv v)
     release [v,ov,iv] []):=by intro _;rfl)
   (hs:swapsWithSole [.Subscript (.Name x pp) e2 ps] e pos.line X.env=pure false:=by rfl) (hw:swappedStores [.Subscript (.Name x pp) e2 ps] e X.env=pure none:=by rfl) (ha1:(assignEach [.Subscript (.Name x pp) e2 ps] X.env).map (·.2)=[assign (.Subscript (.Name x pp) e2 ps) X.env]:=by rfl) :
   gw X CL b (.Assign [.Subscript (.Name x pp) e2 ps] e pos::jM) δ DD:=by
 refine eK fun H Z σ ts vs E S M=>C5 (aqi cR (aqh (qI n.hi n.hv n.hd n.uG) cR set_list ha) hs hw ha1) (h H Z σ ts vs _ S fun v H1 Z1 z1 k1 S1=>?_);have hj:j<tl.length:=(Lh hk).2.1;obtain⟨v0,e0,_⟩:=S1.look h1;refine⟨v0,e0,?_⟩;refine h2 H1 Z1 σ _ _ _ S1 fun v2 H2 Z2 z2 k2 S2 r2=>?_;obtain⟨a,us,ea,ha',hu,S3⟩:=S2.setAt h1 hj;rw[e0]at ea;cases ea;exact⟨a,us,k,j,rfl,r2.sc rfl,ha',by rw[hu];exact hk,M.nx _ σ _ Z2 (z1.trans z2) S3 kk⟩
def bF(hn:ds.length=n)(hm:X.mg "len" = none)(h:cL X CL b e δ (.lst ds) δ1)(hg:Gl X "len")(hs:AC X e []:=by exact bP rfl):bU X CL b (.Call (.Name "len" pp) [e] [] pos) δ (.sh (.int n)) δ1:=by
 subst hn;exact Ez hm h hg hs
def bZ(h:bU X CL b e δ (.lst (ds.map T.sh)) δ1):cL X CL b e δ (.lst ds) δ1:=by
 have:=aoU h
 rwa [T.fj,kL]at this
def mE{f:α->D}{l:List α}(z:α)(h0:0<=k)(h1:k<l.length):Cu (l.map f) k=some (f (l.getD k.toNat z)):=by
 obtain⟨j,rfl⟩:∃j:Nat,k=j:=⟨k.toNat,We⟩;refine jf ?_;have hl:j<l.length:=by omega
 rw[aBR,aBC hl];simp[List.getD,hl]
def Vw{β:Type}{f:α->β}{l:List α}{lo hi:B2}:cutD (l.map f) lo hi=(cutD l lo hi).map f:=by
 unfold cutD;rw[aBp,List.map_take,List.map_drop]
theorem qc{α:Type}{f:α->D}(h:∀a,(f a).kK=true):∀(l:List α),D.bY (l.map f)=true
 | []=>rfl
 | a::l=>by rw[aBK,D.bY,h a,qc h l];rfl
variable{d:D}
def amH{u:Tok}(hm:X.mg x=some (.int k u))(hg:Gl X x)(hd:AD x:=by decide):bU X CL b (.Name x pos) δ (.sh (.int k)) δ:=fun H Z σ ts vs Q S kk=>
 cE (RP (v:=.int k) hg hm ⟨u,rfl⟩ hd) (kk _ H Z (.refl _) (.refl _) (S.push (.int k)))
def aP(hm:∃u,X.mg x=some (.int k u))(hg:Gl X x)(hd:AD x:=by decide):bU X CL b (.Name x pos) δ (.sh (.int k)) δ:=by
 obtain⟨u,hm⟩:=hm;exact amH hm hg hd
def vE(n:Vn X i x)(h:δ[i]? = some (some t))(e:t.fj=d):cL X CL b (.Name x pos) δ d δ:=e▸vB n h
theorem xQ(x:Str):∀l:AT,inV (.str x) (l.map V.str)=decide (x∈l)
 | []=>by simp[inV]
 | y::l=>by
   have ih:=xQ x l;unfold inV at ih ⊢;rw[aBK,aCZ,ih];have e:∀a c:Str,eqV (.str a) (.str c)=(a==c):=fun _ _=>rfl;rw[e];by_cases h:y=x
   . subst h;simp
   . have h':¬ x=y:=fun e=>h e.symm;simp[h,h']
theorem aE.strs{K:Frag}{Z:Hp}:∀{l:AT} {vs:BS},aE K CL Z (l.map D.str) vs->vs=l.map V.str
 | [],_,r=>by
   have r':aE K CL Z [] _:=r;cases r';rfl
 | y::l,_,r=>by
   have r':aE K CL Z (D.str y::l.map D.str) _:=r;cases r' with
   | cons r1 r2=>rw[r1.sc rfl,aE.strs r2];rfl
theorem jh:∀l:AT,(l.map V.str).all Cv=true
 | []=>rfl
 | y::l=>by rw[aBK,aDz,jh l];rfl
variable{l:AT}
def tE(h1:cL X CL b e1 δ (.str x) δ1)(h2:cL X CL b e2 δ1 (.tup (l.map .str)) δ2)(hm:behindInMarks .In e2=false) :
   xO X CL b (.Compare e1 [.In] [e2] pos) δ (decide (x∈l)) δ2/\bU X CL b (.Compare e1 [.In] [e2] pos) δ (.sh (.bl (decide (x∈l)))) δ2:=by
 constructor
 . intro H Z σ ts vs Q S k;refine J4 (BD BE cR cR hm) (h1 H Z σ ts vs _ S fun v1 H1 Z1 z1 k1 S1 r1=>h2 H1 Z1 σ ts vs _ S1 fun v2 H2 Z2 z2 k2 S2 r2=>?_);cases r2 with
   | tup hq rr=>
     have e:=rr.strs;subst e;refine⟨_,_,rfl,.inr hq,by rw[r1.sc rfl];rfl,jh l,_,rfl,?_⟩;rw[aBx aBM,r1.sc rfl,xQ];exact k H2 Z2 (z1.trans z2) (k1.trans k2) S2
 . intro H Z σ ts vs Q S k;refine cE (By BE cR cR hm) (h1 H Z σ ts vs _ S fun v1 H1 Z1 z1 k1 S1 r1=>h2 H1 Z1 σ ts vs _ S1 fun v2 H2 Z2 z2 k2 S2 r2=>?_);cases r2 with
   | tup hq rr=>
     have e:=rr.strs;subst e;refine⟨_,_,rfl,.inr hq,by rw[r1.sc rfl];rfl,jh l,?_⟩;rw[aBx aBM,r1.sc rfl,xQ];exact k _ H2 Z2 (z1.trans z2) (k1.trans k2) (S2.push (.bl _))
def ji(h1:cL X CL b e1 δ (.str x) δ1)(h2:Vm X CL b es δ1 ((l.map D.str).map T.sh) δ2)(hl:(l.map D.str).length<=sizeLine:=by exact wU rfl) :
   xO X CL b (.Compare e1 [.In] [.Tuple es j p2] pos) δ (decide (x∈l)) δ2/\bU X CL b (.Compare e1 [.In] [.Tuple es j p2] pos) δ (.sh (.bl (decide (x∈l)))) δ2:=tE h1 (ak (aU h2 hl)) rfl
def Ml:Expr->Option Str
 | .Constant (.str x) _ _=>some x
 | _=>none
def GL:CA->Option AT
 | []=>some []
 | e::es=>(Ml e).bind fun x=>(GL es).map (x::·)
def Vx(h:Ml e=some x):∃j p,e=.Constant (.str x) j p:=by
 unfold Ml at h;split at h
 . cases h;exact⟨_,_,rfl⟩
 . cases h
theorem e7:∀{es:CA} {l:AT},GL es=some l->Vm X CL b es δ ((l.map D.str).map T.sh) δ
 | [],l,h=>by
   have e:l=[]:=(aBX h).symm;subst e;exact cj
 | e::es,l,h=>by
   rw[GL]at h;obtain⟨x,hx,h⟩:=Option.bind_eq_some_iff.mp h;obtain⟨l',hl,rfl⟩:=aDj.mp h;obtain⟨j,p,rfl⟩:=Vx hx;exact bE b9 (e7 hl)
def aw5{st1:Stmt}(J:At->Prop)(k:∀δ2,J δ2->gw X CL b jM δ2 DD)(h:(∀δ2,J δ2->gw X CL b jM δ2 DD)->gw X CL b (st1::jM) δ DD):gw X CL b (st1::jM) δ DD:=h k
def Sh{l:List α}(z:α)(h0:0<=k)(h1:k<l.length):Cu l k=some (l.getD k.toNat z):=by
 obtain⟨j,rfl⟩:∃j:Nat,k=j:=⟨k.toNat,We⟩;refine jf ?_;have hl:j<l.length:=by omega
 rw[aBC hl];simp[List.getD,hl]
def str_len(x y:Str):(x++y).length=x.length+y.length:=by
 show(x.cps++y.cps).size=_;rw[Array.size_append];rfl
def arb(x y:Str)(h1:PyData.strOk x=true)(h2:PyData.strOk y=true):PyData.strOk (x++y)=true:=by
 unfold PyData.strOk at *;show(x.cps++y.cps).all _=true;rw[Array.all_append,h1,h2];rfl
def Jh(l:BB):T.fZ ((l.map D.int).map T.sh)=true:=by
 rw[aBL]
 induction l with
 | nil=>rfl
 | cons i r ih=>rw[aBK,T.fZ,ih];rfl
variable{ds:Ap}
def vFL(n:Vn X i x)(h:δ[i]? = some (some (.lst (ds.map T.sh)))):bU X CL b (.Name x pos) δ (.sh (.lst ds)) (δ.set i (some (.sh (.lst ds)))):=by
 have:=vF (CL:=CL) (b:=b) (pos:=pos) n h
 rwa [T.fj,kL]at this
theorem zU.get:∀{fs:List (Str×D)} {gs:Bi} {f:Str} {d:D},zU K CL Z fs gs->fs.lookup f=some d->∃v,gs.lookup f=some v/\b7 K CL Z d v
 | _,_,_,_,.nil,e=>by simp at e
 | _,_,f,d,.cons (x:=x) r t,e=>by
   rw[aCd]at e ⊢;cases h:f==x with
   | true=>rw[h]at e;cases e;exact⟨_,rfl,r⟩
   | false=>rw[h]at e;exact zU.get t e
def wX(f:Str)(t:T):BN->BN
 | []=>[(f,t)]
 | (g,x)::r=>if g=f then(g,t)::r else(g,x)::wX f t r
variable{fs:BN}
theorem d8.length{gs:Bi}(h:d8 K CL H Z fs gs fp):fs.length=gs.length:=
 d8.ind (P:=fun d v _=>d.length=v.length) rfl (fun _ _ i=>congrArg (· + 1) i) h
theorem d8.put{f:Str}{g:BT}(q:b8 K CL H Z t v g):∀{fs:BN} {gs:Bi} {fp:BT},d8 K CL H Z fs gs fp →
   ∃fp' f',d8 K CL H Z (wX f t fs) (sY f v gs) fp'/\f'.Sublist fp/\fp'.Perm (g++f')
 | _,_,_,.nil=>⟨g++[],[],.cons q .nil,aCm _,aD5 _⟩
 | _,_,_,.cons (x:=x) (fp:=fp) (gp:=gp) r rs=>by
   rw[wX,sY];by_cases h:x=f
   . rw[aBE h,aBE h];exact⟨g++gp,gp,.cons q rs,aCW _ _,aD5 _⟩
   . rw[aBx h,aBx h];obtain⟨p,p',h1,h2,h3⟩:=d8.put (f:=f) q rs;refine⟨fp++p,fp++p',.cons r h1,aCo (aCm _) h2,(aCi fp h3).trans ?_⟩;rw[← aBA,← aBA];exact aCr.append_right p'
theorem cu.Zd{o:HO}{fp' gp gp':BT}(hm:xN o=false)(S:cu K CL b H Z δ σ ts vs)(own:∀c∈fp++gp,Z c=none/\b.B c=none)(ha:a∈fp++gp)
   (e':jY K CL (upd H a o) Z δ2 σ fp') (r':bw K CL (upd H a o) Z tl us gp') (pm:(fp'++gp').Nodup) (sub:∀c∈fp'++gp',c∈fp++gp) :
   cu K CL b (upd H a o) Z δ2 σ tl us:=by
 have oa:=own a ha;refine⟨⟨_,_,e',r',pm,fun c hc=>own c (sub c hc)⟩,fun c u q=>?_,S.zz,fun c u q=>?_,S.new,fun c u q i=>?_,S.tab⟩
 . rw[aA (cy q oa.2)];exact S.bh c u q
 . rw[aA (cy q oa.1)];exact S.zh c u q
 . by_cases hc:c=a
   . subst hc;rw[bA]at q;cases q;rw[hm]at i;cases i
   . rw[aA hc]at q;exact S.tp c u q i
variable{c:Str}
theorem cu.setField{x:Addr}{f:Str}(S:cu K CL b H Z δ σ (t::ts) (v::vs))(hi:δ[i]? = some (some (.pin x (.ins c fs)))) :
   ∃dx gs,σ[i]? = some (some (.ref x))/\H x=some (.ins (CL c) dx gs)/\gs.length=fs.length/\cu K CL b (upd H x (.ins (CL c) dx (sY f v gs))) Z (δ.set i (some (.pin x (.ins c (wX f t fs))))) σ ts vs:=by
 obtain⟨fp,gp,e,r,nd,k⟩:=S.rep;obtain⟨v0,f1,f2,f3,hv,BG,rt,put,_⟩:=e.get hi;subst BG;cases rt with
 | pin rt=>
 cases rt with
 | @ins a dx _ gs _ g ha rs=>
   cases r with
   | @cons _ _ _ _ ft gr q1 q2=>
     have ne:∀c∈(f1++(g++f3))++(ft++gr),c≠x:=fun c hc e=>by
       subst e;have hp:((f1++((c::g)++f3))++(ft++gr)).Perm (c::((f1++(g++f3))++(ft++gr))):=by
         rw[aB3,← aB3];exact(aCN.append_right _)
       exact(aCu.mp (hp.nodup_iff.mp nd)).1 hc
     refine⟨dx,gs,hv,ha,rs.length.symm,?_⟩;have q1':=q1.mono (H':=upd H x (.ins (CL c) dx (sY f v gs))) (.refl _) fun c hc=>aA (ne c (by simp[hc]));have rs':=rs.mono (H':=upd H x (.ins (CL c) dx (sY f v gs))) (.refl _) fun c hc=>aA (ne c (by simp[hc]));obtain⟨p,p',h1,h2,h3⟩:=d8.put (f:=f) q1' rs';have r1:b8 K CL (upd H x (.ins (CL c) dx (sY f v gs))) Z (.pin x (.ins c (wX f t fs))) (.ref x) (x::p):=.pin (.ins bA h1);have e2:=put (H':=upd H x (.ins (CL c) dx (sY f v gs))) (.refl _) (fun c hc=>aA (ne c (by
       rcases aBy.mp hc with h|h
       . simp[h]
       . simp[h]))) r1
     rw[lG hv]at e2;have hp:((f1++((x::p)++f3))++gr).Perm ((f1++((x::p')++f3))++(ft++gr)):=by
       have h4:((f1++((x::p)++f3))++gr).Perm ((f1++((x::(ft++p'))++f3))++gr):=((h3.cons x).append_right f3).append_left f1 |>.append_right gr
       refine h4.trans ?_;simp only[aB3,aBA];refine aCi f1 (List.Perm.cons x ?_);have:=(aCr (l₁:=ft) (l₂:=p'++f3)).append_right gr;simp only[aBA]at this;exact this
     have sb:((f1++((x::p')++f3))++(ft++gr)).Sublist ((f1++((x::g)++f3))++(ft++gr)):=
       aCo (aCo (aCm _) (aCo (List.Sublist.cons₂ x h2) (aCm _))) (aCm _)
     exact S.Zd rfl k Uf e2 (q2.mono (.refl _) fun c hc=>aA (ne c (by simp[hc]))) (hp.nodup_iff.mpr (nd.sublist sb)) fun c hc=>sb.subset (hp.mem_iff.mp hc)
variable{f:Str}{d:D}{fs:List (Str×D)}
def cA(hc:xM X.K (CL c))(n:aO X.K (CL c) f)(h:cL X CL b e δ (.ins c fs) δ1)(hl:fs.lookup f=some d)(hb:AS X e f:=by rfl) :
   cL X CL b (.Attribute e f pos) δ d δ1:=fun H Z σ ts vs Q S k=>
 cE (YW cR hb) (h H Z σ ts vs _ S fun v H' Z' z s S' r=>by
   cases r with
   | @ins a dx _ gs _ ha rf=>
     obtain⟨w,hw,rw'⟩:=rf.get hl;exact⟨a,CL c,dx,gs,w,rfl,ha,hc,n,hw,k w H' Z' z s S' rw'⟩)
def jG(hc:xM X.K (CL c))(n:aO X.K (CL c) f)(h:bU X CL b e δ (.sh (.ins c fs)) δ1)(hl:fs.lookup f=some d)(hb:AS X e f:=by rfl) :
   bU X CL b (.Attribute e f pos) δ (.sh d) δ1:=fun H Z σ ts vs Q S k=>
 cE (YW cR hb) (h H Z σ ts vs _ S fun v H' Z' z s S'=>by
   obtain⟨fp,gp,_,r,_,_⟩:=S'.rep;cases r with
   | cons r _=>
     cases r with
     | sh r=>
       cases r with
       | @ins a dx _ gs _ ha rf=>
         obtain⟨w,hw,rw'⟩:=rf.get hl;exact⟨a,CL c,dx,gs,w,rfl,S'.zh _ _ ha,hc,n,hw,k w H' Z' z s (S'.pop.push rw')⟩)
variable{pc:Pos}
def EA{gs:BN}(hc:xM X.K (CL c))(n:aO X.K (CL c) f)(nm:Vn X i x)(h:bU X CL b e δ t δ1)(h1:δ1[i]? = some (some (.pin a (.ins c gs))))(hl:gs.length<1000)
   (k:gw X CL b jM (δ1.set i (some (.pin a (.ins c (wX f t gs))))) DD) (hs:swapsWith e (some (.Attribute (.Name x pa) f pb)) pc.line X.env=pure false:=by rfl) :
   gw X CL b (.Assign [.Attribute (.Name x pa) f pb] e pc::jM) δ DD:=eK fun H Z σ ts vs E S M=>
 C5 (aqy (qI nm.hi nm.hv nm.hd nm.uG) cR hs) (h H Z σ ts vs _ S fun v H' Z' z s S'=>by
   obtain⟨dx,ws,hv,hx,hlen,S2⟩:=S'.setField (f:=f) h1;exact⟨.ref a,hv,a,CL c,dx,ws,rfl,hx,hc,n,by rw[hlen];exact hl,M.nx _ σ _ Z' z S2 k⟩)
def spI(K:Frag)(CL:BA){A:Type}(c:Str)(n:Nat)(arg:A->Ap)(Pre:A->Prop)(res:A->BN):Sp:=fun vs H Q _=>
 ∃(W H0:Hp) (a:A) (x dx:Addr) (us:BS),vs=.ref x::us/\H0 x=none/\H0 dx=none/\dx≠x/\H=upd (upd H0 dx (.own x)) x (.ins (CL c) dx []) ∧
   aM W H0/\(∀c o,H0 c=some o->xN o=true->W c=some o)/\aE K CL W (arg a) us/\(arg a).length+1=n/\Pre a/\zV CL W ∧
   ∀H' W' fp,aM H0 H'->aM W W'->aM W' H'->(∀c o,W' c=some o->W c=none->H0 c=none)->(∀c o,H' c=some o->xN o=true->W' c=some o) →
     b8 K CL H' W' (.ins c (res a)) (.ref x) fp->fp.Nodup->(∀c∈fp,W' c=none/\H0 c=none)->Q .non H'
variable{A:Type}{k:Nat}{f:Addr}{arg:A->Ap}{Pre:A->Prop}
def amI{res:A->BN}(a:A)(M:Mk X.K (CL c) f)(F:oS X.prog X.w X.K X.mg X.base J2 k f fd ps (spI X.K CL c n arg Pre res))(hr:mw (k+1) X.A)(hm:X.mg x=some (.ref (CL c)))(hb:Binds X.K fd ps [])
   (h:BAv X CL b (e::es) δ (arg a) δ1) (hn:(arg a).length+1=n) (hp:Pre a) (hc:T.cz (res a)=true) (hg:Gl X x)
   (Qd:AD x:=by decide) (he:AC X e es:=by exact bP rfl) (hpl:AL X pos es:=by rfl) :
   bU X CL b (.Call (.Name x pp) (e::es) [] pos) δ (.ins c (res a)) δ1:=fun H Z σ ts vs Q S kk=>
 cE (acy M F hr hg hm hb .nil acH paS Qd he hpl) (h H Z σ ts vs _ S fun us H1 Z1 z1 k1 S1 r x dx hx hdx ne=>by
   rw[aBW];refine⟨H1,H1,a,x,dx,us,rfl,hx,hdx,ne,rfl,.refl _,fun _ _ q _=>q,r,hn,hp,S1.aqS,fun H' W' fp hh ww wh nw tp rt nd own=>⟨rfl,?_⟩⟩;obtain⟨Z',z',S'⟩:=S1.back hh S1.zh ww wh nw tp rt nd own (.inr (by rw[T.clean];exact hc));exact kk _ H' Z' (z1.trans z') (k1.trans hh) S')
def acQ{mg:B0}{base:Heap}{qual:Str}{st:Stmt}{N:AT}{arg:A->Ap}{Pre:A->Prop}{res:A->BN}(F:jr K x qual st f fd)(S:gF N ps (au st))
   (hb:∀(uH:Value) (Ar:Around) (outer:Da) (s:Shared) (H:Hp) (E:XK) (b:Bx) (a:A) (y:Addr),mw k (Ar.deeper (envOfC qual (au st) s.heap.objs.size f uH))->Pre a →
     gw (Qe J2 P w K mg base N qual (au st) f uH Ar outer s H E).nox CL b (lZ st) (some (.pin y (.ins c []))::((arg a).map (fun d=>some (T.sh d))++List.replicate (N.length-((arg a).length+1)) none))
       {nx:=fun δ=>δ[0]? = some (some (.pin y (.ins c (res a)))),rt:=fun _ _=>False}) :
   oS P w K mg base J2 (k+1) f fd ps (spI K CL c ps.length arg Pre res):=by
 refine F.ok S (fun vs H Q E h=>?_) (fun uH Ar outer s H vs Q E hr h=>?_)
 . obtain⟨W,H0,a,y,dx,us,rfl,_,_,_,_,_,_,r,hl,_⟩:=h;rw[aBP,← r.length];exact hl
 . obtain⟨W,H0,a,y,dx,us,rfl,hy,hdx,ne,rfl,wh,tp,r,hl,hp,tb,kk⟩:=h;have old:∀{d:Addr} {o:HO},H0 d=some o->upd (upd H0 dx (.own y)) y (.ins (CL c) dx []) d=some o:=fun {d o} q=>by
     rw[aA (cy q hy),aA (cy q hdx)];exact q
   refine⟨_,pbS,hb uH Ar outer s _ E ⟨H0,W⟩ a y hr hp _ W _ [] [] _ ⟨⟨[y]++[],[],?_,.nil,Uf,fun d hd=>?_⟩,fun d o q=>old q,.refl _,fun d o q=>old (wh d o q),fun d o q z=>?_,fun d o q i=>?_,tb⟩ ⟨fun δ' σ' H' Z' s' S' e=>?_,fun t v H' Z' δ' σ' s' S' e=>e.elim,fun _ _ _ _ _ _ e=>e.elim,fun _ _ _ _ _ _ e=>e.elim⟩⟩
   . unfold L2.start;rw[aBK,aBP,aB3,← r.length];exact .cons (.pin (.ins bA .nil)) (xP _ r)
   . have:d=y:=by simpa using hd
     subst this;exact⟨aqT wh hy,hy⟩
   . have q':W d=some o:=q;have z':W d=none:=z;rw[q']at z';cases z'
   . by_cases h1:d=y
     . subst h1;rw[bA]at q;cases q;cases i
     . rw[aA h1]at q;by_cases h2:d=dx
       . subst h2;rw[bA]at q;cases q;cases i
       . rw[aA h2]at q;exact tp d o q i
   . obtain⟨fp,gp,eE,_,nd,own⟩:=S'.rep;obtain⟨v,f1,f2,f3,hv,BG,rt,_,_⟩:=eE.get e;subst BG;cases rt with
     | pin rt=>
       refine kk H' Z' f2 S'.bh S'.zz S'.zh S'.new S'.tp rt ?_ fun d hd=>own d (by simp[hd]);have h1:=(aCw.mp nd).1;exact(aCw.mp (aCw.mp h1).2.1).1
variable{body:Cl}{ds Dc:Ap}
theorem Si(g:Gx X)(P:Nat->At->Prop)(m:Nat)(h0:P m δ)
   (hs:∀m δ,P m δ->∃p δ1,xO X CL b e δ p δ1 ∧
     (p=true->gw X CL b body δ1 {nx:=fun δ2=>∃m',m'<m/\P m' δ2,rt:=DD.rt,bk:=fun δ2=>gw X CL b jM δ2 DD,ct:=fun δ2=>∃m',m'<m/\P m' δ2})/\(p=false->gw X CL b jM δ1 DD)) :
   gw X CL b (.While e body [] pos::jM) δ DD:=eK fun H Z σ ts vs E S M=>
 C5 (aha g.xe ptS pbS) (by
   refine⟨fun m σ H=>∃Z2 δ2,aM Z Z2/\cu X.K CL b H Z2 δ2 σ ts vs/\P m δ2,⟨m,Z,δ,.refl _,S,h0⟩,?_⟩;rintro m σ H ⟨Z2,δ2,z2,S2,p2⟩;obtain⟨p,δ3,ht,h1,h2⟩:=hs m δ2 p2;refine ht H Z2 σ ts vs _ S2 fun H3 Z3 z3 k3 S3=>?_;cases p with
   | true=>
     rw[aBE rfl];refine⟨fun σ' H'=>∃m',m'<m/\∃Z2 δ2,aM Z Z2/\cu X.K CL b H' Z2 δ2 σ' ts vs/\P m' δ2,fun σ' H' q=>q,?_⟩;refine h1 rfl H3 Z3 σ ts vs _ S3 ⟨fun δ' σ' H' Z' s' S' ⟨m',l,q⟩=>⟨m',l,Z',δ',z2.trans (z3.trans s'),S',q⟩,fun t v H' Z' δ' σ' s' S' q=>M.rt t v H' Z' δ' σ' (z2.trans (z3.trans s')) S' q,
       fun δ' σ' H' Z' s' S' q=>M.nx δ' σ' H' Z' (z2.trans (z3.trans s')) S' q,fun δ' σ' H' Z' s' S' ⟨m',l,q⟩=>⟨m',l,Z',δ',z2.trans (z3.trans s'),S',q⟩⟩
   | false=>
     rw[aBx Q.c];exact M.nx δ3 σ H3 Z3 (z2.trans z3) S3 (h2 rfl))
def at7(K:Frag):R2:=fun x y H Q=>∃l b xs zs,x=.ref l/\y=.ref b/\sX K H l xs/\sX K H b zs/\xs.length+zs.length<=sizeLine/\∀p,H p=none->Q (.ref p) (upd H p (.lst (xs++zs)))
def acR:zG X (binaryOp .Add) (at7 X.K):=by
 intro pins s σ H x y v u Q I rx ry h;obtain⟨l,b,xs,zs,rfl,rfl,hH,hB,hz,q⟩:=h;cases rx;cases ry;obtain⟨its,r,pl,_⟩:=I.list hH;obtain⟨C4,r2,pl2,_⟩:=I.list hB;have e1:=r.length;have e2:=r2.length;obtain⟨⟨c1,dd,da1,sl⟩,ho,hc,n,hd⟩:=pl.isList;obtain⟨⟨c2,dd2,da2,sl2⟩,ho2,hc2,n2,hd2⟩:=pl2.isList;cases hc;cases hc2;cases hd;cases hd2;refine concat_meets ⟨_,ho,rfl⟩ ⟨_,ho2,rfl⟩ noFill_list_add seq_list_add PySem.F.slot_list_add PySem.F.entry_list_add (PySem.F.args_list_add_2 (Value.ref l) (Value.ref b))
   (list_addW l b its.toArray C4.toArray n n2 dd dd2 sl sl2 (by rw[aB7,aB7];omega)) ⟨ho,ho2,?_⟩
 have ea:its.toArray++C4.toArray=(its++C4).toArray:=by simp
 rw[ea];exact⟨.ref _,_,I.aht (t':=s.toks) (r.append r2) (by rw[aBz];omega),rfl,q _ I.fresh⟩
theorem aE.app{ds Dc:Ap}{vs2:BS}(h:aE K CL Z ds vs)(r2:aE K CL Z Dc vs2):aE K CL Z (ds++Dc) (vs++vs2):=
 aE.ind (P:=fun ds vs=>aE K CL Z (ds++Dc) (vs++vs2)) r2 (fun r _ i=>.cons r i) h
theorem EB(h1:cL X CL b e1 δ (.lst ds) δ1)(h2:cL X CL b e2 δ1 (.lst Dc) δ2)(i1:D.bY ds=true)(i2:D.bY Dc=true)(hz:ds.length+Dc.length<=sizeLine) :
   bU X CL b (.BinOp e1 .Add e2 pos) δ (.lst ((ds++Dc).map T.sh)) δ2:=fun H Z σ ts vs Q S k=>
 cE (QI acR cR cR) (h1 H Z σ ts vs _ S fun v1 H1 Z1 z1 k1 S1 r1=>h2 H1 Z1 σ ts vs _ S1 fun v2 H2 Z2 z2 k2 S2 r2=>by
   have r1':=r1.mono k2;cases r1' with
   | lst YG QT=>
     cases r2 with
     | lst Qi Vy=>
       refine⟨_,_,_,_,rfl,rfl,YG,Qi,by rw[← QT.length,← Vy.length];exact hz,fun p hp=>?_⟩;have rc:=aE.app (aE.kK S2.tp i1 QT) (aE.kK S2.tp i2 Vy);obtain⟨c,S4⟩:=(cu.za rc S2).C6 (g0:=[]) (by simp[rc.length,QT.length,Vy.length]) hp;exact k _ _ _ (z1.trans z2) (k1.trans (k2.trans c)) S4)
def boot_min:bootBuiltins "min" = some (.builtin "min"):=Q.f
def boot_str:bootBuiltins "str" = some (.type "str"):=Q.f
def amJ{i j:Int}(g:Gx X)(hm:X.mg "min" = none)(hg:Gl X "min")(h:BAv X CL b [e1,e2] δ [.int i,.int j] δ1)(hs:starEach [e1,e2] X.env=(false,eval e1 X.env)::starEach [e2] X.env:=by exact bP rfl)(hpl:(backTo pos (starEach [e2] X.env)).any (·.1)=false:=by rfl) :
   bU X CL b (.Call (.Name "min" pp) [e1,e2] [] pos) δ (.sh (.int (if j<i then j else i))) δ1:=fun H Z σ ts vs Q S k=>
 cE (wL (aeg g.calm) hg hm boot_min paS (he:=hs) (hpl:=hpl)) (h H Z σ ts vs _ S fun us H1 Z1 z1 k1 S1 r=>by
   cases r with
   | cons r1 r=>
     cases r with
     | cons r2 r=>
       cases r;rw[r1.sc rfl,r2.sc rfl];exact⟨i,j,rfl,k _ H1 Z1 z1 k1 (S1.push (.int _))⟩)
def Sj{i:Int}(hm:X.mg "str" = none)(hg:Gl X "str")(h:cL X CL b e δ (.int i) δ1)(hi:i.natAbs.log2<1920)(hs:AC X e []:=by exact bP rfl) :
   bU X CL b (.Call (.Name "str" pp) [e] [] pos) δ (.sh (.str (toString i))) δ1:=fun H Z σ ts vs Q S k=>
 cE (wM RT hg hm boot_str (bW cR dQ hs) (he:=hs)) (h H Z σ ts vs _ S fun v H1 Z1 z1 k1 S1 r=>by
   rw[r.sc rfl];exact⟨i,rfl,hi,k _ H1 Z1 z1 k1 (S1.push (.str _))⟩)
structure Fm(X:Cx)(CL:BA)(x:Str)(k n:Nat){A:Type}(arg:A->Ap)(Pre:A->Prop)(res:A->BN):Prop where
 ex:∃f fd ps,Mk X.K (CL x) f/\oS X.prog X.w X.K X.mg X.base J2 k f fd ps (spI X.K CL x n arg Pre res)/\X.mg x=some (.ref (CL x))/\Binds X.K fd ps []
 room:mw (k+1) X.A
def ahW(N:AT)(y:Addr)(c:Str)(ds:Ap):At:=some (.pin y (.ins c []))::(ds.map (fun d=>some (T.sh d))++List.replicate (N.length-(ds.length+1)) none)
def arc{CL':BA}{arg:BB->Ap}{pre:BB->Prop}{res:BB->T}(ha:∀a,arg a=[.lst (a.map .int)])(hr:∀a,res a=.sh (.bl true))(h0:∀x,acI x=true->CL x=0) :
   ∀(vs:BS) (H:Hp) (Q:VK) (E:XK),spA K CL' 1 arg pre res vs H Q E->spA K CL 1 arg pre res vs H Q E:=by
 rintro vs H Q E ⟨W,a,h1,h2,h3,h4,h5,_,k⟩;have ard:∀{l:BB} {us:BS},aE K CL' W (l.map .int) us->aE K CL W (l.map .int) us:=by
   intro l
   induction l with
   | nil=>intro us r;cases r;exact .nil
   | cons i l ih=>
     intro us r;cases r with
     | cons r t=>cases r;exact .cons (.int i) (ih t)
 refine⟨W,a,h1,h2,?_,h4,h5,fun x hx e=>absurd (h0 x hx) e,fun v H' W' fp a1 a2 a3 a4 a5 r nd own=>k v H' W' fp a1 a2 a3 a4 a5 ?_ nd own⟩
 . rw[ha]at h3 ⊢;cases h3 with
   | cons r t=>
     cases t;cases r with
     | lst q rr=>exact .cons (.lst q (ard rr)) .nil
 . rw[hr]at r ⊢;cases r with
   | sh r=>cases r;exact .sh (.bl _)
section
variable{m:Str}{D:ja}
def mk_{arg:A->Ap}{Pre:A->Prop}{res:A->BN}(a:A)(F:Fm X CL x k n arg Pre res)(hg:Gl X x)(h:BAv X CL b (e::es) δ (arg a) δ1)(hp:Pre a)(hc:T.cz (res a)=true)(hn:(arg a).length+1=n:=by rfl)
   (Qd:AD x:=by decide) (he:AC X e es:=by exact bP rfl) (hpl:AL X pos es:=by rfl) :
   bU X CL b (.Call (.Name x pp) (e::es) [] pos) δ (.ins x (res a)) δ1:=by
 obtain⟨f,fd,ps,M,F1,m,b⟩:=F.ex;exact amI a M F1 F.room m b h hn hp hc hg Qd he hpl
end
def mj{f:Str}{d:α}{fs:List (Str×α)}:((f,d)::fs).lookup f=some d:=by
 rw[aCd,aDe]
def cN{f g:Str}{d:α}{fs:List (Str×α)}(h:(f==g)=false):((g,d)::fs).lookup f=fs.lookup f:=by
 rw[aCd,h]
def nB{f:Str}:wX f t []=[(f,t)]:=rfl
def bJ{f g:Str}{u:T}{fs:BN}(h:¬ g=f):wX f t ((g,u)::fs)=(g,u)::wX f t fs:=by
 rw[wX,aBx h]
def GN{f:Str}{u:T}{fs:BN}:wX f t ((f,u)::fs)=(f,t)::fs:=by
 rw[wX,aBE rfl]
variable{d:L3.D}
theorem Sl(x:Int):∀l:BB,inV (.int x) (l.map V.int)=decide (x∈l)
 | []=>by simp[inV]
 | y::l=>by
   have ih:=Sl x l;unfold inV at ih ⊢;rw[aBK,aCZ,ih];by_cases h:y=x
   . subst h;simp[eqV]
   . have h':¬ x=y:=fun e=>h e.symm;simp[eqV,h,h']
theorem aE.ints{K:Frag}{Z:Hp}:∀{l:BB} {vs:BS},aE K CL Z (l.map D.int) vs->vs=l.map V.int
 | [],_,r=>by
   have r':aE K CL Z [] _:=r;cases r';rfl
 | y::l,_,r=>by
   have r':aE K CL Z (D.int y::l.map D.int) _:=r;cases r' with
   | cons r1 r2=>rw[r1.sc rfl,aE.ints r2];rfl
theorem xR:∀l:BB,(l.map V.int).all Cv=true
 | []=>rfl
 | y::l=>by rw[aBK,aDz,xR l];rfl
def Mm(d:L3.D):Option Ap:=match d with
 | .lst ds=>some ds
 | .tup ds=>some ds
 | _=>none
theorem b7.Mm{ds:Ap}(r:b7 K CL Z d v)(h:L3.Mm d=some ds):∃p us,v=.ref p/\(sX K Z p us\/xJ K Z p us)/\aE K CL Z ds us:=by
 cases r with
 | tup hq rr=>cases h;exact⟨_,_,rfl,.inr hq,rr⟩
 | lst hq rr=>cases h;exact⟨_,_,rfl,.inl hq,rr⟩
 | non=>cases h
 | bl=>cases h
 | int=>cases h
 | str=>cases h
 | any=>cases h
 | val=>cases h
 | mz=>cases h
 | dct=>cases h
 | ins=>cases h
 | Lj=>cases h
def amK{l:BB}{i:Int}(h1:cL X CL b e1 δ (.int i) δ1)(h2:cL X CL b e2 δ1 d δ2)(hd:L3.Mm d=some (l.map .int))(hm:behindInMarks .NotIn e2=false) :
   xO X CL b (.Compare e1 [.NotIn] [e2] pos) δ (!decide (i∈l)) δ2/\bU X CL b (.Compare e1 [.NotIn] [e2] pos) δ (.sh (.bl (!decide (i∈l)))) δ2:=by
 constructor
 . intro H Z σ ts vs Q S k;refine J4 (BD rK cR cR hm) (h1 H Z σ ts vs _ S fun v1 H1 Z1 z1 k1 S1 r1=>h2 H1 Z1 σ ts vs _ S1 fun v2 H2 Z2 z2 k2 S2 r2=>?_);obtain⟨p,us,rfl,hq,rr⟩:=b7.Mm r2 hd;have e:=rr.ints;subst e;refine⟨_,_,rfl,hq,by rw[r1.sc rfl];rfl,xR l,_,rfl,?_⟩;rw[aBE rfl,r1.sc rfl,Sl];exact k H2 Z2 (z1.trans z2) (k1.trans k2) S2
 . intro H Z σ ts vs Q S k;refine cE (By rK cR cR hm) (h1 H Z σ ts vs _ S fun v1 H1 Z1 z1 k1 S1 r1=>h2 H1 Z1 σ ts vs _ S1 fun v2 H2 Z2 z2 k2 S2 r2=>?_);obtain⟨p,us,rfl,hq,rr⟩:=b7.Mm r2 hd;have e:=rr.ints;subst e;refine⟨_,_,rfl,hq,by rw[r1.sc rfl];rfl,xR l,?_⟩;rw[aBE rfl,r1.sc rfl,Sl];exact k _ H2 Z2 (z1.trans z2) (k1.trans k2) (S2.push (.bl _))
def acS(h1:cL X CL b e1 δ (.str x) δ1)(h2:cL X CL b e2 δ1 d δ2)(hd:L3.Mm d=some (l.map .str))(hm:behindInMarks .In e2=false) :
   xO X CL b (.Compare e1 [.In] [e2] pos) δ (decide (x∈l)) δ2/\bU X CL b (.Compare e1 [.In] [e2] pos) δ (.sh (.bl (decide (x∈l)))) δ2:=by
 constructor
 . intro H Z σ ts vs Q S k;refine J4 (BD BE cR cR hm) (h1 H Z σ ts vs _ S fun v1 H1 Z1 z1 k1 S1 r1=>h2 H1 Z1 σ ts vs _ S1 fun v2 H2 Z2 z2 k2 S2 r2=>?_);obtain⟨p,us,rfl,hq,rr⟩:=b7.Mm r2 hd;have e:=rr.strs;subst e;refine⟨_,_,rfl,hq,by rw[r1.sc rfl];rfl,jh l,_,rfl,?_⟩;rw[aBx aBM,r1.sc rfl,xQ];exact k H2 Z2 (z1.trans z2) (k1.trans k2) S2
 . intro H Z σ ts vs Q S k;refine cE (By BE cR cR hm) (h1 H Z σ ts vs _ S fun v1 H1 Z1 z1 k1 S1 r1=>h2 H1 Z1 σ ts vs _ S1 fun v2 H2 Z2 z2 k2 S2 r2=>?_);obtain⟨p,us,rfl,hq,rr⟩:=b7.Mm r2 hd;have e:=rr.strs;subst e;refine⟨_,_,rfl,hq,by rw[r1.sc rfl];rfl,jh l,?_⟩;rw[aBx aBM,r1.sc rfl,xQ];exact k _ H2 Z2 (z1.trans z2) (k1.trans k2) (S2.push (.bl _))
def EC(h1:cL X CL b e1 δ (.str x) δ1)(h2:cL X CL b e2 δ1 d δ2)(hd:L3.Mm d=some (l.map .str))(hm:behindInMarks .NotIn e2=false) :
   xO X CL b (.Compare e1 [.NotIn] [e2] pos) δ (!decide (x∈l)) δ2/\bU X CL b (.Compare e1 [.NotIn] [e2] pos) δ (.sh (.bl (!decide (x∈l)))) δ2:=by
 constructor
 . intro H Z σ ts vs Q S k;refine J4 (BD rK cR cR hm) (h1 H Z σ ts vs _ S fun v1 H1 Z1 z1 k1 S1 r1=>h2 H1 Z1 σ ts vs _ S1 fun v2 H2 Z2 z2 k2 S2 r2=>?_);obtain⟨p,us,rfl,hq,rr⟩:=b7.Mm r2 hd;have e:=rr.strs;subst e;refine⟨_,_,rfl,hq,by rw[r1.sc rfl];rfl,jh l,_,rfl,?_⟩;rw[aBE rfl,r1.sc rfl,xQ];exact k H2 Z2 (z1.trans z2) (k1.trans k2) S2
 . intro H Z σ ts vs Q S k;refine cE (By rK cR cR hm) (h1 H Z σ ts vs _ S fun v1 H1 Z1 z1 k1 S1 r1=>h2 H1 Z1 σ ts vs _ S1 fun v2 H2 Z2 z2 k2 S2 r2=>?_);obtain⟨p,us,rfl,hq,rr⟩:=b7.Mm r2 hd;have e:=rr.strs;subst e;refine⟨_,_,rfl,hq,by rw[r1.sc rfl];rfl,jh l,?_⟩;rw[aBE rfl,r1.sc rfl,xQ];exact k _ H2 Z2 (z1.trans z2) (k1.trans k2) (S2.push (.bl _))
variable{ds:Ap}
def aZ:Vm X CL b [] δ (([]:Ap).map T.sh) δ:=cj
def ao(h1:bU X CL b e δ (.sh d) δ1)(h2:Vm X CL b es δ1 (ds.map T.sh) δ2)(hs:AC X e es:=by exact bP rfl):Vm X CL b (e::es) δ ((d::ds).map T.sh) δ2:=bE h1 h2 hs
def pN(h:Vm X CL b es δ (ds.map T.sh) δ1)(hl:ds.length<=sizeLine):bU X CL b (.List es pos) δ (.lst (ds.map T.sh)) δ1:=dM h (by simpa using hl)
def j6(l:AT):D.bY (l.map L3.D.str)=true:=qc (fun _=>rfl) _
def ED(h:bU X CL b e δ (.lst (ds.map T.sh)) δ1):bU X CL b e δ (.sh (.lst ds)) δ1:=by
 have:=Mi h
 rwa [T.fj,kL]at this
def kM(h:bU X CL b e δ t δ1)(q:t.fj=d):bU X CL b e δ (.sh d) δ1:=q▸Mi h
def Mp{d2:L3.D}(h:cL X CL b e δ d δ1)(q:d=d2):cL X CL b e δ d2 δ1:=q▸h
def aF{t2:T}(h:bU X CL b e δ t δ1)(q:t=t2):bU X CL b e δ t2 δ1:=q▸h
structure Mq(Z H Z' H':Hp):Prop where
 z:aM Z Z'
 h:aM H H'
 zh:aM Z' H'
 new:∀a o,Z' a=some o->Z a=none->H a=none
 tp:∀a o,H' a=some o->xN o=true->Z' a=some o
theorem Mq.refl(zh:aM Z H)(tp:∀a o,H a=some o->xN o=true->Z a=some o):Mq Z H Z H:=⟨.refl _,.refl _,zh,fun a o q z=>(by rw[q]at z;cases z),tp⟩
theorem Mq.tup{p:Addr}(zh:aM Z H)(tp:∀a o,H a=some o->xN o=true->Z a=some o)(hp:H p=none):Mq Z H (upd Z p (.tup xs)) (upd H p (.tup xs)):=by
 have zp:Z p=none:=zh.free hp;refine⟨aM.upd zp,aM.upd hp,fun a o q=>?_,fun a o q z=>?_,fun a o q i=>?_⟩
 . by_cases e:a=p
   . subst e;rw[bA]at q ⊢;exact q
   . rw[aA e]at q ⊢;exact zh a o q
 . by_cases e:a=p
   . subst e;exact hp
   . rw[aA e,z]at q;cases q
 . by_cases e:a=p
   . subst e;rw[bA]at q ⊢;exact q
   . rw[aA e]at q ⊢;exact tp a o q i
theorem cu.grow(S:cu K CL b H Z δ σ ts vs)(g:Mq Z H Z' H'):cu K CL b H' Z' δ σ ts vs:=by
 obtain⟨fp,gp,e,r,nd,k⟩:=S.rep;have old:∀a∈fp++gp,∃o,H a=some o:=fun a ha=>(aBy.mp ha).elim (e.there a) (r.there a);have keep:∀a∈fp++gp,H' a=H a:=fun a ha=>by
   obtain⟨o,q⟩:=old a ha;rw[q];exact g.h a o q
 refine⟨⟨fp,gp,e.mono g.z (fun a ha=>keep a (aBN _ ha)),r.mono g.z (fun a ha=>keep a (aBw _ ha)),nd,fun a ha=>⟨?_,(k a ha).2⟩⟩,S.bh.trans g.h,S.zz.trans g.z,g.zh,fun a o q z=>?_,g.tp,S.tab⟩
 . cases q:Z' a with
   | none=>rfl
   | some o=>
     obtain⟨u,hu⟩:=old a ha;rw[g.new a o q (k a ha).1]at hu;cases hu
 . cases e2:Z a with
   | none=>exact S.bh.free (g.new a o q e2)
   | some u=>
     have:=g.z a u e2;rw[q]at this;cases this;exact S.new a o e2 z
def acT(δ:At):CU->Ap->At
 | i::is,d::ds=>acT (δ.set i (some (.sh d))) is ds
 | _,_=>δ
def Mr(σ:L2.St):CU->BS->L2.St
 | i::is,v::vs=>Mr (σ.set i (some v)) is vs
 | _,_=>σ
theorem cu.sets{ps:Ap}{ys:BS}:∀{is:CU} {δ:At} {σ:L2.St},cu K CL b H Z δ σ ts vs->aE K CL Z ps ys->(∀i∈is,i<δ.length)->cu K CL b H Z (acT δ is ps) (Mr σ is ys) ts vs:=by
 intro is
 induction is generalizing ps ys with
 | nil=>
   intro δ σ S r _;cases ps<;>cases ys<;>exact S
 | cons i is ih=>
   intro δ σ S r hl;cases r with
   | nil=>exact S
   | cons r rr=>exact ih ((S.push r).set (hl i aBr)) rr (fun j hj=>by rw[aCU];exact hl j (aBt _ hj))
section
variable{tg:Expr}{ds:Ap}
structure Sn(X:Cx)(CL:BA)(b:Bx)(δ1:At)(σ:L2.St)(ts:CI)(vs:BS)(Z H:Hp)(ds:Ap)(J:It)(H1:Hp):Prop where
 ex:∃Z1,aM Z Z1/\aM H H1/\cu X.K CL b H1 Z1 δ1 σ ts vs/\(∀i H2,aM Z1 H2->i<ds.length->J.go i H2) ∧
   (∀i Z2 H2 x H',aM Z1 Z2->aM Z2 H2->(∀a o,H2 a=some o->xN o=true->Z2 a=some o)->i<ds.length->J.yld i H2 x H'->∃Z3 d,ds[i]? = some d/\Mq Z2 H2 Z3 H'/\b7 X.K CL Z3 d x)/\(∀H2,aM Z1 H2->J.stop ds.length H2)
def GIt(X:Cx)(CL:BA)(b:Bx)(tg e:Expr)(δ:At)(ds:Ap)(δ1:At):Prop:=
 ∃wi,PI X tg e wi/\∀(H Z:Hp) (σ:L2.St) (ts:CI) (vs:BS) (R:It->Hp->Prop),cu X.K CL b H Z δ σ ts vs->(∀J H1,Sn X CL b δ1 σ ts vs Z H ds J H1->R J H1)->wi σ H R
def ahX(h:TIt X CL b tg iter δ ds δ1):GIt X CL b tg iter δ ds δ1:=by
 obtain⟨wi,pi,hw⟩:=h;refine⟨wi,pi,fun H Z σ ts vs R S k=>hw H Z σ ts vs R S fun J H1 zz=>?_⟩;obtain⟨Z1,us,z1,k1,S1,rr,go,yl,st⟩:=zz;refine k J H1 ⟨Z1,z1,k1,S1,go,fun i Z2 H2 x H' s1 s2 tp hi hy=>?_,st⟩;obtain⟨e,hu⟩:=yl i H2 x H' (s1.trans s2) hi hy;subst e;obtain⟨d,hd,rd⟩:=rr.aeu hu;exact⟨Z2,d,hd,.refl s2 tp,rd.mono s1⟩
def Tgt(X:Cx)(CL:BA)(tg:Expr)(is:CU)(parts:D->Option Ap):Prop:=
 ∃t:TG,PG X tg t/\∀(Z H:Hp) (d:D) (ps:Ap) (x:V) (σ:L2.St) (Q:L2.St->Hp->Prop),aM Z H->b7 X.K CL Z d x->parts d=some ps->(∀ys,aE X.K CL Z ps ys->Q (Mr σ is ys) H)->t x σ H Q
def part1(d:D):Option Ap:=some [d]
def part2:D->Option Ap
 | .tup [a,c]=>some [a,c]
 | _=>none
def aeB{d:D}{ps:Ap}(h:part2 d=some ps):∃d1 d2,d=.tup [d1,d2]/\ps=[d1,d2]:=by
 unfold part2 at h;split at h
 . cases h;exact⟨_,_,rfl,rfl⟩
 . cases h
theorem Ze{d:D}{ps:Ap}{x:V}{Q:L2.St->Hp->Prop}(zh:aM Z H)(r:b7 K CL Z d x)(e:part2 d=some ps)(k:∀ys,aE K CL Z ps ys->Q (Mr σ [i,j] ys) H):aqf K 2 (Va (Jb i) (Va (Jb j) aqe)) x σ H Q:=by
 obtain⟨d1,d2,rfl,rfl⟩:=aeB e;cases r with
 | tup hq rr=>
   cases rr with
   | cons r1 rr=>
     cases rr with
     | cons r2 rr=>
       cases rr;exact⟨_,_,rfl,aM.YF zh hq,rfl,_,_,rfl,_,_,rfl,rfl,k _ (.cons r1 (.cons r2 .nil))⟩
def ahY{px:Pos}(hN:X.N.Nodup)(n:Ln X i x):Tgt X CL (.Name x px) [i] part1:=
 ⟨Jb i,Er hN n.hi n.loc n.hf,fun Z H d ps x σ Q zh r e k=>by
   cases e;exact k [x] (.cons r .nil)⟩
def uK{y:Str}{px py pt:Pos}(hN:X.N.Nodup)(hc:X.calm=true)(n:Ln X i x)(m:Ln X j y)(hs:(assignEach [.Name x px,.Name y py] X.env).map (·.2)=assign (.Name x px) X.env::(assignEach [.Name y py] X.env).map (·.2):=by rfl)(zF:(assignEach [.Name y py] X.env).map (·.2)=assign (.Name y py) X.env::(assignEach [] X.env).map (·.2):=by rfl)
   (hn:(assignEach [.Name x px,.Name y py] X.env).length=2:=by rfl) (YM:(assignEach [.Name x px,.Name y py] X.env).findIdx? (·.1)=none:=by rfl):Tgt X CL (.Tuple [.Name x px,.Name y py] k pt) [i,j] part2:=
 ⟨aqf X.K 2 (Va (Jb i) (Va (Jb j) aqe)),aqg hc (Vb (Er hN n.hi n.loc n.hf) (Vb (Er hN m.hi m.loc m.hf) al6 zF) hs) hn YM,fun Z H d ps x σ Q zh r e k=>Ze zh r e k⟩
def amM{D:ja}(is:CU)(parts:L3.D->Option Ap)(P:Nat->At->Prop)(h:GIt X CL b tg iter δ ds δ1)(ht:Tgt X CL tg is parts)(h0:P 0 δ1)(hl:∀j δ,P j δ->∀i∈is,i<δ.length)
   (hs:∀j d δ,ds[j]? = some d->P j δ->∃ps,parts d=some ps/\gw X CL b jM (acT δ is ps) {nx:=P (j+1),rt:=D.rt,bk:=D.nx,ct:=P (j+1)}) (hd:∀δ,P ds.length δ->D.nx δ)
   (hp:PassesOwn Q.d X.A X.env X.xe) (hc:X.calm=true) (hq:AN X iter:=by intro _;rfl) :
   TSv X CL b (.For tg iter jM [] pos) δ D:=fun H Z σ ts vs E S M=>by
 obtain⟨wi,pi,hw⟩:=h;obtain⟨t,pg,ht⟩:=ht;refine C5 (ahb hp hc pi pg pbS hq) (hw H Z σ ts vs _ S fun J H1 zz=>?_);obtain⟨Z1,z1,k1,S1,go,yl,st⟩:=zz;refine⟨fun j m σ H2=>m=ds.length-j/\j<=ds.length/\∃Z2 δ2,aM Z1 Z2/\cu X.K CL b H2 Z2 δ2 σ ts vs/\P j δ2,⟨_,rfl,aB0 _,Z1,δ1,.refl _,S1,h0⟩,?_⟩;rintro j m σ H2 ⟨rfl,hj,Z2,δ2,s,S2,p2⟩;by_cases U1:j<ds.length
 . refine .inr ⟨go j H2 (s.trans S2.zh) U1,fun σ' H'=>∃Z2 δ2,aM Z1 Z2/\cu X.K CL b H' Z2 δ2 σ' ts vs/\P (j+1) δ2,fun σ' H' h=>⟨ds.length-(j+1),We,rfl,U1,h⟩,fun y H' hy=>?_⟩;obtain⟨Z3,d,hd',gr,rd⟩:=yl j Z2 H2 y H' s S2.zh S2.tp U1 hy;obtain⟨ps,hps,hb⟩:=hs j d δ2 hd' p2;have S3:=S2.grow gr;refine ht Z3 H' d ps y σ _ S3.zh rd hps fun ys rys=>?_;have S4:=S3.sets (is:=is) rys (hl j δ2 p2);have s3:=s.trans gr.z;exact hb _ Z3 _ ts vs _ S4 ⟨fun δ' σ' H' Z' s' S' k=>⟨Z',δ',s3.trans s',S',k⟩,fun t v H' Z' δ' σ' s' S' k=>M.rt t v H' Z' δ' σ' (z1.trans (s3.trans s')) S' k,fun δ' σ' H' Z' s' S' k=>M.nx δ' σ' H' Z' (z1.trans (s3.trans s')) S' k,fun δ' σ' H' Z' s' S' k=>⟨Z',δ',s3.trans s',S',k⟩⟩
 . have e:j=ds.length:=by omega
   subst e;exact .inl ⟨st H2 (s.trans S2.zh),M.nx δ2 σ H2 Z2 (z1.trans s) S2 (hd δ2 p2)⟩
def Dd{D:ja}{is:CU}{parts:L3.D->Option Ap}(g:Gx X)(ht:Tgt X CL tg is parts)(P:Nat->At->Prop)(h:GIt X CL b tg iter δ ds δ1)(h0:P 0 δ1)(hl:∀j δ,P j δ->∀i∈is,i<δ.length)
   (hs:∀j d δ,ds[j]? = some d->P j δ->∃ps,parts d=some ps/\gw X CL b body (acT δ is ps) {nx:=P (j+1),rt:=D.rt,bk:=fun δ2=>gw X CL b jM δ2 D,ct:=P (j+1)}) (hd:∀δ,P ds.length δ->gw X CL b jM δ D) (hq:AN X iter:=by intro _;rfl) :
   gw X CL b (.For tg iter body [] pos::jM) δ D:=
 eK (amM (D:={D with nx:=fun δ1=>gw X CL b jM δ1 D}) is parts P h ht h0 hl hs hd g.xe g.calm hq)
end
structure xS(X:Cx)(scope:Scope)(xs:AT)(Nc:AT)(ix:CU):Prop where
 kind:scope.kind=.function
 Sd:∀y∈scope.names,y.2 ≠ .cell
 nd:Nc.Nodup
 names:∀y∈scope.names,y.2=.local->scope.names.lookup y.1=some .local
 own:∀x∈xs,scope.names.lookup x=some .local
 frees:∀y∈scope.names,y.2=.free->scope.names.lookup y.1=some .free/\(X.env.kindOf y.1=some .cell\/X.env.kindOf y.1=some .free)
 hd:Nc=xs++ix.filterMap (X.N[·]?)
 ixs:∀i∈ix,∃y,X.N[i]? = some y/\scope.names.lookup y=some .free
def gSt(σ:L2.St)(ix:CU)(os:List (Option V)):L2.St:=os++ix.map fun i=>(σ[i]?).getD none
variable{xs:AT}
def Vz(sc:xS X scope xs Nc ix)(I:Q.e)(BG:∀b∈fp,JY X pins H b/\b<s.heap.objs.size){h':Heap}{m:B0}{tk:Nat}
   (hn:h'.Ns s.heap.objs.size m) (hk:∀b o,s.heap.get? b=some o->h'.get? b=some o) :
   Inv (dB X scope Nc s.heap.objs.size s H fp) [] (gSt σ ix (List.replicate xs.length none)) H {s with heap:=h',toks:=tk}:=by
 have frees:∀y∈scope.names,y.2=.free->∃c,X.env.cells.lookup y.1=some c:=fun y hy e=>I.ok.has y.1 (sc.frees y hy e).2;have sub:∀{y:Str} {c:Addr},(nq X.env scope.names []).lookup y=some c->X.env.cells.lookup y=some c:=fun {y c} e=>C8 frees (fun _ _ z=>by cases z) e;have hlen:(gSt σ ix (List.replicate xs.length none)).length=Nc.length:=by
   have all:∀l:CU,(∀i∈l,∃y,X.N[i]? = some y/\scope.names.lookup y=some .free)->(l.filterMap (X.N[·]?)).length=l.length:=by
     intro l
     induction l with
     | nil=>intro _;rfl
     | cons i r ih=>
       intro h;obtain⟨y,e,_⟩:=h i aBr;rw[aCS,e];show _+1=_+1;rw[ih fun j hj=>h j (aBt _ hj)]
   unfold gSt;rw[sc.hd,aBz,aBz,aBp,aCD,all ix sc.ixs]
 have C0:s.heap.get? s.heap.objs.size=none:=Heap.get?_none_of_le (aBD _);refine⟨⟨I.ok.mod,sc.kind,I.ok.glob,I.ok.blt,aBD _,fun y z c h1 h2=>I.ok.inj y z c (sub h1) (sub h2),fun y hy=>?_,fun y c hf _=>(by cases (show false=true from hf)),I.ok.hd,I.ok.frames,.inl rfl,fun b hb=>⟨aCq (BG b hb).2,fun y c e=>(BG b hb).1.2.2.2.2.1 y c (sub e)⟩,I.bs,aCa I.ok.bsz I.sz,fun b o e hb=>?_,fun b hb hf=>?_,I.stack,I.acm⟩,
   rfl,I.bare,Un.kept hk,⟨m,hn,fun i y v h1 h2 h3=>?_⟩,fun y c e=>?_,I.dI.fresh (aBD _),fun y c e=>I.Ct y c (sub e),fun p hp=>absurd (show p∈([]:BC) from hp) Uf,I.dI.kept hk,hlen⟩
 .
   have hy':(relabel scope X.env).names.lookup y=some .cell\/(relabel scope X.env).names.lookup y=some .free:=hy;cases e:scope.names.lookup y with
   | none=>
     have:=rH (env:=X.env) e;rcases hy' with q|q<;>(rw[show(relabel scope X.env).names.lookup y=none from this]at q;cases q)
   | some k=>
     have q:=j3 (env:=X.env) e;have hk:k=.free:=by
       by_cases hk:k=.free
       . exact hk
       . have hb:(k==NameKind.free)=false:=by simpa using hk
         rw[aBx (by rw[hb];simp)]at q;have nc:k ≠ .cell:=fun z=>by
           subst z;exact sc.Sd _ (aC3 e) rfl
         rcases hy' with z|z
         . rw[show(relabel scope X.env).names.lookup y=some k from q]at z;exact absurd (aBX z) nc
         . rw[show(relabel scope X.env).names.lookup y=some k from q]at z;exact absurd (aBX z) hk
     subst hk;exact C9 e
 .
   rcases(BG b hb).1.2.2.2.1 with z|z
   . exact I.ok.ag6 b o e z
   . exact absurd (aCn (aB1 e) (aCa I.ok.bsz z)) (aDO _)
 . rcases aBq.mp (I.RN b hf) with z|z
   . exact(BG b hb).1.2.1 z
   . exact(BG b hb).1.2.2.1 z
 .
   unfold gSt at h2;by_cases hi:i<xs.length
   . rw[aDq (by rw[aCD];exact hi),List.getElem?_replicate,aBE hi]at h2;cases h2
   . obtain⟨n,rfl⟩:∃n,i=xs.length+n:=⟨i-xs.length,We⟩;rw[aCA (by rw[aCD];omega),aCD,aD7,aBR]at h2;cases ei:ix[n]? with
     | none=>rw[ei]at h2;cases h2
     | some j=>
       rw[ei]at h2;have h2':(σ[j]?).getD none=some v:=aBX h2;have hj:σ[j]? = some (some v):=by
         cases q:σ[j]? with
         | none=>rw[q]at h2';cases h2'
         | some o=>rw[q]at h2';exact congrArg some h2'
       obtain⟨y',hy1,hy2⟩:=sc.ixs j (aBQ ei);have hNc:Nc[xs.length+n]? = some y':=by
         have all:∀(l:CU) (i:Nat),(∀j∈l,∃y,X.N[j]? = some y/\scope.names.lookup y=some .free)->l[i]? = some j->(l.filterMap (X.N[·]?))[i]? = some y':=by
           intro l
           induction l with
           | nil=>intro i _ h;simp at h
           | cons a r ih=>
             intro i h hi;obtain⟨ya,ea,_⟩:=h a aBr;rw[aCS,ea];cases i with
             | zero=>
               simp at hi;subst hi;rw[hy1]at ea;cases ea;rfl
             | succ i=>exact ih i (fun j hj=>h j (List.mem_cons_of_mem _ hj)) (by simpa using hi)
         rw[sc.hd,aCA Q.a,aD7];exact all ix n sc.ixs ei
       have ey:y'=y:=by
         have h1':Nc[xs.length+n]? = some y:=h1;rw[hNc]at h1';exact aBX h1'
       subst ey;have acz:=(sc.frees (y',.free) (aC3 hy2) rfl).2;have aw9:Vis X.env.scope y':=acz.elim (fun z=>.inr (.inl z)) (fun z=>.inr (.inr z));obtain⟨m0,hn0,hl0⟩:=I.loc;obtain⟨u,ru,lk⟩:=hl0 j y' v hy1 hj aw9;refine⟨u,ru,?_⟩;rcases lk with⟨kk,_⟩|⟨_,c,hc,Ja⟩
       . rcases acz with z|z
         . rw[kk]at z;cases z
         . rw[kk]at z;cases z
       . obtain⟨c',hc'⟩:=C9 (env:=X.env) (cs:=[]) hy2;have:c'=c:=by
           have:=sub hc';rw[hc]at this;exact(aBX this).symm
         subst this;obtain⟨o,ho,hd⟩:=Ja;refine .inr ⟨?_,c',hc',o,hk _ _ ho,hd⟩;have q:=j3 (env:=X.env) hy2;show(relabel scope X.env).names.lookup y'=some .cell\/(relabel scope X.env).names.lookup y'=some .free;rw[show(relabel scope X.env).names.lookup y'=_ from q];split
         . exact .inl rfl
         . exact .inr rfl
 . obtain⟨v,o,ho,hd⟩:=I.cell y c (sub e);exact⟨v,o,hk _ _ ho,hd⟩
def ahZ(X:Cx)(tg elt:Expr)(ifs:CA)(n:Nat)(σ:L2.St)(ix:CU)(D:Addr)(N:Hp->Prop)(xv:V)(os:List (Option V))(H3:Hp):Prop:=
 ∃t:TG,PG X tg t/\t xv (gSt σ ix os) H3 fun σ8 H4=>∃os',os'.length=n/\σ8=gSt σ ix os'/\aq1 X ifs σ8 H4 fun ok H5=>
   if ok=true then Za X elt σ8 H5 fun y H6=>∃acc,H6 D=some (.lst acc)/\acc.length<sizeLine/\N (upd H6 D (.lst (acc++[y]))) else N H5
variable{tg:Expr}
def Zf{J:It}{it:Addr}{tn:Nat->Heap->Prop}{G:Addr->Hp->Prop}{RR:Value->Addr->Result->Shared->Prop}{E:BM}
   (sc:xS X scope xs Nc ix) (hc:X.calm=true) (I:Q.e) (Tn:Turn X.prog X.w X.K tg J fp it tn) (st:tn 0 s.heap) (hf:∀b∈fp,JY X pins H b)
   (loop:∀D,H D=none->∃W:Nat->Nat->Hp->Prop,(∃m,W 0 m (upd H D (.lst [])))/\∀i m H2,W i m H2->(J.stop i H2/\G D H2) ∨
     (J.go i H2/\∃N:Hp->Prop,(∀H',N H'->∃m',m'<m/\W (i+1) m' H')/\∀xv H3,J.yld i H2 xv H3->∀C s0 H0 f0 os,os.length=xs.length->ahZ (dB X scope Nc C s0 H0 f0) tg elt ifs xs.length σ ix D N xv os H3))
   (hRR:∀D C s' H',(∃m,s'.heap.Ns C m)->(∃o,s'.heap.get? C=some o/\∀v,o.data ≠ .cell v)->H' C=none->(C≠X.env.locals/\C∉X.fs/\X.s₀.heap.objs.size<=C/\(∀y c,X.env.cells.lookup y=some c->c≠C)/\∀q∈X.pn++pins,q.1≠C)->(∀h',Heap.SameBut C s'.heap h'->Inv X pins σ H' {s' with heap:=h'})->G D H'->RR (.ref D) C (.ok .next) s') :
   wpAny Q.d X.A (newList []) (fun acc s₃=>wpAny Q.d X.A (newFunctionEnv scope X.env.globals (nq X.env scope.names []) [] X.env.qual none .none (some X.env)) (fun ah0 s₄=>
     codeAny Q.d X.A (.compStart (.ListComp elt [⟨tg,iter,ifs,0⟩] scope pos) 0 (.ref it) acc {ah0 with scope:=relabel scope X.env}) (RR acc ah0.locals) s₄) E s₃) E s:=by
 refine aDD ?_;have I3:Inv X pins σ (upd H s.heap.objs.size (.lst [])) {s with heap:=s.heap.push {cls:=.type "list",dict:=none,data:=.seq ([]:BY).toArray}}:=
   I.laid (t':=s.toks) (fun b u e=>aBU _ e) (aBD _) ⟨by show 0<=sizeLine;exact aB0 _,[],0,.nil,aCh _ rfl⟩
 have hD:H s.heap.objs.size=none:=I.dI.fresh (aBD _);obtain⟨W,⟨m0,w0⟩,turn⟩:=loop _ hD;have ah1:∀b∈fp,JY X pins (upd H s.heap.objs.size (.lst [])) b/\b<(s.heap.push {cls:=.type "list",dict:=none,data:=.seq ([]:BY).toArray}).objs.size:=fun b hb=>by
   obtain⟨f0,f1⟩:=hf b hb;obtain⟨o,ho,_⟩:=Tn.obj 0 _ st b hb;have U1:=aB1 ho;refine⟨⟨by rw[aA (aCq U1)];exact f0,f1⟩,?_⟩;rw[Heap.size_push];exact Nat.lt_succ_of_lt U1
 have st3:tn 0 (s.heap.push {cls:=.type "list",dict:=none,data:=.seq ([]:BY).toArray}):=Tn.keep 0 _ _ st fun b _ o e=>aBU _ e;generalize hs3:({s with heap:=s.heap.push {cls:=.type "list",dict:=none,data:=.seq ([]:BY).toArray}}:Shared)=s3 at I3 ⊢;have hh3:s3.heap=s.heap.push {cls:=.type "list",dict:=none,data:=.seq ([]:BY).toArray}:=by rw[← hs3]
 rw[← hh3]at ah1 st3;refine wpAny_newFunctionEnv sc.Sd (by intro y hy;simp at hy) (fun h₁ arh ari=>?_) sc.kind;have old:∀b o,s3.heap.get? b=some o->h₁.get? b=some o:=fun b o e=>(ari.2 b (aCq (aB1 e))).trans (aBU _ e);have J0:=Vz (tk:=s3.toks+([]:Co).length) sc I3 ah1 arh old;have st4:tn 0 h₁:=Tn.keep 0 _ _ st3 fun b _ o e=>old b o e;have ao3:∀s4:Shared,s4={s3 with heap:=h₁,toks:=s3.toks+([]:Co).length}->codeAny Q.d X.A (.compLoop (.ListComp elt [⟨tg,iter,ifs,0⟩] scope pos) 0 (.ref it) (.ref s.heap.objs.size) (compEnvC scope (nq X.env scope.names []) s3.heap.objs.size X.env)) (RR (.ref s.heap.objs.size) s3.heap.objs.size) s4:=by
   rintro s4 rfl;have stat:∀{H':Hp},(∀b∈fp,H' b=none)->∀b∈fp,JY (dB X scope Nc s3.heap.objs.size s3 (upd H s.heap.objs.size (.lst [])) fp) [] H' b:=fun {H'} hn b hb=>by
     obtain⟨⟨f0,f1,f2,f3,f4,f5⟩,U1⟩:=ah1 b hb;refine⟨hn b hb,aCq U1,fun z=>?_,.inl hb,fun y c e=>f4 y c (C8 (fun y hy e=>I.ok.has y.1 (sc.frees y hy e).2) (fun _ _ z=>by cases z) e),fun p hp=>absurd (show p∈([]:BC) from hp) Uf⟩;rcases aBq.mp (I3.RN b z) with q|q
     . exact f1 q
     . exact f2 q
   refine Sb (fun n s'=>∃i o H',o.length=xs.length/\Inv (dB X scope Nc s3.heap.objs.size s3 (upd H s.heap.objs.size (.lst [])) fp) [] (gSt σ ix o) H' s'/\tn i s'.heap/\(∀b∈fp,H' b=none)/\W i n H') ?_ m0 ⟨0,_,_,aCD,J0,st4,fun b hb=>(ah1 b hb).1.1,w0⟩;rintro n s5 ⟨i,o5,H5,ol5,I5,st5,fr5,w5⟩;rcases turn i n H5 w5 with⟨stop,g⟩|⟨go,N,hN,step⟩
   . refine eZ (Tn.done (dB X scope Nc s3.heap.objs.size s3 (upd H s.heap.objs.size (.lst [])) fp) rfl rfl rfl hc i [] s5 _ H5 _ I5 (stat fr5) st5 stop) fun r s6 zz=>?_;obtain⟨hr,I6⟩:=zz;subst hr;obtain⟨m6,hn6,_⟩:=I6.loc;obtain⟨oc,esc,epc,hoc,hdc,_⟩:=id hn6;have fpC:=I3.JZ (aBD s3.heap.objs.size) (H':=fun _=>none) rfl;refine hRR _ _ s6 H5 ⟨m6,hn6⟩ ⟨oc,hoc,fun v z=>by rw[hdc]at z;cases z⟩ I6.free ⟨fpC.2.1,fpC.2.2.1,?_,fpC.2.2.2.2.1,fpC.2.2.2.2.2⟩ (fun h' hs'=>aew I3 (fun b hb=>(ah1 b hb).1) I6 hs') g;exact I3.sz
   . refine eZ (Tn.item (dB X scope Nc s3.heap.objs.size s3 (upd H s.heap.objs.size (.lst [])) fp) rfl rfl rfl hc i [] s5 _ H5 _ I5 (stat fr5) st5 go) fun r s6 zz=>?_;obtain⟨u,hr,h6⟩:=zz;subst hr;refine eZ h6 fun _ s7 zz=>?_;obtain⟨xv,H7,I7,r7,y7,st7,fr7⟩:=zz;have I7':=I7.pinned (stat fr7) (Tn.obj _ _ st7);obtain⟨t,hg,ht⟩:=step xv _ y7 s3.heap.objs.size s3 (upd H s.heap.objs.size (.lst [])) fp o5 ol5;refine eZ (hg _ s7 _ H7 xv u _ I7' r7 ht) fun _ s8 zz=>?_;obtain⟨σ8,H8,I8,os8,ol8,e8,h8⟩:=zz;subst e8;refine eZ (ahM I8 h8 rfl) fun ok s9 zz=>?_;obtain⟨H9,I9,q9⟩:=zz;have again:∀{Ha:Hp} {sa:Shared},Inv (dB X scope Nc s3.heap.objs.size s3 (upd H s.heap.objs.size (.lst [])) fp) ([]++L5 fp s7.heap) (gSt σ ix os8) Ha sa->N Ha->∃m,m<n/\∃i o H',o.length=xs.length/\Inv (dB X scope Nc s3.heap.objs.size s3 (upd H s.heap.objs.size (.lst [])) fp) [] (gSt σ ix o) H' sa/\tn i sa.heap/\(∀b∈fp,H' b=none)/\W i m H':=fun {Ha sa} Ia na=>by
       obtain⟨m',hm,wa⟩:=hN Ha na;refine⟨m',hm,i+1,os8,Ha,ol8,Ia.Es,Tn.keep _ _ _ st7 fun b hb o e=>(Ia.pin (b,o) (aBw _ (aBw _ (xK hb e)))).1,fun b hb=>?_,wa⟩;obtain⟨o,e,d⟩:=Tn.obj _ _ st7 b hb;exact(Ia.pin (b,o) (aBw _ (aBw _ (xK hb e)))).2.1
     cases ok with
     | false=>
       rw[aBx aBM]at q9 ⊢;exact again I9 q9
     | true=>
       rw[aBE rfl]at q9 ⊢;refine eZ (q9 _ s9 I9) fun v sa zz=>?_;obtain⟨y,Ha,Ia,ra,acc,axc,hlen,na⟩:=zz;refine eZ (BF (X:=dB X scope Nc s3.heap.objs.size s3 (upd H s.heap.objs.size (.lst [])) fp) _ sa _ Ha (.ref s.heap.objs.size) [y] (.ref s.heap.objs.size) [v] (fun _ Hb=>Hb=upd Ha s.heap.objs.size (.lst (acc++[y]))) Ia rfl (.cons ra .nil) ⟨_,acc,y,rfl,rfl,axc,hlen,rfl⟩) fun _ sb zz=>?_;obtain⟨_,Hb,Ib,_,eb⟩:=zz;subst eb;exact again Ib na
 exact codeAny_compStart_list (ao3 _ rfl) (Tn.self _ 0 _ _ _ st4 (ao3 _ rfl))
def aeD(ps:Ap):At:=ps.map fun p=>some (.sh p)
theorem QV:∀{ys:BS} {os:List (Option V)} {pre r:L2.St},os.length=ys.length->Mr (pre++(os++r)) (List.range' pre.length ys.length) ys=pre++(ys.map some++r)
 | [],os,pre,r,h=>by
   have:os=[]:=List.length_eq_zero_iff.mp h;subst this;rfl
 | y::ys,os,pre,r,h=>by
   match os,h with
   | o::os,h=>
     show Mr ((pre++(o::(os++r))).set pre.length (some y)) (List.range' (pre.length+1) ys.length) ys=_;rw[List.set_append_right _ _ (aBD _),aDl,List.set_cons_zero];have:=QV (ys:=ys) (os:=os) (pre:=pre++[some y]) (r:=r) (by simpa using h);simp only[aBz,aBP,List.length_nil,aBA,List.singleton_append]at this;rw[this];simp
def amO:∀{ps:Ap} {ys:BS} {δc:At} {σc:L2.St},aE K CL Z ps ys->jY K CL H Z δc σc []->jY K CL H Z (aeD ps++δc) (ys.map some++σc) []:=fun {ps ys δc σc} h e=>
 aE.ind (P:=fun ps ys=>jY K CL H Z (aeD ps++δc) (ys.map some++σc) []) e (fun r _ i=>.cons (fp:=[]) (gp:=[]) (.sh r) i) h
section
variable{W1:Hp}{δc:At}{J:It}{ds:Ap}{p:D->Bool}{g:D->T}{parts:D->Option Ap}
def GO(X:Cx)(CL:BA)(scope:Scope)(Nc:AT)(n:Nat)(tg:Expr)(parts:D->Option Ap)(ifs:CA)(elt:Expr)(δc:At)(ds:Ap)(p:D->Bool)(g:D->T):Prop:=
 ∀C s0 H0 f0 b',Tgt (dB X scope Nc C s0 H0 f0) CL tg (List.range' 0 n) parts/\∀d,d∈ds->∃ps,parts d=some ps/\ps.length=n/\TIv (dB X scope Nc C s0 H0 f0) CL b' ifs (aeD ps++δc) (p d)/\(p d=true->bU (dB X scope Nc C s0 H0 f0) CL b' elt (aeD ps++δc) (g d) (aeD ps++δc))
structure GW(K:Frag)(CL:BA)(H W1:Hp)(D:Addr)(l:CI)(k:Nat)(H2 Z2:Hp)(YH:BS)(fp:BT):Prop where
 a1:aM H H2
 a2:aM W1 Z2
 a3:aM Z2 H2
 a4:Z2 D=none
 a5:∀a o,Z2 a=some o->W1 a=none->H a=none
 a6:∀a o,H2 a=some o->xN o=true->Z2 a=some o
 a7:H2 D=some (.lst YH)
 a8:bw K CL H2 Z2 l YH fp
 a9:fp.Nodup
 b1:D∉fp
 b2:∀a∈fp,Z2 a=none/\H a=none
 b3:YH.length<=k
def Ms(S:cu X.K CL b H Z δ σ ts vs)(zw:aM Z W1)(wh:aM W1 H)(tp:∀a o,H a=some o->xN o=true->W1 a=some o)
   (cap:∀H',jY X.K CL H' W1 δc (ix.map fun i=>(σ[i]?).getD none) []) (inner:GO X CL scope Nc n tg parts ifs elt δc ds p g)
   (hgo:∀i H2,aM W1 H2->i<ds.length->J.go i H2)
   (hy:∀i Z2 H2 x H',aM W1 Z2->aM Z2 H2->(∀a o,H2 a=some o->xN o=true->Z2 a=some o)->i<ds.length->J.yld i H2 x H'->∃Z3 d,ds[i]? = some d/\Mq Z2 H2 Z3 H'/\b7 X.K CL Z3 d x)
   (YM:∀H2,aM W1 H2->J.stop ds.length H2) (hlen:ds.length<=sizeLine) (c:W1=Z\/∀d∈ds,(g d).clean=true) :
   ∀D,H D=none->∃W:Nat->Nat->Hp->Prop,(∃m,W 0 m (upd H D (.lst [])))/\∀i m H2,W i m H2->(J.stop i H2/\∃Z2,aM Z Z2/\aM H H2/\cu X.K CL b H2 Z2 δ σ (.lst ((ds.filter p).map g)::ts) (.ref D::vs)) ∨
     (J.go i H2/\∃N:Hp->Prop,(∀H',N H'->∃m',m'<m/\W (i+1) m' H')/\∀xv H3,J.yld i H2 xv H3->∀C s0 H0 f0 os,os.length=n->ahZ (dB X scope Nc C s0 H0 f0) tg elt ifs n σ ix D N xv os H3):=by
 intro D hD;have wD:W1 D=none:=wh.free hD;refine⟨fun i m H2=>m=ds.length-i/\i<=ds.length/\∃Z2 YH fp,GW X.K CL H W1 D (((ds.take i).filter p).map g) i H2 Z2 YH fp,⟨ds.length,rfl,aB0 _,W1,[],[],aM.upd hD,.refl _,wh.trans (aM.upd hD),wD,fun a o q z=>?_,fun a o q i=>?_,bA,.nil,aD6,Uf,Uf,Uf⟩,?_⟩
 . rw[q]at z;cases z
 . by_cases ha:a=D
   . subst ha;rw[bA]at q;cases q;cases i
   . rw[aA ha]at q;exact tp a o q i
 . rintro i m H2 ⟨rfl,hi,Z2,YH,fp,hh,wz,zh,zD,nw,tp2,hD2,ra,nd,nD,own,hav⟩;by_cases U1:i<ds.length
   . refine .inr ⟨hgo i H2 (wz.trans zh) U1,fun H'=>∃Z2 YH fp,GW X.K CL H W1 D (((ds.take (i+1)).filter p).map g) (i+1) H' Z2 YH fp,fun H' h=>⟨ds.length-(i+1),We,rfl,U1,h⟩,fun xv H3 y C s0 H0 f0 os hos=>?_⟩;obtain⟨Z3,d,hd,gr,rd⟩:=hy i Z2 H2 xv H3 wz zh tp2 U1 y;have arj:∀a,Z2 a=none->(∃o,H2 a=some o)->Z3 a=none:=fun a e ⟨o,e2⟩=>by
       cases q:Z3 a with
       | none=>rfl
       | some u=>rw[gr.new a u q e]at e2;cases e2
     have nw3:∀a o,Z3 a=some o->W1 a=none->H a=none:=fun a o q z=>by
       cases e:Z2 a with
       | none=>exact hh.free (gr.new a o q e)
       | some u=>
         have:=gr.z a u e;rw[q]at this;cases this;exact nw a o e z
     have ra3:bw X.K CL H3 Z3 (((ds.take i).filter p).map g) YH fp:=ra.mono gr.z fun a ha=>by
       obtain⟨o,e⟩:=ra.there a ha;rw[e];exact gr.h a o e
     have ow3:∀a∈fp,Z3 a=none/\H a=none:=fun a ha=>⟨arj a (own a ha).1 (ra.there a ha),(own a ha).2⟩;have zD3:Z3 D=none:=arj D zD ⟨_,hD2⟩;have hD3:H3 D=some (.lst YH):=gr.h D _ hD2;have hh3:=hh.trans gr.h;have wz3:=wz.trans gr.z;have zh3:=gr.zh;have tp3:=gr.tp;clear own nw ra zD hD2 hh wz zh tp2 gr arj;have aeE:d∈ds:=aBQ hd;have htk:ds.take (i+1)=ds.take i++[d]:=by rw[aCH,hd];rfl
     obtain⟨tgt,inn⟩:=inner C s0 H0 f0 ⟨H3,Z3⟩;obtain⟨ps,hps,hpl,it,ie⟩:=inn d aeE;obtain⟨t,pg,ht⟩:=tgt;refine⟨t,pg,ht Z3 H3 d ps xv _ _ zh3 rd hps fun ys rys=>?_⟩;have hyl:ys.length=n:=by rw[← rys.length];exact hpl
     have es:Mr (gSt σ ix os) (List.range' 0 n) ys=gSt σ ix (ys.map some):=by
       have:=QV (ys:=ys) (os:=os) (pre:=[]) (r:=ix.map fun i=>(σ[i]?).getD none) (by rw[hos,hyl]);rw[hyl]at this;exact this
     refine⟨ys.map some,by rw[aBp];exact hyl,es,?_⟩;rw[es];have S0:cu X.K CL ⟨H3,Z3⟩ H3 Z3 (aeD ps++δc) (gSt σ ix (ys.map some)) [] []:=
       ⟨⟨[],[],amO rys ((cap H3).mono wz3 fun a ha=>by cases ha),.nil,aD6,fun a ha=>by cases ha⟩,.refl _,.refl _,zh3,fun a o q z=>(by have z':Z3 a=none:=z;rw[show Z3 a=some o from q]at z';cases z'),tp3,(S.aqR.mono zw).mono wz3⟩
     refine it.sem S0 fun H4 Z4 z4 k4 S4=>?_;have axg:∀a∈fp,H4 a=H3 a:=fun a ha=>by
       obtain⟨o,e⟩:=ra3.there a ha;rw[e];exact k4 a o e
     have ah2:∀a,Z3 a=none->(∃o,H3 a=some o)->Z4 a=none:=fun a e ⟨o,e2⟩=>by
       cases q:Z4 a with
       | none=>rfl
       | some u=>
         have:=S4.new a u q e;rw[show H3 a=none from this]at e2;cases e2
     cases hp:p d with
     | false=>
       refine Y7 ⟨Z4,YH,fp,hh3.trans k4,wz3.trans z4,S4.zh,ah2 D zD3 ⟨_,hD3⟩,fun a o q z=>?_,S4.tp,k4 D _ hD3,?_,nd,nD,fun a ha=>⟨ah2 a (ow3 a ha).1 (ra3.there a ha),(ow3 a ha).2⟩,We⟩
       . cases e:Z3 a with
         | none=>exact hh3.free (S4.new a o q e)
         | some u=>
           have:=z4 a u e;rw[q]at this;cases this;exact nw3 a o e z
       . rw[htk,aCM,aD8 (by simp[hp]),List.filter_nil,aBW];exact ra3.mono z4 axg
     | true=>
       refine Y8 ((ie hp) H4 Z4 (gSt σ ix (ys.map some)) [] [] _ S4 fun yv H5 Z5 z5 k5 S5=>⟨YH,k5 D _ (k4 D _ hD3),We,?_⟩);obtain⟨f1,g1,e1,r1,nd1,aua⟩:=S5.rep;cases r1 with
       | @cons _ _ _ _ fy fn ry rn=>
         cases rn;rw[aBW]at nd1 aua;have ndy:fy.Nodup:=(aCw.mp nd1).2.1;have amP:∀a∈fy,Z5 a=none/\H3 a=none:=fun a ha=>aua a (aBw _ ha);have Zg:∀a,Z3 a=none->(∃o,H3 a=some o)->Z5 a=none:=fun a e ⟨o,e2⟩=>by
           cases q:Z5 a with
           | none=>rfl
           | some u=>
             have:=S5.new a u q e;rw[show H3 a=none from this]at e2;cases e2
         have yD:∀a∈fy,a≠D:=fun a ha e=>by
           subst e;rw[(amP a ha).2]at hD3;cases hD3
         have h5D:H5 D=some (.lst YH):=k5 D _ (k4 D _ hD3);have sD:aM H (upd H5 D (.lst (YH++[yv]))):=fun a o q=>by
           rw[aA (cy q hD)];exact k5 a o (k4 a o (hh3 a o q))
         refine⟨Z5,YH++[yv],fp++fy,sD,wz3.trans (z4.trans z5),fun a o q=>?_,Zg D zD3 ⟨_,hD3⟩,fun a o q z=>?_,fun a o q im=>?_,bA,?_,?_,?_,fun a ha=>?_,?_⟩
         . rw[aA (cy q (Zg D zD3 ⟨_,hD3⟩))];exact S5.zh a o q
         . cases e:Z3 a with
           | none=>exact hh3.free (S5.new a o q e)
           | some u=>
             have:=z5 a u (z4 a u e);rw[q]at this;cases this;exact nw3 a o e z
         . by_cases ha:a=D
           . subst ha;rw[bA]at q;cases q;cases im
           . rw[aA ha]at q;exact S5.tp a o q im
         . rw[htk,aCM,aD9 hp,List.filter_nil,aBF];refine bw.app (ra3.mono (z4.trans z5) fun a ha=>?_) (by
             have:=bw.cons (fp:=fy) (gp:=[]) (ry.mono (.refl _) fun a ha=>aA (yD a ha)) (bw.nil (H:=upd H5 D (.lst (YH++[yv]))) (Z:=Z5))
             rwa [aBW]at this)
           have:a≠D:=fun e=>nD (e▸ha);rw[aA this];obtain⟨o,e⟩:=ra3.there a ha;rw[e];exact k5 a o (k4 a o e)
         . refine aCw.mpr ⟨nd,ndy,fun a ha a' ha' e=>?_⟩;subst e;obtain⟨o,e⟩:=ra3.there a ha;rw[(amP a ha').2]at e;cases e
         . intro h;rcases aBy.mp h with h|h
           . exact nD h
           . exact yD D h rfl
         . rcases aBy.mp ha with h|h
           . exact⟨Zg a (ow3 a h).1 (ra3.there a h),(ow3 a h).2⟩
           . exact⟨(amP a h).1,hh3.free (amP a h).2⟩
         . rw[aBz,aBV];omega
   . have e:i=ds.length:=by omega
     subst e;refine .inl ⟨YM H2 (wz.trans zh),?_⟩;rw[aCv]at ra;obtain⟨Z',z',S'⟩:=S.back (H':=H2) (W:=W1) (W':=Z2) (t:=.lst ((ds.filter p).map g)) (v:=.ref D) (fp:=D::fp) hh zw wz zh nw tp2 (.lst hD2 ra) (aCu.mpr ⟨nD,nd⟩) (fun a ha=>by
       rcases aBq.mp ha with h|h
       . subst h;exact⟨zD,hD⟩
       . exact own a h) (c.imp id fun c=>by
         rw[jA];exact Mj fun d hd=>c d (aCF.mp hd).1)
     exact⟨Z',z',hh,S'⟩
end
variable{δc:At}{ds:Ap}{p:D->Bool}{g:D->T}{parts:D->Option Ap}
def QW{J:It}{it:Addr}{tn:Nat->Heap->Prop}{H1:Hp}{RR:Value->Addr->Result->Shared->Prop}{E:BM}
   (sc:xS X scope xs Nc ix) (hc:X.calm=true) (C:Sn X CL b δ1 σ ts vs Z H ds J H1) (I:L2.Inv X pins σ H1 s) (Tn:Turn X.prog X.w X.K tg J fp it tn) (st:tn 0 s.heap) (hf:∀b∈fp,JY X pins H1 b)
   (hb:(δc=Vp δ1 ix/\∀d∈ds,(g d).clean=true)\/δc=Vq δ1 ix) (inner:GO X CL scope Nc xs.length tg parts ifs elt δc ds p g) (hlen:ds.length<=sizeLine)
   (hRR:∀D C s' H' Z',(∃m,s'.heap.Ns C m)->(∃o,s'.heap.get? C=some o/\∀v,o.data ≠ .cell v)->H' C=none->(C≠X.env.locals/\C∉X.fs/\X.s₀.heap.objs.size<=C/\(∀y c,X.env.cells.lookup y=some c->c≠C)/\∀q∈X.pn++pins,q.1≠C)->(∀h',Heap.SameBut C s'.heap h'->L2.Inv X pins σ H' {s' with heap:=h'})->aM Z Z'->aM H H'->cu X.K CL b H' Z' δ1 σ (.lst ((ds.filter p).map g)::ts) (.ref D::vs)->RR (.ref D) C (.ok .next) s') :
   wpAny Q.d X.A (newList []) (fun acc s₃=>wpAny Q.d X.A (newFunctionEnv scope X.env.globals (nq X.env scope.names []) [] X.env.qual none .none (some X.env)) (fun ah0 s₄=>
     codeAny Q.d X.A (.compStart (.ListComp elt [⟨tg,iter,ifs,0⟩] scope pos) 0 (.ref it) acc {ah0 with scope:=relabel scope X.env}) (RR acc ah0.locals) s₄) E s₃) E s:=by
 obtain⟨Z1,z1,k1,S1,go,yl,stp⟩:=C.ex;have lp:∀D,H1 D=none->∃W:Nat->Nat->Hp->Prop,(∃m,W 0 m (upd H1 D (.lst [])))/\∀i m H2,W i m H2->(J.stop i H2/\∃Z2,aM Z1 Z2/\aM H1 H2/\cu X.K CL b H2 Z2 δ1 σ (.lst ((ds.filter p).map g)::ts) (.ref D::vs)) ∨
     (J.go i H2/\∃N:Hp->Prop,(∀H',N H'->∃m',m'<m/\W (i+1) m' H')/\∀xv H3,J.yld i H2 xv H3->∀C s0 H0 f0 os,os.length=xs.length->ahZ (dB X scope Nc C s0 H0 f0) tg elt ifs xs.length σ ix D N xv os H3):=by
   rcases hb with⟨e,cl⟩|e
   . subst e;exact Ms (W1:=H1) S1 S1.zh (.refl _) (fun _ _ q _=>q) (Vr S1 ix) inner (fun i H2 s=>go i H2 (S1.zh.trans s)) (fun i Z2 H2 y H' s=>yl i Z2 H2 y H' (S1.zh.trans s)) (fun H2 s=>stp H2 (S1.zh.trans s)) hlen (.inr cl)
   . subst e;exact Ms (W1:=Z1) S1 (.refl _) S1.zh S1.tp (Vs S1 ix) inner go yl stp hlen (.inl rfl)
 exact Zf sc hc I Tn st hf lp fun D C s' H' m io nC ch ci ⟨Z',z',k',S'⟩=>hRR D C s' H' Z' m io nC ch ci (z1.trans z') (k1.trans k') S'
def Ji(sc:xS X scope xs Nc ix)(I:L2.Inv X pins σ H s):closureFor scope X.env=pure (nq X.env scope.names []):=
 Qh fun y hy e=>I.ok.has y.1 (sc.frees y hy e).2
def VA(sc:xS X scope xs Nc ix)(hc:X.calm=true)(h:GIt X CL b tg iter δ ds δ1)(hb:(δc=Vp δ1 ix/\∀d∈ds,(g d).clean=true)\/δc=Vq δ1 ix)(inner:GO X CL scope Nc xs.length tg parts ifs elt δc ds p g)(hlen:ds.length<=sizeLine)
   (hs:AN X iter:=by intro _;rfl):bU X CL b (.ListComp elt [⟨tg,iter,ifs,0⟩] scope pos) δ (.lst ((ds.filter p).map g)) δ1:=fun H Z σ ts vs Q S k pins s I=>by
 obtain⟨wi,pi,hw⟩:=h;rw[eval_ListComp];refine wpAny_comprehension_free (use:=none) rfl hs (Ji sc I) sc.kind sc.names ?_;refine eZ (pi pins s σ H _ I (hw H Z σ ts vs (fun J H1=>Sn X CL b δ1 σ ts vs Z H ds J H1) S fun J H1 C=>C)) fun v s1 h1=>eZ h1 fun itv s2 zz=>?_;obtain⟨it,fp,tn,J,H1,e,I1,Tn,st,hf,C⟩:=zz;subst e;refine QW (RR:=fun acc C=>compPost Q.d X.A X.xe none (EP X pins σ Q) acc C) sc hc C I1 Tn st hf hb inner hlen fun D C' s' H' Z' m io nC ch ci z' k' S'=>?_;obtain⟨m,hn⟩:=m;exact⟨m,hn,fun h' hs'=>⟨.ref D,H',ci h' hs',rfl,k _ H' Z' z' k' S'⟩⟩
variable{y:Str}
def amQ{D:ja}{py aub:Pos}(i:Nat)(sc:xS X scope xs Nc ix)(hc:X.calm=true)(h:GIt X CL b tg iter δ ds δ1)(hb:(δc=Vp δ1 ix/\∀d∈ds,(g d).clean=true)\/δc=Vq δ1 ix)(inner:GO X CL scope Nc xs.length tg parts ifs elt δc ds p g)(hlen:ds.length<=sizeLine)
   (k:D.nx (δ1.set i (some (.lst ((ds.filter p).map g))))) (hl:i<δ1.length) (hN:X.N.Nodup) (hi:X.N[i]? = some y) (hx:Loc X.env.scope y) (hf':AM X y)
   (Se:swapsWith (.ListComp elt [⟨tg,iter,ifs,0⟩] scope pos) (some (.Name y py)) aub.line X.env=pure true)
   (hs:AN X iter:=by intro _;rfl):TSv X CL b (.Assign [.Name y py] (.ListComp elt [⟨tg,iter,ifs,0⟩] scope pos) aub) δ D:=fun H Z σ ts vs E S M pins s I=>by
 obtain⟨wi,pi,hw⟩:=h;rw[exec_Assign_Name_used _ _ _ _ Se];refine aBY (wpAny_standAt (aBY ?_));show wpAny _ X.A (do let _ ← comprehension (.ListComp elt [⟨tg,iter,ifs,0⟩] scope pos) scope X.env _ (newList []) false (eval iter X.env) (some (assign (.Name y py) X.env))) _ _ s;refine aBY (aC5 (wpAny_comprehension_free (use:=some (assign (.Name y py) X.env)) (Q:=fun _ s'=>SP X pins E .next s') rfl hs (Ji sc I) sc.kind sc.names ?_) (fun _ s' hq=>aCb (aCb hq)) fun _ _ e=>e);refine eZ (pi pins s σ H _ I (hw H Z σ ts vs (fun J H1=>Sn X CL b δ1 σ ts vs Z H ds J H1) S fun J H1 C=>C)) fun v s1 h1=>eZ h1 fun itv s2 zz=>?_;obtain⟨it,fp,tn,J,H1,e,I1,Tn,st,hf,C⟩:=zz;subst e;refine QW (RR:=fun acc C=>compPost Q.d X.A X.xe (some (assign (.Name y py) X.env)) (fun _ s'=>SP X pins E .next s') acc C) sc hc C I1 Tn st hf hb inner hlen fun D' C' s' H' Z' m io nC ch ci z' k' S'=>?_;obtain⟨m,hn⟩:=m;obtain⟨o,ho,Ja⟩:=io;have I':L2.Inv X pins σ H' s':=ci s'.heap (.refl ..);have I2:L2.Inv X (pins++[(C',o)]) σ H' s':=I'.Lf fun q hq=>by
   rcases aBy.mp hq with z|z
   . exact I'.pin q (aBw _ z)
   . have e:q=(C',o):=by simpa using z
     subst e;exact⟨ho,nC,ch.1,ch.2.1,Ja⟩
 show wpAny _ X.A (assign (.Name y py) X.env (.ref D')) _ _ s';have hg:PG X (.Name y py) (Jb i):=Er hN hi hx hf';refine eZ (hg _ s' σ H' (.ref D') (.ref D') (fun σ8 H8=>σ8=σ.set i (some (.ref D'))/\H8=H') I2 rfl ⟨rfl,rfl⟩) fun _ s8 zz=>?_;obtain⟨σ8,H8,I8,e8,e8'⟩:=zz;subst e8;subst e8';obtain⟨hC8,nC8,_⟩:=I8.pin (C',o) (aBw _ (aBw _ Uf));refine⟨m,hn.at' fun o' e'=>by rw[ho]at e';cases e';exact hC8,fun h' hs'=>?_⟩;have I9:L2.Inv X pins (σ.set i (some (.ref D'))) _ s8:=I8.Lf fun q hq=>I8.pin q (aBw _ (aBN _ hq));have I10:=I9.turned (it:=C') (h':=h') (t':=s8.toks) (fun b o hb e=>(hs'.2 b hb).trans e) nC8 ch.1.symm.symm (.inr ch.2.2.1) ch.2.2.2.1 ch.2.2.2.2;exact⟨_,_,I10,M.nx _ _ _ Z' z' (S'.set hl) k⟩
variable{pos':Pos}
def ah3{D:ja}(gx:Gx X)(n:Ln X i x)(sc:xS X scope xs Nc ix)(h:GIt X CL b tg iter δ ds δ1)
   (hb:(δc=Vp δ1 ix/\∀d∈ds,(g d).clean=true)\/δc=Vq δ1 ix) (inner:GO X CL scope Nc xs.length tg parts ifs elt δc ds p g) (hlen:ds.length<=sizeLine) (k:gw X CL b jM (δ1.set i (some (.lst ((ds.filter p).map g)))) D) (hl:i<δ1.length)
   (Se:swapsWith (.ListComp elt [⟨tg,iter,ifs,0⟩] scope pc) (some (.Name x pos')) pos.line X.env=pure true\/swapsWith (.ListComp elt [⟨tg,iter,ifs,0⟩] scope pc) (some (.Name x pos')) pos.line X.env=pure false) (hs:AN X iter:=by intro _;rfl) :
   gw X CL b (.Assign [.Name x pos'] (.ListComp elt [⟨tg,iter,ifs,0⟩] scope pc) pos::jM) δ D:=by
 rcases Se with Se|Se
 . exact eK (amQ i sc gx.calm h hb inner hlen k hl gx.nd n.hi n.loc n.hf Se hs)
 . exact eK (ahL i (VA sc gx.calm h hb inner hlen hs) k hl gx.nd n.hi n.loc Se n.hf)
def gOk(scope:Scope)(xs zY:AT):Bool:=
 scope.kind == .function&&xs.all (fun y=>scope.names.lookup y==some .local)&&zY.all (fun y=>scope.names.lookup y==some .free)&&decide ((xs++zY).Nodup) &&
   scope.names.all fun y=>y.2 != .cell&&(y.2 != .local || scope.names.lookup y.1==some .local)&&(y.2 != .free || (zY.contains y.1&&scope.names.lookup y.1==some .free))
def amR{zY:AT}(c:ahS X ix zY)(ok:gOk scope xs zY=true):xS X scope xs (xs++zY) ix:=by
 unfold gOk at ok;simp only[aB6,aCO,aCG,aDh]at ok;obtain⟨⟨⟨⟨h1,h2⟩,h3⟩,h4⟩,h5⟩:=ok;have kc:∀y∈zY,X.env.kindOf y=some .cell\/X.env.kindOf y=some .free:=by
   clear h3 h4 h5
   induction c with
   | nil=>intro y hy;cases hy
   | cons n k r ih=>
     intro y hy;rcases aBq.mp hy with e|hy
     . subst e;exact k
     . exact ih y hy
 refine⟨h1,fun y hy e=>?_,h4,fun y hy e=>?_,h2,fun y hy e=>?_,?_,fun i hi=>?_⟩
 . have:=(h5 y hy).1.1;rw[e]at this;simp at this
 . have:=(h5 y hy).1.2;rw[e]at this;simpa using this
 . have:=(h5 y hy).2;rw[e]at this;simp at this;exact⟨this.2,kc _ this.1⟩
 . congr 1;clear h3 h4 h5 kc
   induction c with
   | nil=>rfl
   | cons n k r ih=>rw[aCS,n.hi,← ih]
 . clear h4 h5 kc
   induction c with
   | nil=>cases hi
   | @cons i' y ix ys n k r ih=>
     rcases aBq.mp hi with e|hi
     . subst e;exact⟨y,n.hi,h3 y aBr⟩
     . exact ih (fun z hz=>h3 z (aBt _ hz)) hi
variable{C:Addr}
def Zh(h1:Nc[i]? = some x)(h2:scope.names.lookup x=some .local)(hd:AD x:=by decide)(uG:AE x:=by decide):Ln (dB X scope Nc C s H fp) i x:=
 ⟨ahR h1 h2 hd uG,.inl (lookup_relabel_local h2),.inr (lookup_relabel_local h2)⟩
def Ite(K:Frag)(a:Addr):It:=
 ⟨fun i H=>∃xs x,sX K H a xs/\xs[i]? = some x,fun i H x H'=>∃T y,H T=none/\x=.ref T/\(∀xs,sX K H a xs->xs[i]? = some y)/\H'=upd H T (.tup [.int i,y]),fun i H=>∃xs,sX K H a xs/\xs.length<=i⟩
variable{elts:CA}{kk:Nat}{pt:Pos}
def aeF(a e it:Addr)(hne:e≠it):Turn P w K (.Tuple elts kk pt) (Ite K a) [e,it] e (fun i h=>(∃old,PySem.IsEnum h e it i old)/\h.IsListIter it a i) where
 mem:=by simp
 obj:=fun i h st b hb=>by
   obtain⟨⟨old,he⟩,hit⟩:=st;rcases aBq.mp hb with z|z
   . subst z;exact⟨_,he,fun v z=>by
       have z':Data.fields _=Data.cell v:=z;cases z'⟩
   . have z:b=it:=by simpa using z
     subst z;obtain⟨o,e,c,d⟩:=hit;exact⟨o,e,fun v z=>by rw[d]at z;cases z⟩
 keep:=fun i h h' st k=>by
   obtain⟨⟨old,he⟩,hit⟩:=st;exact⟨⟨old,k e Uf _ he⟩,hit.at fun o q=>k it Uf o q⟩
 item:=by
   intro X hP hw hK hc i pins s σ H E I hf st hg;subst hP hw hK;obtain⟨xs,x,hq,hx⟩:=hg;obtain⟨its,rv,p,hz⟩:=I.list hq;obtain⟨u,hu,ru⟩:=rv.get hx;obtain⟨⟨old,he⟩,hit⟩:=st;have fe:=hf e Uf;have fi:=hf it Uf;have hT0:H s.heap.objs.size=none:=I.dI.fresh (aBD _);have fT:=I.JZ (aBD s.heap.objs.size) hT0;refine PySem.wpAny_pyNext_enum_item he hit p.isList (x:=u) (by simpa using hu) hne fun h' ho axh hT hsz hk=>⟨_,rfl,?_⟩;refine PySem.wpAny_letOwnedTupleGo_enum ho fun h2 he2 zF=>?_;replace zF:Heap.SameBut e h' h2:=zF;have eT:e<s.heap.objs.size:=aB1 he;have keep:∀b o,b≠e->b≠it->s.heap.get? b=some o->h2.get? b=some o:=fun b o h1 h3 q=>(zF.2 b h1).trans (hk b o h1 h3 q);have hT2:h2.get? s.heap.objs.size=some {cls:=.type "tuple",data:=.seq #[.int i s.toks,u]}:=(zF.2 _ (Nat.ne_of_gt eT)).trans hT;have nH:∀b o,H b=some o->b≠e/\b≠it/\b≠s.heap.objs.size:=fun b o q=>⟨fun z=>(by rw[z,fe.1]at q;cases q),fun z=>(by rw[z,fi.1]at q;cases q),fun z=>(by rw[z,hT0]at q;cases q)⟩;have I':L2.Inv X pins σ (upd H s.heap.objs.size (.tup [.int i,x])) {s with heap:=h2,toks:=s.toks+1}:=by
     refine I.step (g':=s.gens) (d':=s.drawn) (ch:=[e,it,s.heap.objs.size]) (fun b hb=>?_) (fun b o _ _ hc q _=>?_) (fun b o _ _ hc q _=>⟨o.slots,?_⟩) (fun b o hc q n=>?_) (fun b o hc q=>⟨o,?_⟩) (fun b ys q=>?_) (fun b o u q=>?_) (fun b ps q=>⟨#[],?_⟩) (fun m hm=>?_) (fun b o q=>?_) I.bare
     . rcases aBq.mp hb with z|hb
       . subst z;exact⟨fe.2.2.2.1,fe.2.1,fe.2.2.2.2.1,fe.2.2.2.2.2⟩
       . rcases aBq.mp hb with z|hb
         . subst z;exact⟨fi.2.2.2.1,fi.2.1,fi.2.2.2.2.1,fi.2.2.2.2.2⟩
         . have z:b=s.heap.objs.size:=by simpa using hb
           subst z;exact⟨fT.2.2.2.1,fT.2.1,fT.2.2.2.2.1,fT.2.2.2.2.2⟩
     . exact keep b o (fun z=>hc (by simp[z])) (fun z=>hc (by simp[z])) q
     . exact keep b o (fun z=>hc (by simp[z])) (fun z=>hc (by simp[z])) q
     . rw[aA (fun z=>hc (by simp[z]))];exact n
     . exact keep b o (fun z=>hc (by simp[z])) (fun z=>hc (by simp[z])) q
     . rw[aA (nH b _ q).2.2];exact q
     . rw[aA (nH b _ q).2.2];exact q
     . rw[aA (nH b _ q).2.2,q];simp
     . obtain⟨o,es,ep,ho,r⟩:=hm;exact⟨o,es,ep,keep _ o (aC0 fe.2.1) (aC0 fi.2.1) ho,r⟩
     . by_cases hb:b=s.heap.objs.size
       . subst hb;rw[bA]at q;cases q;exact⟨aCj (bz (aBu rfl)),[.int i s.toks,u],.cons ⟨s.toks,rfl⟩ (.cons ru .nil),⟨_,hT2,rfl,_,rfl⟩⟩
       . rw[aA hb]at q;refine(I.dI b o q).RJ (fun c v hc z=>keep c v ?_ ?_ z) (fun c z=>by rw[aA (nH c _ z).2.2];exact z) (fun c ys z=>by rw[aA (nH c _ z).2.2];exact z) fun c ys z=>by rw[aA (nH c _ z).2.2];exact z
         . rcases hc with z|z
           . rw[z];exact(nH b _ q).1
           . exact(nH c _ z).1
         . rcases hc with z|z
           . rw[z];exact(nH b _ q).2.1
           . exact(nH c _ z).2.1
   have ei:((i+1:Nat):Int)=(i:Int)+1:=by omega
   refine⟨.ref s.heap.objs.size,_,I',rfl,⟨_,x,hT0,rfl,fun ys hy=>by rw[I.Eo hy hq];exact hx,rfl⟩,⟨⟨u,by rw[ei];exact he2⟩,axh.at fun o q=>(zF.2 it (aC0 hne)).trans q⟩,fun b hb=>?_⟩;have hb':=hf b hb;obtain⟨o,YC,_⟩:∃o,s.heap.get? b=some o/\True:=by
     rcases aBq.mp hb with z|z
     . subst z;exact⟨_,he,trivial⟩
     . have z:b=it:=by simpa using z
       subst z;obtain⟨o,q,_⟩:=hit;exact⟨o,q,trivial⟩
   rw[aA (aCq (aB1 YC))];exact hb'.1
 done:=by
   intro X hP hw hK hc i pins s σ H E I hf st hg;subst hP hw hK;obtain⟨xs,hq,hx⟩:=hg;obtain⟨its,rv,p,hz⟩:=I.list hq;obtain⟨⟨old,he⟩,hit⟩:=st;obtain⟨f0,f1,f2,f3,f4,f5⟩:=hf it Uf;have hl:=rv.length;exact PySem.wpAny_pyNext_enum_end (I.ok.hd hc) he hit p.isList (by simp;omega) fun h' eb=>⟨rfl,I.turned (t':=s.toks) (fun b o hb e=>eb b o hb e) f0 f1 f3 f4 f5⟩
 self:=fun _ _ _ _ _ st h=>by
   obtain⟨⟨old,he⟩,_⟩:=st;exact PySem.wpAny_pyIter_enum he h
def auc(K:Frag)(ta:TA):TI:=fun σ H R=>ta σ H fun vs H1=>∃a xs,vs=[.ref a]/\sX K H1 a xs/\R (Ite K a) H1
theorem amT{a:Expr}{ta:TA}{p:Pos}(hg:Gl X "enumerate")(hm:X.mg "enumerate" = none)(ha:PA X [a] ta)(hs:AC X a []):PI X (.Tuple elts kk pt) (.Call (.Name "enumerate" p) [a] [] pos) (auc X.K ta):=by
 intro pins s σ H R I h;refine Call_ (zN I hg hm boot_enumerate (aCL (eZ (ha pos pins s σ H _ I h) fun us s1 zz=>?_) hs rfl));obtain⟨vs,H1,I1,r1,q1⟩:=zz;obtain⟨l,xs,e,hq,q⟩:=q1;subst e;cases r1 with
 | cons r rr=>
   cases rr;cases r;obtain⟨its,rv,p,hz⟩:=I1.list hq;refine PySem.call_enumerate_list p.isList fun h' he hit hsz hk=>?_;have I2:L2.Inv X pins σ H1 {s1 with heap:=h'}:=I1.kept (t':=s1.toks) fun b o e=>hk b o e;refine PySem.wpAny_pyIter_enum he ?_;refine⟨s1.heap.objs.size+1,[s1.heap.objs.size+1,s1.heap.objs.size],_,_,H1,rfl,I2,aeF l _ _ (Nat.succ_ne_self _),⟨⟨_,he⟩,hit⟩,fun b hb=>?_,q⟩;rcases aBq.mp hb with z|z
   . subst z;exact I1.JZ (aDi _) (I1.dI.fresh (aDi _))
   . have z:b=s1.heap.objs.size:=by simpa using z
     subst z;exact I1.JZ (aBD _) (I1.dI.fresh (aBD _))
def Mt(ds:Ap):Ap:=(List.range ds.length).map fun(i:Nat)=>.tup [.int i,ds.getD i .non]
def GP(ds:Ap):(Mt ds).length=ds.length:=by simp[Mt]
def aeG{ds:Ap}{d:D}(h:ds[i]? = some d):(Mt ds)[i]? = some (.tup [.int i,d]):=by
 have hi:i<ds.length:=(aB4.mp h).1;unfold Mt;rw[aBR,aB9 hi];show some (D.tup [.int i,ds.getD i .non])=_;rw[aBs,h];rfl
variable{pr:Pos}{ds:Ap}
theorem amU(hm:X.mg "enumerate" = none)(h:bU X CL b e δ (.sh (.lst ds)) δ1)(hg:Gl X "enumerate")(hs:AC X e []:=by exact bP rfl):GIt X CL b (.Tuple elts kk pt) (.Call (.Name "enumerate" pr) [e] [] pc) δ (Mt ds) δ1:=by
 refine⟨_,amT hg hm (bW cR dQ hs) hs,fun H Z σ ts vs R S k=>h H Z σ ts vs _ S fun v H1 Z1 z1 k1 S1=>?_⟩;obtain⟨fp,gp,_,r,_,_⟩:=S1.rep;cases r with
 | cons r _=>
   cases r with
   | sh r=>
     cases r with
     | @lst a us _ hq rr=>
       have hl:=rr.length;refine⟨a,us,rfl,S1.zh.seq hq,k _ _ ⟨Z1,z1,k1,S1.pop,fun i H2 s hi=>?_,fun i Z2 H2 x H' s1 s2 tp hi hy=>?_,fun H2 s=>?_⟩⟩
       . rw[GP]at hi;have hi':i<us.length:=by rw[← hl];exact hi
         exact⟨us,us[i],s.seq hq,aBC hi'⟩
       . rw[GP]at hi;obtain⟨T,y,hT,rfl,hx,rfl⟩:=hy;obtain⟨d,hd,rd⟩:=rr.aeu (hx us ((s1.trans s2).seq hq));have gr:Mq Z2 H2 _ _:=Mq.tup (xs:=[.int i,y]) s2 tp hT;exact⟨_,_,aeG hd,gr,.tup (xJ.of bA) (.cons (.int _) (.cons ((rd.mono s1).mono gr.z) .nil))⟩
       . rw[GP];exact⟨us,s.seq hq,by rw[← hl];exact aBD _⟩
theorem vV{β:Type}{f:α->β}{l:List α}{d:β}(h:(l.map f)[j]? = some d):∃x,d=f x/\l[j]? = some x/\x∈l/\j<l.length/\l.drop j=x::l.drop (j+1)/\l.take (j+1)=l.take j++[x]:=by
 rw[aBR]at h;cases hx:l[j]? with
 | none=>rw[hx]at h;cases h
 | some x=>
   rw[hx]at h;cases h;have hj:j<l.length:=(aB4.mp hx).1;have e:l[j]=x:=(aB4.mp hx).2;exact⟨x,rfl,rfl,aBQ hx,hj,by rw[List.drop_eq_getElem_cons hj,e],by rw[aCH,hx];rfl⟩
def D.at1:L3.D->L3.D
 | .tup (a::_)=>a
 | d=>d
def D.at2:L3.D->L3.D
 | .tup (_::a::_)=>a
 | d=>d
def D.cnt:L3.D->Nat
 | .lst ds=>ds.length
 | .tup ds=>ds.length
 | _=>0
def aeH(f:α->L3.D)(z:α)(l:List α):Mt (l.map f)=(List.range l.length).map fun(i:Nat)=>L3.D.tup [.int i,f (l.getD i z)]:=by
 unfold Mt;rw[aBp];apply aCp;intro i hi;have hi:i<l.length:=aB5.mp hi;have:(l.map f).getD i .non=f (l.getD i z):=by
   rw[aBs,aBs,aBR,aBC hi];rfl
 rw[this]
def wY{f:α->L3.D}{l:List α}(z:α)(hm:X.mg "enumerate" = none)(h:bU X CL b e δ (.sh (.lst (l.map f))) δ1)(hg:Gl X "enumerate")(hs:AC X e []:=by exact bP rfl) :
   GIt X CL b (.Tuple elts kk pt) (.Call (.Name "enumerate" pr) [e] [] pc) δ ((List.range l.length).map fun(i:Nat)=>L3.D.tup [.int i,f (l.getD i z)]) δ1:=by
 have:=amU (elts:=elts) (kk:=kk) (pt:=pt) (pr:=pr) (pc:=pc) hm h hg hs
 rwa [aeH f z l]at this
theorem cu.aeI{tt:CI}(S:cu K CL b H Z δ σ (t::ts) (v::vs))(hi:δ[i]? = some (some (.lst tt)))(hj:tt[j]? = some (.lst tl)) :
   ∃a0 us0 a us,σ[i]? = some (some (.ref a0))/\H a0=some (.lst us0)/\us0[j]? = some (.ref a)/\us0.length=tt.length/\H a=some (.lst us)/\us.length=tl.length/\cu K CL b (upd H a (.lst (us++[v]))) Z (δ.set i (some (.lst (tt.set j (.lst (tl++[t])))))) σ ts vs:=by
 obtain⟨fp,gp,e,r,nd,k⟩:=S.rep;obtain⟨v0,f1,f2,f3,hv,BG,rt,put,_⟩:=e.get hi;subst BG;cases rt with
 | @lst a0 us0 _ g0 hq r0=>
   obtain⟨vj,g1,g2,g3,hvj,hg,rj,set⟩:=r0.at hj;subst hg;cases rj with
   | @lst a us _ g ha rs=>
     cases r with
     | @cons _ _ _ _ ft gr q1 q2=>
       have ne:∀c∈(f1++((a0::(g1++(g++g3)))++f3))++(ft++gr),c≠a:=fun c hc e=>by
         subst e;have hp:((f1++((a0::(g1++((c::g)++g3)))++f3))++(ft++gr)).Perm (c::((f1++((a0::(g1++(g++g3)))++f3))++(ft++gr))):=by
           have h1:(a0::(g1++((c::g)++g3))).Perm (c::(a0::(g1++(g++g3)))):=by
             have h0:(g1++((c::g)++g3)).Perm (c::(g1++(g++g3))):=aCN;exact(h0.cons a0).trans (List.Perm.swap c a0 _)
           have h2:=(((h1.append_right f3).append_left f1).append_right (ft++gr));refine h2.trans ?_;rw[aB3];exact aCN.append_right _
         exact(aCu.mp (hp.nodup_iff.mp nd)).1 hc
       have a0a:a0≠a:=ne a0 Uf;refine⟨a0,us0,a,us,hv,hq,hvj,r0.length.symm,ha,rs.length.symm,?_⟩;have r1:b8 K CL (upd H a (.lst (us++[v]))) Z (.lst (tl++[t])) (.ref a) (a::(g++(ft++[]))):=
         .lst bA (bw.app (rs.mono (.refl _) fun c hc=>aA (ne c (by simp[hc]))) (.cons (q1.mono (.refl _) fun c hc=>aA (ne c (by simp[hc]))) .nil))
       have r2:=set (H':=upd H a (.lst (us++[v]))) (fun c hc=>aA (ne c (by
         rcases aBy.mp hc with h|h
         . simp[h]
         . simp[h]))) r1
       rw[lG hvj]at r2;have e2:=put (H':=upd H a (.lst (us++[v]))) (.refl _) (fun c hc=>aA (ne c (by
         rcases aBy.mp hc with h|h
         . simp[h]
         . simp[h]))) (.lst (by rw[aA a0a];exact hq) r2)
       rw[lG hv]at e2;have hp:((f1++((a0::(g1++((a::(g++(ft++[])))++g3)))++f3))++gr).Perm ((f1++((a0::(g1++((a::g)++g3)))++f3))++(ft++gr)):=by
         simp only[aBW,aB3,aBA];refine aCi f1 (List.Perm.cons a0 (aCi g1 (List.Perm.cons a (aCi g ?_))));have:=(aCr (l₁:=ft) (l₂:=g3++f3)).append_right gr;simp only[aBA]at this;exact this
       exact S.write nd k Uf ⟨_,ha⟩ e2 (q2.mono (.refl _) fun c hc=>aA (ne c (by simp[hc]))) (hp.nodup_iff.mpr nd) fun c hc=>hp.mem_iff.mp hc
theorem Jj:∀(l r:BB),PyData.eqvAll (D.ly (l.map L3.D.int)) (D.ly (r.map L3.D.int))=decide (l=r)
 | [],[]=>by rw[aDY,D.ly,PyData.eqvAll];rfl
 | [],_::_=>by rw[aDY,aBK,D.ly,D.ly,PyData.eqvAll];rfl
 | _::_,[]=>by rw[aDY,aBK,D.ly,D.ly,PyData.eqvAll];rfl
 | x::l,y::r=>by
   rw[aBK,aBK,D.ly,D.ly,PyData.eqvAll,Jj l r,D.toPy,D.toPy,PyData.eqv];by_cases e:x=y
   . subst e;simp
   . have:(x==y)=false:=by simpa using e
     rw[this,aDE,aBS (by simp[e])]
def ah4(l r:BB):eqD (.lst (l.map .int)) (.lst (r.map .int))=decide (l=r):=by
 unfold eqD;rw[D.toPy,D.toPy,PyData.eqv,Jj]
variable{tl2:CI}
theorem cu.extend(S:cu K CL b H Z δ σ (.lst tl2::ts) (v::vs))(hi:δ[i]? = some (some (.lst tl))) :
   ∃a us a2 Zi,σ[i]? = some (some (.ref a))/\H a=some (.lst us)/\us.length=tl.length/\v=.ref a2/\H a2=some (.lst Zi)/\Zi.length=tl2.length/\cu K CL b (upd H a (.lst (us++Zi))) Z (δ.set i (some (.lst (tl++tl2)))) σ ts vs:=by
 obtain⟨fp,gp,e,r,nd,k⟩:=S.rep;obtain⟨v0,f1,f2,f3,hv,BG,rt,put,_⟩:=e.get hi;subst BG;cases rt with
 | @lst a us _ g ha rs=>
   cases r with
   | @cons _ _ _ _ ft gr q1 q2=>
     cases q1 with
     | @lst a2 Zi _ g2 ha2 rs2=>
       have ne:∀c∈(f1++(g++f3))++(g2++gr),c≠a:=fun c hc e=>by
         subst e;have hp:((f1++((c::g)++f3))++((a2::g2)++gr)).Perm (c::((f1++(g++f3))++((a2::g2)++gr))):=by
           rw[aB3,← aB3];exact(aCN.append_right _)
         refine(aCu.mp (hp.nodup_iff.mp nd)).1 ?_;rcases aBy.mp hc with z|z
         . exact aBN _ z
         . exact aBw _ (aBt _ z)
       refine⟨a,us,a2,Zi,hv,ha,rs.length.symm,rfl,ha2,rs2.length.symm,?_⟩;have r1:b8 K CL (upd H a (.lst (us++Zi))) Z (.lst (tl++tl2)) (.ref a) (a::(g++g2)):=
         .lst bA (bw.app (rs.mono (.refl _) fun c hc=>aA (ne c (by simp[hc]))) (rs2.mono (.refl _) fun c hc=>aA (ne c (by simp[hc]))))
       have e2:=put (H':=upd H a (.lst (us++Zi))) (.refl _) (fun c hc=>aA (ne c (by
         rcases aBy.mp hc with h|h
         . simp[h]
         . simp[h]))) r1
       rw[lG hv]at e2;have hp:((f1++((a::(g++g2))++f3))++gr).Perm ((f1++((a::g)++f3))++(g2++gr)):=by
         simp only[aB3,aBA];refine aCi f1 (List.Perm.cons a (aCi g ?_));rw[← aBA,← aBA];exact aCr.append_right gr
       have sb:((f1++((a::g)++f3))++(g2++gr)).Sublist ((f1++((a::g)++f3))++((a2::g2)++gr)):=
         aCo (aCm _) (by rw[aB3];exact List.sublist_cons_self _ _)
       exact S.write nd k (aBr) ⟨_,ha⟩ e2 (q2.mono (.refl _) fun c hc=>aA (ne c (by simp[hc]))) (hp.nodup_iff.mpr (nd.sublist sb)) fun c hc=>sb.subset (hp.mem_iff.mp hc)
section
variable{tl0:CI}{D:ja}
def VB(n:Vn X i x)(h0:δ[i]? = some (some (.lst tl0)))(h:bU X CL b e δ (.lst tl2) δ1)(h1:δ1[i]? = some (some (.lst tl)))(hl:tl.length+tl2.length<=1000000)(k:gw X CL b jM (δ1.set i (some (.lst (tl++tl2)))) D)
   (fY:attributeBase (.Name x pp) "extend" X.env (eval (.Name x pp) X.env)=eval (.Name x pp) X.env:=by rfl)
   (oX:AB X pb e:=by rfl)
   (hline:(pa.endLine==pb.line)=true:=by rfl) (hs:AC X e []:=by exact bP rfl)
   (Se:swapsWith (.Call (.Attribute (.Name x pp) "extend" pa) [e] [] pb) none pos.line X.env=pure false:=by rfl) :
   gw X CL b (.Expr (.Call (.Attribute (.Name x pp) "extend" pa) [e] [] pb) pos::jM) δ D:=eK fun H Z σ ts vs E S M=>
 C5 (Ep (Cw aDc PySem.F.slot_list_extend PySem.F.type_list_extend aen (qI n.hi n.hv n.hd n.uG) (bW cR dQ hs) fY oX hline hs rfl) Se) (by
   obtain⟨v0,e0,r0⟩:=S.look h0;refine⟨v0,e0,?_,?_⟩
   . rw[T.fj]at r0;cases r0 with
     | lst hq _=>exact .inl ⟨rfl,_,hq⟩
   . refine h H Z σ ts vs _ S fun v H1 Z1 z1 k1 S1=>?_;obtain⟨a,us,a2,Zi,ea,ha,hu,rfl,ha2,hu2,S2⟩:=S1.extend h1;rw[e0]at ea;cases ea;exact⟨a,a2,us,Zi,rfl,rfl,ha,ha2,by rw[hu,hu2];exact aCj (aC8 hl (by rw[aB8];decide)),M.nx _ σ _ Z1 z1 S2 k⟩)
end
def Mu{k:Str}(hm:∃u,X.mg x=some (.str k u))(hg:Gl X x)(hd:AD x:=by decide):bU X CL b (.Name x pos) δ (.sh (.str k)) δ:=fun H Z σ ts vs Q S kk=>by
 obtain⟨u,hm⟩:=hm;exact cE (RP (v:=.str k) hg hm ⟨u,rfl⟩ hd) (kk _ H Z (.refl _) (.refl _) (S.push (.str k)))
theorem aE.QX{K:Frag}{Z:Hp}:∀l:AT,aE K CL Z (l.map .str) (l.map V.str)
 | []=>.nil
 | x::l=>.cons (.str x) (aE.QX l)
def GT(X:Cx)(x:Str)(l:AT):Prop:=∃a,X.mg x=some (.ref a)/\∀H:Hp,xJ X.K H a (l.map V.str)
def dP(hm:GT X x l)(hg:Gl X x)(hd:AD x:=by decide):bU X CL b (.Name x pos) δ (.sh (.tup (l.map .str))) δ:=fun H Z σ ts vs Q S kk=>by
 obtain⟨a,hm,hs⟩:=hm;exact cE (RP (v:=.ref a) hg hm rfl hd) (kk _ H Z (.refl _) (.refl _) (S.push (.tup (hs Z) (aE.QX l))))
def auf{od:Cs}{its:DA}{sl:CO}(h1:X.mg x=some (.ref a))(h2:X.K.lookup a=some ⟨.type "tuple",od,.seq its n,sl⟩)(h3:its.size<=sizeLine)(h4:Vals (l.map V.str) its.toList):GT X x l:=
 ⟨a,h1,fun H=>.inr ⟨_,its,n,h2,rfl,rfl,h3,h4⟩⟩
def uL(x y:Str):Bool:=!(Builtin.Str.occurrences y x 0 y.length 1).isEmpty
def VC{i j:Str}(h1:cL X CL b e1 δ (.str i) δ1)(h2:cL X CL b e2 δ1 (.str j) δ2)(hm:behindInMarks .In e2=false):xO X CL b (.Compare e1 [.In] [e2] pos) δ (uL i j) δ2/\bU X CL b (.Compare e1 [.In] [e2] pos) δ (.sh (.bl (uL i j))) δ2:=
 zX aef h1 h2 rfl rfl (fun _ _ q=>⟨i,j,rfl,rfl,q⟩) hm
def z6{i j:Str}(h1:cL X CL b e1 δ (.str i) δ1)(h2:cL X CL b e2 δ1 (.str j) δ2)(hm:behindInMarks .NotIn e2=false):xO X CL b (.Compare e1 [.NotIn] [e2] pos) δ (!uL i j) δ2/\bU X CL b (.Compare e1 [.NotIn] [e2] pos) δ (.sh (.bl (!uL i j))) δ2:=
 zX RQ h1 h2 rfl rfl (fun _ _ q=>⟨i,j,rfl,rfl,q⟩) hm
def Its(x:Str):It:=⟨fun i _=>i<x.cps.size,fun i H v H'=>H'=H/\∃c,x.cps[i]? = some c/\v=.str ⟨#[c]⟩,fun i _=>x.cps.size<=i⟩
def aeK(x:Str)(t:Tok)(it:Addr):Turn P w K tg (Its x) [it] it (fun i h=>h.IsStrIter it "str_ascii_iterator" x t i) where
 mem:=by simp
 obj:=fun i h st b hb=>by
   have e:b=it:=by simpa using hb
   subst e;obtain⟨o,e,c,d⟩:=st;exact⟨o,e,fun v z=>by rw[d]at z;cases z⟩
 keep:=fun i h h' st k=>by
   obtain⟨o,e,r⟩:=st;exact⟨o,k it Uf o e,r⟩
 item:=by
   intro X hP hw hK hc i pins s σ H E I hf st hg;subst hP hw hK;have hg:i<x.cps.size:=hg;obtain⟨f0,f1,f2,f3,f4,f5⟩:=hf it Uf;refine wpAny_pyNext_ascii_item st (c:=x.cps[i]) (by simp[hg]) fun h' Vc sb=>?_;have I1:Inv X pins σ H {s with heap:=h',toks:=s.toks+1}:=I.turned (fun b o hb e=>(sb.2 b hb).trans e) f0 f1 f3 f4 f5;obtain⟨o,e,c,d⟩:=id Vc;exact⟨_,rfl,QH (s:={s with heap:=h',toks:=s.toks+1}) e c d Q.c ⟨.str ⟨#[x.cps[i]]⟩,H,I1,⟨_,rfl⟩,⟨rfl,_,by simp[hg],rfl⟩,Vc,fun b hb=>(hf b hb).1⟩⟩
 done:=by
   intro X hP hw hK hc i pins s σ H E I hf st hg;subst hP hw hK;have hg:x.cps.size<=i:=hg;obtain⟨f0,f1,f2,f3,f4,f5⟩:=hf it Uf;exact wpAny_pyNext_ascii_end (I.ok.hd hc) st (by simp[hg]) fun h' eb=>⟨rfl,I.turned (t':=s.toks) (fun b o hb e=>eb b o hb e) f0 f1 f3 f4 f5⟩
 self:=fun _ _ _ _ _ st h=>wpAny_pyIter_striter_ascii st h
def aeL(x:Str)(t:Tok)(it:Addr):Turn P w K tg (Its x) [it] it (fun i h=>h.IsStrIter it "str_iterator" x t i) where
 mem:=by simp
 obj:=fun i h st b hb=>by
   have e:b=it:=by simpa using hb
   subst e;obtain⟨o,e,c,d⟩:=st;exact⟨o,e,fun v z=>by rw[d]at z;cases z⟩
 keep:=fun i h h' st k=>by
   obtain⟨o,e,r⟩:=st;exact⟨o,k it Uf o e,r⟩
 item:=by
   intro X hP hw hK hc i pins s σ H E I hf st hg;subst hP hw hK;have hg:i<x.cps.size:=hg;obtain⟨f0,f1,f2,f3,f4,f5⟩:=hf it Uf;refine wpAny_pyNext_wide_item st (c:=x.cps[i]) (by simp[hg]) fun h' Vc sb=>?_;have I1:Inv X pins σ H {s with heap:=h',toks:=s.toks+1}:=I.turned (fun b o hb e=>(sb.2 b hb).trans e) f0 f1 f3 f4 f5;obtain⟨o,e,c,d⟩:=id Vc;exact⟨_,rfl,QH (s:={s with heap:=h',toks:=s.toks+1}) e c d Q.c ⟨.str ⟨#[x.cps[i]]⟩,H,I1,⟨_,rfl⟩,⟨rfl,_,by simp[hg],rfl⟩,Vc,fun b hb=>(hf b hb).1⟩⟩
 done:=by
   intro X hP hw hK hc i pins s σ H E I hf st hg;subst hP hw hK;have hg:x.cps.size<=i:=hg;obtain⟨f0,f1,f2,f3,f4,f5⟩:=hf it Uf;exact wpAny_pyNext_wide_end (I.ok.hd hc) st (by simp[hg]) fun h' eb=>⟨rfl,I.turned (t':=s.toks) (fun b o hb e=>eb b o hb e) f0 f1 f3 f4 f5⟩
 self:=fun _ _ _ _ _ st h=>wpAny_pyIter_striter_wide st h
def axm(tl:TE):TI:=fun σ H R=>tl σ H fun v H1=>∃x,v=.str x/\R (Its x) H1
theorem arn{l:Expr}{tl:TE}(hl:PE X l tl):PI X tg l (axm tl):=by
 intro pins s σ H R I h;refine eZ (hl pins s σ H _ I h) fun v s1 zz=>?_;obtain⟨y,H1,I1,r1,q1⟩:=zz;obtain⟨x,e,q⟩:=q1;subst e;obtain⟨t,rfl⟩:=r1;cases ha:x.cps.all (· < 128) with
 | true=>
   refine wpAny_pyIter_ascii ha ?_;refine⟨s1.heap.objs.size,[s1.heap.objs.size],_,_,H1,rfl,I1.kept (t':=s1.toks) fun b o e=>aBU _ e,aeK x t _,⟨_,aCh _ rfl,rfl,rfl⟩,fun b hb=>?_,q⟩;have e:b=s1.heap.objs.size:=by simpa using hb
   subst e;exact I1.JZ (aBD _) (I1.dI.fresh (aBD _))
 | false=>
   refine wpAny_pyIter_wide ha ?_;refine⟨s1.heap.objs.size,[s1.heap.objs.size],_,_,H1,rfl,I1.kept (t':=s1.toks) fun b o e=>aBU _ e,aeL x t _,⟨_,aCh _ rfl,rfl,rfl⟩,fun b hb=>?_,q⟩;have e:b=s1.heap.objs.size:=by simpa using hb
   subst e;exact I1.JZ (aBD _) (I1.dI.fresh (aBD _))
def lH(x:Str):Ap:=x.cps.toList.map fun c=>.str ⟨#[c]⟩
theorem VD(l:CU):aE K CL Z (l.map fun c=>L3.D.str ⟨#[c]⟩) (l.map fun c=>V.str ⟨#[c]⟩):=by
 induction l with
 | nil=>exact .nil
 | cons c l ih=>exact .cons (.str _) ih
theorem ah5(h:bU X CL b iter δ (.sh (.str x)) δ1):TIt X CL b tg iter δ (lH x) δ1:=by
 refine⟨_,arn cR,fun H Z σ ts vs R S k=>h H Z σ ts vs _ S fun v H1 Z1 z1 k1 S1=>?_⟩;obtain⟨fp,gp,_,r,_,_⟩:=S1.rep;cases r with
 | cons r _=>
   cases r with
   | sh r=>
     cases r with
     | str=>
       refine⟨x,rfl,k _ _ ⟨Z1,_,z1,k1,S1.pop,VD _,fun i H2 s hi=>?_,fun i H2 y H' s hi hy=>⟨hy.1,?_⟩,fun H2 s=>?_⟩⟩
       . show i<x.cps.size;simpa [lH] using hi
       . obtain⟨c,hc,rfl⟩:=hy.2;simp[hc]
       . show x.cps.size<=(lH x).length;simp[lH]
def axn:V->B2->B2->Hp->VK->Prop:=fun x lo hi H Q=>∃z,x=.str z/\z.length<=sizeLine/\Q (.str (Txt.slice z lo hi)) H
theorem aro:SlR X axn:=by
 intro pins s σ H x v vl vu lo hi sl Q I rx hs pl pu h;obtain⟨z,rfl,hz,q⟩:=h;obtain⟨t,rfl⟩:=rx;obtain⟨o,ho,hc,hd⟩:=hs;have fin:∀t' k,EP X pins σ Q (.str (Txt.slice z lo hi) t') {s with toks:=k}:=fun t' k=>⟨.str _,H,I.tok k,⟨t',rfl⟩,q⟩;refine⟨"str",_,F.slot_str_getitem.lookup,aDI _ _ _,?_⟩;cases pl with
 | none=>
   cases pu with
   | none=>exact aDw (l:=none) (u:=none) (st:=none) ⟨o,ho,hc,hd⟩ rfl (post_val_or_str ⟨aCa (Txt.slice_le z _ _) hz,fin⟩)
   | int j uj=>exact aDw (l:=none) (u:=some (j,uj)) (st:=none) ⟨o,ho,hc,hd⟩ rfl (post_val_or_str ⟨aCa (Txt.slice_le z _ _) hz,fin⟩)
 | int i ui=>
   cases pu with
   | none=>exact aDw (l:=some (i,ui)) (u:=none) (st:=none) ⟨o,ho,hc,hd⟩ rfl (post_val_or_str ⟨aCa (Txt.slice_le z _ _) hz,fin⟩)
   | int j uj=>exact aDw (l:=some (i,ui)) (u:=some (j,uj)) (st:=none) ⟨o,ho,hc,hd⟩ rfl (post_val_or_str ⟨aCa (Txt.slice_le z _ _) hz,fin⟩)
def aeM{lo hi:Option Expr}{l h:B2}{z:Str}(h1:cL X CL b e δ (.str z) δ1)(hz:z.length<=sizeLine)(h2:TOv X CL b lo δ1 l δ2)(h3:TOv X CL b hi δ2 h δ3):bU X CL b (.Subscript e (.Slice lo hi none p2) pos) δ (.sh (.str (Txt.slice z l h))) δ3:=fun H Z σ ts vs Q S k=>by
 obtain⟨t2,po2,w2⟩:=h2;obtain⟨t3,po3,w3⟩:=h3;refine cE (L8 aro cR po2 po3) (h1 H Z σ ts vs _ S fun v H1 Z1 z1 k1 S1 r=>w2 H1 Z1 σ ts vs _ S1 fun H2 Z2 z2 k2 S2=>w3 H2 Z2 σ ts vs _ S2 fun H3 Z3 z3 k3 S3=>?_);exact⟨z,r.sc rfl,hz,k _ H3 Z3 (z1.trans (z2.trans z3)) (k1.trans (k2.trans k3)) (S3.push (.str _))⟩
end L3
namespace L3
open PySem PySem.Spec PyProof.Rows L2 PySem.Builtin PySem.Builtin.Str
variable{X:Cx}{CL:BA}{b:Bx}{e o:Expr}{δ δ1 δ2:At}{pos apos:Pos}
theorem Vals.strsFrom:∀(k:Nat) (l:AT),Vals (l.map V.str) (strsFrom k l)
 | _,[]=>.nil
 | k,x::l=>.cons ⟨_,rfl⟩ (Vals.strsFrom (k+1) l)
def BJ(x y:Str):Bool:=!(y.length==0) && !(decide (x.length<y.length) || decide (strKind x<strKind y)) && !(occurrences x y 0 x.length (x.length+1)).isEmpty
def splitM(x y:Str):AT:=partsBetween x (occurrences x y 0 x.length (x.length+1)) y.length
def arp:V->BS->Hp->VK->Prop:=fun x vs H Q=>∃z y,x=.str z/\vs=[.str y]/\BJ z y=true/\z.length<=sizeLine/\(splitM z y).length<=sizeLine/\∀p,H p=none->Q (.ref p) (upd H p (.lst ((splitM z y).map V.str)))
def ah6:MtR X "str.split" arp:=by
 intro pins s σ H x vs v us Q I rx rv h;obtain⟨z,y,rfl,rfl,dI,hz,hp,q⟩:=h;obtain⟨t,rfl⟩:=rx;obtain⟨u,rfl,ru⟩:=rv.one;obtain⟨t',rfl⟩:=ru;unfold BJ at dI;simp only[aB6,aCB]at dI;obtain⟨⟨h1,h2⟩,h3⟩:=dI;refine aDJ F.slot_str_split (aDI _ _ _) aEd (aD2 _ _) (meets_str_split_sep z y t t' h2 h1 h3 hz hp) ?_;exact⟨.ref _,_,I.aht (its:=strsFrom s.toks (splitM z y)) (Vals.strsFrom _ _) (by rw[aBp];exact hp),rfl,q _ I.fresh⟩
def VF{z y:Str}{l:AT}(h1:cL X CL b o δ (.str z) δ1)(h2:cL X CL b e δ1 (.str y) δ2)(dI:BJ z y=true)(hz:z.length<=sizeLine)(hl:splitM z y=l)(hp:l.length<=sizeLine)
   (fY:attributeBase o "split" X.env (eval o X.env)=eval o X.env:=by rfl)
   (oX:AB X pos e:=by rfl)
   (hline:(apos.endLine==pos.line)=true:=by rfl) (hs:AC X e []:=by exact bP rfl) :
   bU X CL b (.Call (.Attribute o "split" apos) [e] [] pos) δ (.lst ((l.map L3.D.str).map T.sh)) δ2:=fun H Z σ ts vs Q S k=>
 cE (Cw aC4 PySem.F.slot_str_split PySem.F.type_str_split ah6 cR (bW cR dQ hs) fY oX hline hs rfl)
   (h1 H Z σ ts vs _ S fun v1 H1 Z1 z1 k1 S1 r1=>by
     have e1:=r1.sc rfl;subst e1;refine⟨rfl,h2 H1 Z1 σ ts vs _ S1 fun v2 H2 Z2 z2 k2 S2 r2=>?_⟩;have e2:=r2.sc rfl;subst e2;subst hl;refine⟨z,y,rfl,rfl,dI,hz,hp,fun p hpn=>?_⟩;have rc:aE X.K CL Z2 ((splitM z y).map L3.D.str) ((splitM z y).map V.str):=aE.QX _;obtain⟨c,S4⟩:=(cu.za rc S2).C6 (g0:=[]) Uf hpn;exact k _ _ _ (z1.trans z2) (k1.trans (k2.trans c)) S4)
end L3
namespace L3
open PySem PySem.Spec PyProof.Rows L2
def aeN:Key->D
 | .inl i=>.int i
 | .inr x=>.str x
def zH(aY:Bn)(k:Key):Option D:=(aY.find? fun kv=>decide (kv.1=k)).map (·.2)
def Cy(aY:Bn)(k:Key)(d:D):Bn:=
 if (aY.any fun kv=>decide (kv.1=k))=true then aY.map (fun kv=>if kv.1=k then(kv.1,d) else kv) else aY++[(k,d)]
variable{K:Frag}{CL:BA}{b:Bx}{H Z:Hp}{δ:At}{σ:L2.St}{ts:CI}{vs:BS}{v:V}{gs:Bz}{d:D}{aY:Bn}
theorem cC.length{aY:Bn}(h:cC K CL Z aY gs):aY.length=gs.length:=
 cC.ind (P:=fun aY gs=>aY.length=gs.length) rfl (fun _ _ i=>congrArg (· + 1) i) h
theorem cC.val{k:Key}:∀{aY:Bn} {gs:Bz},cC K CL Z aY gs->(zH aY k=none/\uI gs k=none)\/∃d v,zH aY k=some d/\uI gs k=some v/\b7 K CL Z d v
 | _,_,.nil=>.inl ⟨rfl,rfl⟩
 | _,_,.cons (x:=x) (d:=d) (v:=v) h r=>by
   by_cases e:x=k
   . exact .inr ⟨d,v,by simp[zH,e],zR e,h⟩
   . rcases cC.val (k:=k) r with⟨h1,h2⟩|⟨d',v',h1,h2,h3⟩
     . exact .inl ⟨by simpa [zH,e] using h1,by rw[wN e];exact h2⟩
     . exact .inr ⟨d',v',by simpa [zH,e] using h1,by rw[wN e];exact h2,h3⟩
theorem cC.any{k:Key}:∀{aY:Bn} {gs:Bz},cC K CL Z aY gs->(aY.any fun kv=>decide (kv.1=k))=(gs.any fun kv=>decide (kv.1=k))
 | _,_,.nil=>rfl
 | _,_,.cons _ r=>by rw[aCZ,aCZ,cC.any r]
theorem cC.repl{k:Key}(q:b7 K CL Z d v):∀{aY:Bn} {gs:Bz},cC K CL Z aY gs->cC K CL Z (aY.map (fun kv=>if kv.1=k then(kv.1,d) else kv)) (gs.map (fun kv=>if kv.1=k then(kv.1,v) else kv))
 | _,_,.nil=>.nil
 | _,_,.cons (x:=x) h r=>by
   rw[aBK,aBK];by_cases e:x=k
   . rw[aBE e,aBE e];exact .cons q (cC.repl q r)
   . rw[aBx e,aBx e];exact .cons h (cC.repl q r)
theorem cC.snoc{k:Key}(q:b7 K CL Z d v):∀{aY:Bn} {gs:Bz},cC K CL Z aY gs->cC K CL Z (aY++[(k,d)]) (gs++[(k,v)])
 | _,_,.nil=>.cons q .nil
 | _,_,.cons h r=>.cons h (cC.snoc q r)
variable{k:Key}
theorem cC.put(q:b7 K CL Z d v)(r:cC K CL Z aY gs):cC K CL Z (Cy aY k d) (putK gs k v):=by
 unfold Cy putK;rw[r.any];split
 . exact r.repl q
 . exact r.snoc q
theorem b7.key(r:b7 K CL Z (aeN k) v):v=kV k:=by
 cases k with
 | inl i=>exact r.sc rfl
 | inr x=>exact r.sc rfl
theorem cu.arq{p:Addr}(S:cu K CL b H Z δ σ ts vs)(hp:H p=none):aM H (upd H p (.dK []))/\cu K CL b (upd H p (.dK [])) Z δ σ (.mz []::ts) (.ref p::vs):=by
 obtain⟨fp,gp,e,r,nd,k⟩:=S.rep;have zp:Z p=none:=S.zh.free hp;have sh:aM H (upd H p (.dK [])):=aM.upd hp;have keep:∀a∈fp++gp,a≠p:=fun a ha=>by
   have:∃o,H a=some o:=by
     rcases aBy.mp ha with h|h
     . exact e.there a h
     . exact r.there a h
   obtain⟨o,q⟩:=this;exact cy q hp
 refine⟨sh,⟨⟨fp,[p]++gp,e.mono (.refl _) (fun a ha=>aA (keep a (aBN _ ha))),.cons (.mz bA .nil) (r.mono (.refl _) fun a ha=>aA (keep a (by simp[ha]))),?_,fun a ha=>?_⟩,S.bh.trans sh,S.zz,S.zh.trans sh,S.new,fun a o q i=>?_,S.tab⟩⟩
 . refine(aCN (l₁:=fp) (l₂:=gp) (a:=p)).nodup_iff.mpr (aCu.mpr ⟨fun h=>keep p h rfl,nd⟩)
 . rcases aBq.mp ((aCN (l₁:=fp) (l₂:=gp) (a:=p)).mem_iff.mp ha) with h|h
   . subst h;exact⟨zp,S.bh.free hp⟩
   . exact k a h
 . by_cases ha:a=p
   . subst ha;rw[bA]at q;cases q;cases i
   . rw[aA ha]at q;exact S.tp a o q i
variable{i:Nat}
theorem cu.ah7(k:Key)(S:cu K CL b H Z δ σ (.sh d::ts) (v::vs))(hi:δ[i]? = some (some (.mz aY))) :
   ∃a gs,σ[i]? = some (some (.ref a))/\H a=some (.dK gs)/\gs.length=aY.length/\cu K CL b (upd H a (.dK (putK gs k v))) Z (δ.set i (some (.mz (Cy aY k d)))) σ ts vs:=by
 obtain⟨fp,gp,e,r,nd,kk⟩:=S.rep;obtain⟨v0,f1,f2,f3,hv,BG,rt,put,_⟩:=e.get hi;subst BG;cases rt with
 | @mz a gs _ ha rs=>
   cases r with
   | @cons _ _ _ _ ft gr q1 q2=>
     cases q1 with
     | sh q1=>
       have ne:∀c∈(f1++f3)++gr,c≠a:=fun c hc e=>by
         subst e;have hp:((f1++([c]++f3))++([]++gr)).Perm (c::((f1++f3)++gr)):=by
           rw[aDa,List.singleton_append];exact(aCN.append_right _)
         exact(aCu.mp (hp.nodup_iff.mp nd)).1 hc
       refine⟨a,gs,hv,ha,rs.length.symm,?_⟩;have r1:b8 K CL (upd H a (.dK (putK gs k v))) Z (.mz (Cy aY k d)) (.ref a) [a]:=.mz bA (rs.put q1);have e2:=put (H':=upd H a (.dK (putK gs k v))) (.refl _) (fun c hc=>aA (ne c (by
         rcases aBy.mp hc with h|h
         . simp[h]
         . simp[h]))) r1
       rw[lG hv]at e2;exact S.Zd rfl kk Uf e2 (q2.mono (.refl _) fun c hc=>aA (ne c (by simp[hc]))) nd fun c hc=>hc
section
variable{X:Cx}{δ1 δ2:At}{e e1 e2:Expr}{d:L3.D}{D:ja}{pos pp ps:Pos}{x:Str}{jM:Cl}{aY:List (Key×L3.D)}
def acU:bU X CL b (.Dict [] [] pos) δ (.mz []) δ:=fun H Z σ ts vs Q S kk=>cE ahB fun p hp=>by
 obtain⟨c,S1⟩:=S.arq hp;exact kk _ _ Z (.refl _) c S1
def ars(k:Key)(hu:X.A.units+64<cLine)(n:Vn X i x)(h:bU X CL b e δ (.sh d) δ1)(h2:cL X CL b e2 δ1 (aeN k) δ1)(h1:δ1[i]? = some (some (.mz aY)))(hl:aY.length<=1000000)(kk:gw X CL b jM (δ1.set i (some (.mz (Cy aY k d)))) D)
   (hs:swapsWith e (some (.Subscript (.Name x pp) e2 ps)) pos.line X.env=pure false:=by rfl) :
   gw X CL b (.Assign [.Subscript (.Name x pp) e2 ps] e pos::jM) δ D:=eK fun H Z σ ts vs E S M=>
 C5 (amu Q.a (qI n.hi n.hv n.hd n.uG) cR cR hs) (h H Z σ ts vs _ S fun v H1 Z1 z1 k1 S1=>by
   obtain⟨v0,e0,_⟩:=S1.look h1;refine⟨v0,e0,h2 H1 Z1 σ _ _ _ S1 fun v2 H2 Z2 z2 k2 S2 r2=>?_⟩;obtain⟨a,gs,ea,ha,hg,S3⟩:=S2.ah7 k h1;rw[e0]at ea;cases ea;exact⟨a,_,rfl,by rw[r2.key];exact ahy.k ha (by rw[hg];exact aC8 hl (by rw[aB8];decide)),M.nx _ σ _ Z2 (z1.trans z2) S3 kk⟩)
def amV(k:Key)(hu:X.A.units+64<cLine)(h1:cL X CL b e1 δ (.mz aY) δ1)(h2:cL X CL b e2 δ1 (aeN k) δ2)(hk:zH aY k=some d)(hs:Y9 e2:=by exact fun _ _=>rfl):cL X CL b (.Subscript e1 e2 pos) δ d δ2:=fun H Z σ ts vs Q S kk=>
 cE (amt Q.a cR cR hs) (h1 H Z σ ts vs _ S fun v H1 Z1 z1 k1 S1 r1=>h2 H1 Z1 σ ts vs _ S1 fun v2 H2 Z2 z2 k2 S2 r2=>by
   cases r1 with
   | @mz a gs _ ha rr=>
     have rr':=rr.mono k2;rcases rr'.val (k:=k) with⟨h0,_⟩|⟨d',v',h0,hv,rd⟩
     . rw[hk]at h0;cases h0
     . rw[hk]at h0;cases h0;refine⟨a,v',rfl,?_,kk v' H2 Z2 (z1.trans z2) (k1.trans k2) S2 rd⟩;rw[r2.key,← hv];exact J3.k (k2 _ _ ha))
def Mv(rr:cC K CL Z aY gs):(uI gs k).isSome=(zH aY k).isSome:=by
 rcases rr.val (k:=k) with⟨h0,h1⟩|⟨d',v',h0,h1,_⟩
 . rw[h0,h1];rfl
 . rw[h0,h1];rfl
theorem amW(k:Key)(hu:X.A.units+64<cLine)(h1:cL X CL b e1 δ (aeN k) δ1)(h2:cL X CL b e2 δ1 (.mz aY) δ2)(hm:behindInMarks .NotIn e2=false) :
   xO X CL b (.Compare e1 [.NotIn] [e2] pos) δ (!(zH aY k).isSome) δ2:=fun H Z σ ts vs Q S kk=>
 J4 (ag7 (aes Q.a cR cR) hm) (h1 H Z σ ts vs _ S fun v H1 Z1 z1 k1 S1 r1=>h2 H1 Z1 σ ts vs _ S1 fun v2 H2 Z2 z2 k2 S2 r2=>by
   cases r2 with
   | @mz a gs _ ha rr=>
     refine⟨a,uI gs k,rfl,by rw[r1.key];exact J3.k ha,_,rfl,?_⟩;rw[Mv rr];exact kk H2 Z2 (z1.trans z2) (k1.trans k2) S2)
end
variable{t:T}{w:V}{f c:Str}{fs2:BN}
theorem d8.amX{ft:BT}(rt:b8 K CL H Z t v ft):∀{U3:BN} {gs:Bi} {fp:BT},d8 K CL H Z (U3++(f,.sh (.val v))::fs2) gs fp->∃fp',d8 K CL H Z (U3++(f,t)::fs2) gs fp'/\fp'.Perm (fp++ft)
 | [],_,_,r=>by
   cases r with
   | @cons _ _ v' _ _ f1 gp h r=>
     cases h with
     | sh h=>
       cases h;exact⟨ft++gp,.cons rt r,aCr⟩
 | (y,u)::U3,_,_,r=>by
   cases r with
   | @cons _ _ v' _ _ f1 gp h r=>
     obtain⟨fp',r',p⟩:=d8.amX rt (U3:=U3) r;refine⟨f1++fp',.cons h r',?_⟩;rw[aBA];exact p.append_left f1
theorem cu.amX{U3:BN}(S:cu K CL b H Z δ σ (.ins c (U3++(f,.sh (.val v))::fs2)::t::ts) (w::v::vs)):cu K CL b H Z δ σ (.ins c (U3++(f,t)::fs2)::ts) (w::vs):=by
 obtain⟨fp,gp,e,r,nd,k⟩:=S.rep;cases r with
 | @cons _ _ _ _ g1 g2 r1 r2=>
   cases r2 with
   | @cons _ _ _ _ g3 g4 r3 r4=>
     cases r1 with
     | @ins a dx _ gs _ fp1 ha rf=>
       obtain⟨fp',rf',p⟩:=d8.amX r3 rf;have pm:(fp++((a::fp')++g4)).Perm (fp++((a::fp1)++(g3++g4))):=by
         refine aCi fp ?_;rw[← aBA];refine List.Perm.append_right g4 ?_;rw[aB3];exact List.Perm.cons a p
       exact⟨⟨fp,(a::fp')++g4,e,.cons (.ins ha rf') r4,pm.nodup_iff.mpr nd,fun c hc=>k c (pm.mem_iff.mp hc)⟩,S.bh,S.zz,S.zh,S.new,S.tp,S.tab⟩
def PAv(X:Cx)(CL:BA)(b:Bx)(es:CA)(δ:At)(dv:V->Ap)(t:T)(δ':At):Prop:=
 ∀(H Z:Hp) (σ:L2.St) (ts:CI) (vs:BS) (Q:BS->Hp->Prop),cu X.K CL b H Z δ σ ts vs →
   (∀us H' Z' v,aM Z Z'->aM H H'->cu X.K CL b H' Z' δ' σ (t::ts) (v::vs)->aE X.K CL H' (dv v) us->Q us H')->ahD X es σ H Q
theorem T.Mw{f:Str}{v:V}{fs2:BN}(h2:T.cz fs2=true):∀{U3:BN},T.cz U3=true->T.cz (U3++(f,.sh (.val v))::fs2)=true
 | [],_=>by rw[aDa,T.cz,h2];rfl
 | (x,t)::U3,h=>by
   rw[T.cz,aB6]at h;rw[aB3,T.cz,h.1,T.Mw h2 h.2];rfl
variable{X:Cx}{δ1 δ2:At}{e:Expr}{es:CA}{pos pp:Pos}{ds:Ap}{d:D}{dv:V->Ap}
def VG(h:bU X CL b e δ t δ1)(r:BAv X CL b es δ1 ds δ2)(hs:notStar e=true:=by rfl):PAv X CL b (e::es) δ (fun v=>.val v::ds) t δ2:=fun H Z σ ts vs Q S k=>
 aev (bW cR paS (bP hs)) (h H Z σ ts vs _ S fun v H1 Z1 z1 k1 S1=>r H1 Z1 σ _ _ _ S1 fun us H2 Z2 z2 k2 S2 r2=>k (v::us) H2 Z2 v (z1.trans z2) (k1.trans k2) S2 (.cons (.val v) r2))
def EE(h:cL X CL b e δ d δ1)(r:PAv X CL b es δ1 dv t δ2)(hs:notStar e=true:=by rfl):PAv X CL b (e::es) δ (fun v=>d::dv v) t δ2:=fun H Z σ ts vs Q S k=>
 aev (bW cR paS (bP hs)) (h H Z σ ts vs _ S fun v H1 Z1 z1 k1 S1 r1=>r H1 Z1 σ ts vs _ S1 fun us H2 Z2 v2 z2 k2 S2 r2=>k (v::us) H2 Z2 v2 (z1.trans z2) (k1.trans k2) S2 (.cons (r1.mono k2) r2))
variable{A:Type}{k n:Nat}{x:Str}{arg:A->Ap}{Pre:A->Prop}
def mkP{res:A->BN}(a:V->A){U3:BN}(F:Fm X CL x k n arg Pre res)(hg:Gl X x)(h:PAv X CL b (e::es) δ dv t δ1)(ha:∀v,arg (a v)=dv v)(hp:∀v,Pre (a v))(hr:∀v,res (a v)=U3++(f,.sh (.val v))::fs2)(hc:T.cz U3=true)(hc2:T.cz fs2=true)(hn:∀v,(arg (a v)).length+1=n:=by exact fun _=>rfl)
   (Qd:AD x:=by decide) (he:AC X e es:=by exact bP rfl) (hpl:AL X pos es:=by rfl) :
   bU X CL b (.Call (.Name x pp) (e::es) [] pos) δ (.ins x (U3++(f,t)::fs2)) δ1:=fun H Z σ ts vs Q S kk=>by
 obtain⟨f',fd,ps,M,F1,hm,hb⟩:=F.ex;exact cE (acy M F1 F.room hg hm hb .nil acH paS Qd he hpl) (h H Z σ ts vs _ S fun us H1 Z1 v z1 k1 S1 r y dx hx hdx ne=>by
   rw[aBW];refine⟨H1,H1,a v,y,dx,us,rfl,hx,hdx,ne,rfl,.refl _,fun _ _ q _=>q,by rw[ha];exact r,hn v,hp v,S1.aqS,fun H' W' fp hh ww wh nw tp rt nd own=>⟨rfl,?_⟩⟩;obtain⟨Z',z',S'⟩:=S1.back hh S1.zh ww wh nw tp rt nd own (.inr (by rw[T.clean,hr];exact T.Mw hc2 hc));rw[hr]at S';exact kk _ H' Z' (z1.trans z') (k1.trans hh) S'.amX)
namespace Rv
def aeP:PySem.Slot "reversed" "__init__" "object.__init__":=
 .of (owner:="object") (n:="__init__") (by rw[typeLookup_type,builtinLookup_eq_fast];kernel_rfl) Q.b Q.b Q.b
   (by first|exact .inl Q.b|exact .inr Q.b) (by rw[isSubtype_type];kernel_rfl)
def called:TypeCalled "reversed" "reversed.__new__" "object.__init__":=
 ⟨Wl,Wl,⟨_,_,PySem.F.mro_reversed⟩,PySem.F.made_reversed,Wl,PySem.F.sub_reversed_self,aeP⟩
def obj(t:Addr)(i:Int):Obj:={cls:=.type "reversed",data:=.fields #[.ref t,rawInt i]}
end Rv
def constInt:Expr->B2
 | .Constant (.int i) _ _=>some i
 | .UnaryOp .USub (.Constant (.int i) _ _) _=>some (-i)
 | _=>none
def GQ:CA->Option BB
 | []=>some []
 | e::es=>(constInt e).bind fun x=>(GQ es).map (x::·)
def aeQ{x:Int}(h:constInt e=some x):bU X CL b e δ (.sh (.int x)) δ:=by
 unfold constInt at h;split at h
 . cases h;exact GF
 . cases h;exact cS (ak GF)
 . cases h
def VH{x:Int}(h:constInt e=some x):notStar e=true:=by
 unfold constInt at h;split at h
 . rfl
 . rfl
 . cases h
theorem acV:∀{es:CA} {l:BB},GQ es=some l->Vm X CL b es δ ((l.map D.int).map T.sh) δ
 | [],l,h=>by
   have e:l=[]:=(aBX h).symm;subst e;exact cj
 | e::es,l,h=>by
   rw[GQ]at h;obtain⟨x,hx,h⟩:=Option.bind_eq_some_iff.mp h;obtain⟨l',hl,rfl⟩:=aDj.mp h;exact bE (aeQ hx) (acV hl) (bP (VH hx))
variable{δ3:At}{e1 e2:Expr}{ds Dc:Ap}{p2:Pos}
theorem cu.Mx{d:L3.D}(S:cu K CL b H Z δ σ (.sh d::ts) (v::vs)):b7 K CL Z d v:=by
 obtain⟨fp,gp,e0,r0,nd,ow⟩:=S.rep;cases r0 with
 | cons q1 q2=>
   cases q1 with
   | sh r=>exact r
theorem xT{lo hi:Option Expr}{l h:B2}(h1:bU X CL b e δ (.sh (.tup ds)) δ1)(hw:¬ (HT.jF ds.length 0 l=0/\HT.jF ds.length ds.length h=ds.length))(h2:TOv X CL b lo δ1 l δ2)(h3:TOv X CL b hi δ2 h δ3) :
   bU X CL b (.Subscript e (.Slice lo hi none p2) pos) δ (.sh (.tup (cutD ds l h))) δ3:=fun H Z σ ts vs Q S k=>by
 obtain⟨t2,po2,w2⟩:=h2;obtain⟨t3,po3,w3⟩:=h3;refine cE (L8 aqF cR po2 po3) (h1 H Z σ ts vs _ S fun v H1 Z1 z1 k1 S1=>w2 H1 Z1 σ _ _ _ S1 fun H2 Z2 z2 k2 S2=>w3 H2 Z2 σ _ _ _ S2 fun H3 Z3 z3 k3 S3=>?_);have r:=S3.Mx;cases r with
 | tup hq rr=>
   refine⟨_,_,rfl,aM.YF S3.zh hq,by rw[← rr.length];exact hw,fun p hp=>?_⟩;have rc:=rr.cut l h;obtain⟨a,c,S4⟩:=(cu.za rc S3.pop).GH (by simp[rc.length]) hp;obtain⟨Z5,z5,S5⟩:=S4.Mh;rw[T.fj,kL]at S5;exact k _ _ Z5 (z1.trans (z2.trans (z3.trans (a.trans z5)))) (k1.trans (k2.trans (k3.trans c))) S5
theorem ah8(h1:bU X CL b e1 δ (.sh (.tup ds)) δ1)(h2:bU X CL b e2 δ1 (.sh (.tup Dc)) δ2)(n1:ds≠[])(n2:Dc≠[])(hz:ds.length+Dc.length<=sizeLine) :
   bU X CL b (.BinOp e1 .Add e2 pos) δ (.sh (.tup (ds++Dc))) δ2:=fun H Z σ ts vs Q S k=>
 cE (QI acF cR cR) (h1 H Z σ ts vs _ S fun v1 H1 Z1 z1 k1 S1=>h2 H1 Z1 σ _ _ _ S1 fun v2 H2 Z2 z2 k2 S2=>by
   have r2:=S2.Mx;have r1:=S2.pop.Mx;cases r1 with
   | tup YG QT=>
     cases r2 with
     | tup Qi Vy=>
       have e1:=QT.length;have e2:=Vy.length;refine⟨_,_,_,_,rfl,rfl,aM.YF S2.zh YG,aM.YF S2.zh Qi,fun z=>n1 (aCI (by rw[e1,z];rfl)),We,fun z=>absurd (aCI (by rw[e2,z];rfl)) n2,fun _ p hp=>?_⟩;have rc:=aE.app QT Vy;obtain⟨a,c,S4⟩:=(cu.za rc S2.pop.pop).GH (by simp[rc.length,e1,e2]) hp;obtain⟨Z5,z5,S5⟩:=S4.Mh;rw[T.fj,kL]at S5;exact k _ _ Z5 (z1.trans (z2.trans (a.trans z5))) (k1.trans (k2.trans c)) S5)
variable{ι:Nat->Nat}
def turned(ι:Nat->Nat)(i j:Nat):Nat->Nat:=fun k=>if i<=k/\k<j then ι (i+j-1-k) else ι k
def mkL(hi:X.N[i]? = some x)(h:X.env.scope.names.lookup x=some .local)(hf:X.fn x=true)(hd:AD x:=by decide)(hc:AE x:=by decide):Ln X i x:=⟨⟨hi,.inl h,hd,hc⟩,.inl h,.inl hf⟩
def mkC(hi:X.N[i]? = some x)(h:X.env.scope.names.lookup x=some .cell)(hf:X.fn x=true)(hd:AD x:=by decide)(hc:AE x:=by decide):Ln X i x:=⟨⟨hi,.inr (.inl h),hd,hc⟩,.inr h,.inl hf⟩
def aui{P:Program}{w:World}{mg:B0}{base:Heap}{f:Addr}{fd:FuncData}{ps:AT}{sp:Sp}(G:oS P w K mg base J2 k f fd ps sp)(m:mg x=some (.ref f))(q:keepIn K (.ref f)=true)(b:Binds K fd ps []) :
   ∃f fd ps,oS P w K mg base J2 k f fd ps sp/\mg x=some (.ref f)/\keepIn K (.ref f)=true/\Binds K fd ps []:=⟨_,_,_,G,m,q,b⟩
variable{δc:At}{scope:Scope}{y:Str}{Nc:AT}{ix:CU}{elt iter:Expr}{ifs:CA}{px pc:Pos}{p:L3.D->Bool}{g:L3.D->T}
def auj(sc:wQ X scope y Nc ix):xS X scope [y] Nc ix:=⟨sc.kind,sc.Sd,sc.nd,sc.names,(fun x hx=>by rw[aBB]at hx;subst hx;exact sc.own),sc.frees,sc.hd,sc.ixs⟩
def auk(sc:wQ X scope y Nc ix)(h:Block X CL scope Nc ifs elt δc ds p g)(h1:AD y)(h2:AE y):GO X CL scope Nc [y].length (.Name y px) part1 ifs elt δc ds p g:=fun C s0 H0 f0 b'=>
 ⟨ahY (i:=0) sc.nd (Zh (by rw[sc.hd];rfl) sc.own h1 h2),fun d hd=>⟨[d],rfl,rfl,(h C s0 H0 f0 b' d hd).1,(h C s0 H0 f0 b' d hd).2⟩⟩
def jN(sc:wQ X scope y Nc ix)(hc:X.calm=true)(h:TIt X CL b (.Name y px) iter δ ds δ1)(hb:(δc=Vp δ1 ix/\∀d∈ds,(g d).clean=true)\/δc=Vq δ1 ix)(inner:Block X CL scope Nc ifs elt δc ds p g)(hlen:ds.length<=sizeLine)
   (hs:AN X iter:=by intro _;rfl) (h1:AD y:=by decide) (h2:AE y:=by decide):bU X CL b (.ListComp elt [⟨.Name y px,iter,ifs,0⟩] scope pos) δ (.lst ((ds.filter p).map g)) δ1:=
 VA (xs:=[y]) (auj sc) hc (ahX h) hb (auk sc inner h1 h2) hlen hs
variable{jM:Cl}
def tF{D:ja}{pos':Pos}{gg:L3.D->T}(g:Gx X)(n:Ln X i x)(sc:wQ X scope y Nc ix)(h:TIt X CL b (.Name y px) iter δ ds δ1)(hb:(δc=Vp δ1 ix/\∀d∈ds,(gg d).clean=true)\/δc=Vq δ1 ix)(inner:Block X CL scope Nc ifs elt δc ds p gg)
   (hlen:ds.length<=sizeLine) (k:gw X CL b jM (δ1.set i (some (.lst ((ds.filter p).map gg)))) D) (hl:i<δ1.length)
   (Se:swapsWith (.ListComp elt [⟨.Name y px,iter,ifs,0⟩] scope pc) (some (.Name x pos')) pos.line X.env=pure true\/swapsWith (.ListComp elt [⟨.Name y px,iter,ifs,0⟩] scope pc) (some (.Name x pos')) pos.line X.env=pure false) (hs:AN X iter:=by intro _;rfl)
   (h1:AD y:=by decide) (h2:AE y:=by decide):gw X CL b (.Assign [.Name x pos'] (.ListComp elt [⟨.Name y px,iter,ifs,0⟩] scope pc) pos::jM) δ D:=
 ah3 (xs:=[y]) g n (auj sc) (ahX h) hb (auk sc inner h1 h2) hlen k hl Se hs
variable{d:L3.D}
def aq(n:Ln X i x)(h:δ[i]? = some (some (.sh d)):=by rfl):cL X CL b (.Name x pos) δ d δ:=ak (v_ n.1 h)
structure bB(X:Cx):Prop where
 g:Gx X
 u:X.A.units+64<cLine
abbrev c6:NameKind:=.globalImplicit
abbrev fF:NameKind:=.local
def rL{N P:AT}{sc:Scope}(h1:sc.kind=.function:=by rfl)(h2:sc.isCoroutine=false:=by rfl)(h3:sc.isGenerator=false:=by rfl)(h4:N.Nodup:=by decide +kernel)(h5:N.take P.length=P:=by rfl)(h6:∀x∈P,sc.names.lookup x=some .local\/sc.names.lookup x=some .cell:=by decide +kernel)(h7:∀y∈sc.names,y.2 ≠ .free:=by decide +kernel):gF N P sc:=⟨h1,h2,h3,h4,h5,h6,h7⟩
variable{tb:Cc}
def Cq(c:chk X.env.scope tb=true)(j:Nat)(hj:tb[j]? = some (x,.local):=by rfl)(hi:X.N[i]? = some x:=by rfl)(hf:X.fn x=true:=by rfl)(hd:AD x:=by decide)(hc:AE x:=by decide):Ln X i x:=mkL hi (iL c j hj) hf hd hc
def frC(c:chk X.env.scope tb=true)(j:Nat)(hj:tb[j]? = some (x,.cell):=by rfl)(hi:X.N[i]? = some x:=by rfl)(hf:X.fn x=true:=by rfl)(hd:AD x:=by decide)(hc:AE x:=by decide):Ln X i x:=mkC hi (iL c j hj) hf hd hc
def De(c:chk X.env.scope tb=true)(j:Nat)(hj:tb[j]? = some (x,.globalImplicit):=by rfl):Gl X x:=iL c j hj
def bG{m:Nat}{arg:A->Ap}{Pre:A->Prop}{res:A->T}(F:∃f fd ps,oS X.prog X.w X.K X.mg X.base J2 k f fd ps (spA X.K CL n arg Pre res)/\X.mg x=some (.ref f)/\keepIn X.K (.ref f)=true/\Binds X.K fd ps [])(r:mw m X.A)(h:k<=m:=by decide):Fc X CL x k n arg Pre res:=⟨F,r.mono h⟩
section
variable{D:ja}
def TEm(X:Cx)(CL:BA)(b:Bx)(e:Expr)(δ:At)(t:T)(δ':At):Prop:=
 ∀(H Z:Hp) (σ:L2.St) (ts:CI) (vs:BS) (Q:VK),cu X.K CL b H Z δ σ ts vs->(∀v H' Z',aM Z Z'->cu X.K CL b H' Z' δ' σ (t::ts) (v::vs)->Q v H')->Za X e σ H Q
theorem bU.m(h:bU X CL b e δ t δ1):TEm X CL b e δ t δ1:=fun H Z σ ts vs Q S k=>h H Z σ ts vs Q S fun v H' Z' z _ S'=>k v H' Z' z S'
def ah9(h:TEm X CL b e δ t δ1)(k:D.nx δ1)(hs:swapsWith e none pos.line X.env=pure false:=by rfl):TSv X CL b (.Expr e pos) δ D:=fun H Z σ ts vs E S M=>C5 (Ep cR hs) (h H Z σ ts vs _ S fun v H1 Z1 z1 S1=>M.nx δ1 σ H1 Z1 z1 S1.pop k)
def Lq(h:TEm X CL b e δ t δ1)(k:gw X CL b jM δ1 D)(hs:swapsWith e none pos.line X.env=pure false:=by rfl):gw X CL b (.Expr e pos::jM) δ D:=eK (ah9 h k hs)
end
variable{o:Expr}{apos:Pos}
theorem amY{l:AT}{its:BY}(r:Vals (l.map V.str) its):∃ps:List (Str×Tok),its=strValues ps/\ps.map (·.1)=l:=by
 induction l generalizing its with
 | nil=>cases r;exact⟨[],rfl,rfl⟩
 | cons x l ih=>
   rw[aBK]at r;cases r with
   | cons r rs=>
     obtain⟨t,rfl⟩:=r;obtain⟨ps,e1,e2⟩:=ih rs;exact⟨(x,t)::ps,by rw[e1];rfl,by rw[aBK,e2]⟩
def amZ:MtR X "str.join" (fun x vs H Q=>∃(z:Str) (p:Addr) (l:AT),x=.str z/\vs=[.ref p]/\sX X.K H p (l.map V.str)/\JoinOk z l=true/\Q (.str (Txt.join z l)) H):=by
 intro pins s σ H x vs v us Q I rx rv h;obtain⟨z,p,l,rfl,rfl,hq,dI,q⟩:=h;obtain⟨t,rfl⟩:=rx;obtain⟨u,rfl,ru⟩:=rv.one;cases ru;obtain⟨its,r,pl,_⟩:=I.list hq;obtain⟨ps,rfl,e⟩:=amY r;exact SC.join pl.isList e dI fun t' k=>⟨.str _,H,I.tok k,⟨_,rfl⟩,q⟩
def xU{z:Str}{l:AT}(h1:cL X CL b o δ (.str z) δ1)(h2:cL X CL b e δ1 (.lst (l.map L3.D.str)) δ2)(dI:JoinOk z l=true)
   (fY:attributeBase o "join" X.env (eval o X.env)=eval o X.env:=by rfl)
   (oX:AB X pos e:=by rfl)
   (hline:(apos.endLine==pos.line)=true:=by rfl) (hs:AC X e []:=by exact bP rfl) :
   bU X CL b (.Call (.Attribute o "join" apos) [e] [] pos) δ (.sh (.str (Txt.join z l))) δ2:=fun H Z σ ts vs Q S k=>
 cE (Cw aC4 PySem.F.slot_str_join PySem.F.type_str_join amZ cR (bW cR dQ hs) fY oX hline hs rfl)
   (h1 H Z σ ts vs _ S fun v1 H1 Z1 z1 k1 S1 r1=>by
     have e1:=r1.sc rfl;subst e1;refine⟨rfl,h2 H1 Z1 σ ts vs _ S1 fun v2 H2 Z2 z2 k2 S2 r2=>?_⟩;cases r2 with
     | @lst p us _ hq rr=>
       have e2:=rr.strs;subst e2;exact⟨z,p,l,rfl,rfl,hq,dI,k _ _ _ (z1.trans z2) (k1.trans k2) (S2.push (.str _))⟩)
def aum(lo c:Int)(n:Nat):It:=⟨fun i _=>i<n,fun i H x H'=>H'=H/\x=.int (lo+i*c),fun i _=>n<=i⟩
def aeS{P:Program}{w:World}{tg:Expr}(it:Addr)(lo c:Int)(n:Nat):Turn P w K tg (aum lo c n) [it] it (fun i h=>IsRangeIter h it (lo+(i:Nat)*c) ((n:Int)-(i:Nat)) c) where
 mem:=aBB.mpr rfl
 obj:=fun i h st b hb=>by
   cases aBB.mp hb;exact⟨_,st,fun v z=>by
     have z':Data.fields _=Data.cell v:=z;cases z'⟩
 keep:=fun i h h' st k=>k it (aBB.mpr rfl) _ st
 item:=by
   intro X hP hw hK hc i pins s σ H E I hf st hg;subst hP hw hK;obtain⟨f0,f1,f2,f3,f4,f5⟩:=hf it (aBB.mpr rfl);have W:=Walks.range (prog:=X.prog) (w:=X.w) (I.ok.hd hc) it lo c n;refine W.item i s _ _ hg st fun v h' tk hv Vc kk=>?_;obtain⟨t,rfl⟩:=hv;have I1:Inv X pins σ H {s with heap:=h',toks:=tk}:=I.turned (fun b o hb e=>kk b o (by simpa using hb) e) f0 f1 f3 f4 f5;exact⟨_,rfl,QH (s:={s with heap:=h',toks:=tk}) (n:="range_iterator") Vc rfl rfl Q.c ⟨.int (lo+i*c),H,I1,⟨t,rfl⟩,⟨rfl,rfl⟩,Vc,fun b hb=>(hf b hb).1⟩⟩
 done:=by
   intro X hP hw hK hc i pins s σ H E I hf st hg;subst hP hw hK;obtain⟨f0,f1,f2,f3,f4,f5⟩:=hf it (aBB.mpr rfl);exact wpAny_pyNext_range_end (I.ok.hd hc) st (by have:n<=i:=hg;omega) fun h' eb=>⟨rfl,I.turned (t':=s.toks) (fun b o hb e=>eb b o hb e) f0 f1 f3 f4 f5⟩
 self:=fun _ _ _ _ _ st h=>wpAny_pyIter_rangeiter st h
def zI(lo hi:Int):Nat:=((hi-lo+1) / 2).toNat
def step_size{lo hi:Int}(h0:0<=lo)(h1:lo<=1000)(h2:0<=hi)(h3:hi<=1000):Builtin.Range.rangeSize lo hi 2=(zI lo hi:Int)/\Builtin.Range.small lo hi 2=true:=by
 have e:Builtin.Range.rangeSize lo hi 2=(zI lo hi:Int):=by
   unfold Builtin.Range.rangeSize zI;simp only[show(2:Int) > 0 by decide,aDQ];split<;>omega
 refine⟨e,?_⟩;unfold Builtin.Range.small;rw[e];unfold zI;simp only[Builtin.Range.rangeFitsLong,aB6,aDp,aCG,aDh,show(2:Int) > 0 by decide,aDQ];omega
variable{tg:Expr}
def aun(ta:TA):TI:=fun σ H R=>ta σ H fun vs H1=>∃i j:Int,vs=[.int i,.int j,.int 2]/\(0<=i/\i<=1000/\0<=j/\j<=1000)/\R (aum i 2 (zI i j)) H1
def aeT{a b c:Expr}{ta:TA}{p:Pos}(hg:Gl X "range")(hm:X.mg "range" = none)(ha:PA X [a,b,c] ta)(hs:starEach [a,b,c] X.env=[(false,eval a X.env),(false,eval b X.env),(false,eval c X.env)]:=by rfl)(zF:AR X b c:=by rfl) :
   PI X tg (.Call (.Name "range" p) [a,b,c] [] pos) (aun ta):=by
 intro pins s σ H R I h;refine Call_ (zN I hg hm boot_range (aCL (eZ (ha pos pins s σ H _ I h) fun us s1 ⟨vs,H1,I1,r1,q1⟩=>?_) (by rw[hs,zF]) (by rw[zF];rfl)));obtain⟨i,j,e,⟨q1,q2,q3,q4⟩,q⟩:=q1;subst e;cases r1 with
 | cons r rr=>
   cases rr with
   | cons r' rr=>
     cases rr with
     | cons r'' rr=>
       cases rr;obtain⟨t,rfl⟩:=r;obtain⟨t',rfl⟩:=r';obtain⟨t'',rfl⟩:=r'';obtain⟨hn,hsm⟩:=step_size q1 q2 q3 q4;refine call_range_3 Q.c ?_ (.inl (PyProof.noPylong_small Q.c));refine wpAny_pyIter_range (IsRange.new ..) hsm ?_;have I2:=I1.kept (t':=s1.toks) (h':=s1.heap.push {cls:=.type "range",data:=.fields #[.int i t,.int j t',.int 2 t'']}) fun b o e=>aBU _ e;refine⟨_,[_],_,_,H1,rfl,I2.kept (t':=s1.toks) fun b o e=>aBU _ e,aeS _ i 2 (zI i j),?_,fun b hb=>?_,q⟩
       . have e1:i+((0:Nat):Int)*2=i:=by omega
         have e2:((zI i j:Nat):Int)-((0:Nat):Int)=Builtin.Range.rangeSize i j 2:=by rw[hn];omega
         show IsRangeIter _ _ (i+((0:Nat):Int)*2) (((zI i j:Nat):Int)-((0:Nat):Int)) 2;rw[e1,e2];exact aCh _ rfl
       . cases aBB.mp hb;exact I2.JZ (aBD _) (I2.dI.fresh (aBD _))
def Cz(lo:Int)(n:Nat):Ap:=(List.range n).map fun(i:Nat)=>D.int (lo+i*2)
variable{e3:Expr}{pr:Pos}
def aia(lo:Int)(n:Nat):aE K CL Z (Cz lo n) ((List.range n).map fun(i:Nat)=>V.int (lo+i*2)):=by
 unfold Cz;generalize List.range n=l
 induction l with
 | nil=>exact .nil
 | cons i r ih=>exact .cons (.int _) ih
def aeU{m n:Int}(hm:X.mg "range" = none)(h:BAv X CL b [e1,e2,e3] δ [.int m,.int n,.int 2] δ1)(hn:0<=m/\m<=1000/\0<=n/\n<=1000)(hg:Gl X "range")
   (YM:starEach [e1,e2,e3] X.env=[(false,eval e1 X.env),(false,eval e2 X.env),(false,eval e3 X.env)]:=by rfl) (ahO:AR X e2 e3:=by rfl) :
   TIt X CL b tg (.Call (.Name "range" pr) [e1,e2,e3] [] pc) δ (Cz m (zI m n)) δ1:=by
 refine⟨_,aeT hg hm paS YM ahO,fun H Z σ ts vs R S k=>h H Z σ ts vs _ S fun vs' H1 Z1 z1 k1 S1 r=>?_⟩;cases r with
 | cons r1 r=>
   cases r with
   | cons r2 r=>
     cases r with
     | cons r3 r=>
       cases r;rw[r1.sc rfl,r2.sc rfl,r3.sc rfl];refine⟨m,n,rfl,hn,k _ _ ⟨Z1,_,z1,k1,S1,aia m (zI m n),fun i H2 s hi=>?_,fun i H2 y H' s hi hy=>?_,fun H2 s=>?_⟩⟩
       . show i<zI m n;rw[Cz,aBp,aBO]at hi;exact hi
       . rw[Cz,aBp,aBO]at hi;refine⟨hy.1,?_⟩;rw[aBR,aB9 hi,hy.2];rfl
       . show zI m n<=(Cz m (zI m n)).length;rw[Cz,aBp,aBO];exact aBD _
def auo(K:Frag):R2:=fun x y H Q=>∃a b xs ys,x=.ref a/\y=.ref b/\xJ K H a xs/\xJ K H b ys/\ys≠[]/\xs.length+ys.length<=sizeLine ∧
 (xs=[]->Q (.ref b) H)/\(xs≠[]->∀p,H p=none->Q (.ref p) (upd H p (.tup (xs++ys))))
def am1:zG X (binaryOp .Add) (auo X.K):=by
 intro pins s σ H x y v u Q I rx ry h;obtain⟨a,b,xs,ys,rfl,rfl,ha,hb,hy,hz,q1,q2⟩:=h;by_cases hx:xs=[]
 . subst hx;cases rx;cases ry;obtain⟨its,r1,p1,_⟩:=I.tuple ha;obtain⟨C4,r2,p2,_⟩:=I.tuple hb;cases r1;obtain⟨⟨cls,dd,data,sl⟩,ho,hc,n,hd⟩:=id p1;obtain⟨⟨aty,dd2,data2,sl2⟩,ho2,hc2,n2,hd2⟩:=id p2;simp only at hc hd hc2 hd2;subst hc hd hc2 hd2;exact concat_meets ⟨_,ho,rfl⟩ ⟨_,ho2,rfl⟩ noFill_tuple_add seq_tuple_add aDB aDv (aDr _ _)
     (tuple_addW0 a b _ _ n n2 dd dd2 sl sl2 rfl) ⟨ho,ho2,⟨.ref b,H,I,rfl,q1 rfl⟩⟩
 . exact acF pins s σ H _ _ v u Q I rx ry ⟨a,b,xs,ys,rfl,rfl,ha,hb,hx,hz,fun e=>absurd e hy,fun _=>q2 hx⟩
theorem qd(h1:bU X CL b e1 δ (.sh (.tup ds)) δ1)(h2:bU X CL b e2 δ1 (.sh (.tup Dc)) δ2)(n2:Dc≠[])(hz:ds.length+Dc.length<=sizeLine) :
   bU X CL b (.BinOp e1 .Add e2 pos) δ (.sh (.tup (ds++Dc))) δ2:=fun H Z σ ts vs Q S k=>
 cE (QI am1 cR cR) (h1 H Z σ ts vs _ S fun v1 H1 Z1 z1 k1 S1=>h2 H1 Z1 σ _ _ _ S1 fun v2 H2 Z2 z2 k2 S2=>by
   have r2:=S2.Mx;have r1:=S2.pop.Mx;have r2':=r2;cases r1 with
   | tup YG QT=>
     cases r2 with
     | tup Qi Vy=>
       have e1:=QT.length;have e2:=Vy.length;refine⟨_,_,_,_,rfl,rfl,aM.YF S2.zh YG,aM.YF S2.zh Qi,fun z=>n2 (aCI (by rw[e2,z];rfl)),We,fun z=>?_,fun _ p hp=>?_⟩
       . have:ds=[]:=aCI (by rw[e1,z];rfl);subst this;exact k _ _ _ (z1.trans z2) (k1.trans k2) (S2.pop.pop.push r2')
       . have rc:=aE.app QT Vy;obtain⟨a,c,S4⟩:=(cu.za rc S2.pop.pop).GH (by simp[rc.length,e1,e2]) hp;obtain⟨Z5,z5,S5⟩:=S4.Mh;rw[T.fj,kL]at S5;exact k _ _ Z5 (z1.trans (z2.trans (a.trans z5))) (k1.trans (k2.trans c)) S5)
theorem aib(h1:bU X CL b e1 δ (.sh (.lst ds)) δ1)(h2:bU X CL b e2 δ1 (.sh (.lst Dc)) δ2)(hz:ds.length+Dc.length<=sizeLine) :
   bU X CL b (.BinOp e1 .Add e2 pos) δ (.lst ((ds++Dc).map T.sh)) δ2:=fun H Z σ ts vs Q S k=>
 cE (QI acR cR cR) (h1 H Z σ ts vs _ S fun v1 H1 Z1 z1 k1 S1=>h2 H1 Z1 σ _ _ _ S1 fun v2 H2 Z2 z2 k2 S2=>by
   have r2:=S2.Mx;have r1:=S2.pop.Mx;cases r1 with
   | lst YG QT=>
     cases r2 with
     | lst Qi Vy=>
       refine⟨_,_,_,_,rfl,rfl,S2.zh.seq YG,S2.zh.seq Qi,by rw[← QT.length,← Vy.length];exact hz,fun p hp=>?_⟩;have rc:=aE.app QT Vy;obtain⟨c,S4⟩:=(cu.za rc S2.pop.pop).C6 (g0:=[]) (by simp[rc.length,QT.length,Vy.length]) hp;exact k _ _ _ (z1.trans z2) (k1.trans (k2.trans c)) S4)
def Itz(K:Frag)(a c:Addr):It:=
 ⟨fun i H=>∃xs ys x y,sX K H a xs/\sX K H c ys/\xs[i]? = some x/\ys[i]? = some y,fun i H v H'=>∃T x y,H T=none/\v=.ref T/\(∀xs,sX K H a xs->xs[i]? = some x)/\(∀ys,sX K H c ys->ys[i]? = some y)/\H'=upd H T (.tup [x,y]),
   fun i H=>∃xs ys,sX K H a xs/\sX K H c ys/\(xs.length<=i\/ys.length<=i)⟩
structure aup(z TI TO i1 i2 a c:Addr)(i:Nat)(h:Heap):Prop where
 hz:IsZip h z TI TO .none
 hTI:IsPair h TI (.ref i1) (.ref i2)
 hTO:∃x y,IsPair h TO x y
 h1:h.IsListIter i1 a i
 h2:h.IsListIter i2 c i
def aic{P:Program}{w:World}{elts:CA}{kk:Nat}{pt:Pos}{z TI TO i1 i2 a c:Addr}(D:ZipApart z TI TO i1 i2 a c):Turn P w K (.Tuple elts kk pt) (Itz K a c) [z,TI,TO,i1,i2] z (aup z TI TO i1 i2 a c) where
 mem:=aBr
 obj:=fun i h st b hb=>by
   have seq:∀{T:Addr} {x y:Value},IsPair h T x y->∃o,h.get? T=some o/\∀v,o.data ≠ .cell v:=fun e=>⟨_,e,fun v z=>by
     have z':Data.seq _=Data.cell v:=z;cases z'⟩
   have itr:∀{T l:Addr} {n:Nat},h.IsListIter T l n->∃o,h.get? T=some o/\∀v,o.data ≠ .cell v:=fun q=>by
     obtain⟨o,e,c,d⟩:=q;exact⟨o,e,fun v z=>by rw[d]at z;cases z⟩
   rcases aBq.mp hb with rfl|hb
   . exact⟨_,st.hz,fun v z=>by
       have z':Data.fields _=Data.cell v:=z;cases z'⟩
   rcases aBq.mp hb with rfl|hb
   . exact seq st.hTI
   rcases aBq.mp hb with rfl|hb
   . obtain⟨x,y,e⟩:=st.hTO;exact seq e
   rcases aBq.mp hb with rfl|hb
   . exact itr st.h1
   . cases aBB.mp hb;exact itr st.h2
 keep:=fun i h h' st k=>by
   obtain⟨x,y,e⟩:=st.hTO;exact⟨k z Uf _ st.hz,k TI Uf _ st.hTI,⟨x,y,k TO Uf _ e⟩,st.h1.at fun o q=>k i1 Uf o q,st.h2.at fun o q=>k i2 Uf o q⟩
 item:=by
   intro X hP hw hK hc i pins s σ H E I hf st hg;subst hP hw hK;obtain⟨xs,ys,x,y,hq,Qi,hx,hy⟩:=hg;obtain⟨its,rv,p,hz⟩:=I.list hq;obtain⟨C4,rv2,p2,hz2⟩:=I.list Qi;obtain⟨u,hu,ru⟩:=rv.get hx;obtain⟨u2,hu2,ru2⟩:=rv2.get hy;obtain⟨sz,sTI,⟨x0,y0,sTO⟩,s1,s2⟩:=st;have fz:=hf z Uf;have fO:=hf TO Uf;have f1:=hf i1 Uf;have f2:=hf i2 Uf;have hT0:H s.heap.objs.size=none:=I.dI.fresh (aBD _);have fT:=I.JZ (aBD s.heap.objs.size) hT0;refine PySem.wpAny_pyNext_zip_item D sz sTI sTO s1 s2 p.isList p2.isList (x:=u) (y:=u2) (by simpa using hu) (by simpa using hu2) fun h' ho hO axp axq hT hsz hk=>⟨_,rfl,?_⟩;refine PySem.wpAny_letOwnedTupleGo_zip ho fun h2 he2 zF=>?_;replace zF:Heap.SameBut z h' h2:=zF;have lt:∀{b:Addr} {o:Obj},s.heap.get? b=some o->b<s.heap.objs.size:=fun e=>aB1 e;have zT:=lt sz;have keep:∀b o,b≠z->b≠TO->b≠i1->b≠i2->s.heap.get? b=some o->h2.get? b=some o:=fun b o h1 h3 h4 h5 q=>(zF.2 b h1).trans (hk b o h1 h3 h4 h5 q);have hT2:h2.get? s.heap.objs.size=some {cls:=.type "tuple",data:=.seq #[u,u2]}:=(zF.2 _ (Nat.ne_of_gt zT)).trans hT;have nH:∀b o,H b=some o->(b≠z/\b≠TO/\b≠i1/\b≠i2)/\b≠s.heap.objs.size:=fun b o q=>⟨⟨fun w=>(by rw[w,fz.1]at q;cases q),fun w=>(by rw[w,fO.1]at q;cases q),fun w=>(by rw[w,f1.1]at q;cases q),fun w=>(by rw[w,f2.1]at q;cases q)⟩,fun w=>(by rw[w,hT0]at q;cases q)⟩;have kpc:∀b o,¬ b∈[z,TO,i1,i2,s.heap.objs.size]->s.heap.get? b=some o->h2.get? b=some o:=fun b o hc q=>keep b o (fun w=>hc (by simp[w])) (fun w=>hc (by simp[w])) (fun w=>hc (by simp[w])) (fun w=>hc (by simp[w])) q;have I':L2.Inv X pins σ (upd H s.heap.objs.size (.tup [x,y])) {s with heap:=h2}:=by
     refine I.step (g':=s.gens) (d':=s.drawn) (t':=s.toks) (ch:=[z,TO,i1,i2,s.heap.objs.size]) (fun b hb=>?_) (fun b o _ _ hc q _=>?_) (fun b o _ _ hc q _=>⟨o.slots,?_⟩) (fun b o hc q n=>?_) (fun b o hc q=>⟨o,?_⟩) (fun b ys q=>?_) (fun b o u q=>?_) (fun b ps q=>⟨#[],?_⟩) (fun m hm=>?_) (fun b o q=>?_) I.bare
     . rcases aBq.mp hb with rfl|hb
       . exact⟨fz.2.2.2.1,fz.2.1,fz.2.2.2.2.1,fz.2.2.2.2.2⟩
       rcases aBq.mp hb with rfl|hb
       . exact⟨fO.2.2.2.1,fO.2.1,fO.2.2.2.2.1,fO.2.2.2.2.2⟩
       rcases aBq.mp hb with rfl|hb
       . exact⟨f1.2.2.2.1,f1.2.1,f1.2.2.2.2.1,f1.2.2.2.2.2⟩
       rcases aBq.mp hb with rfl|hb
       . exact⟨f2.2.2.2.1,f2.2.1,f2.2.2.2.2.1,f2.2.2.2.2.2⟩
       . cases aBB.mp hb;exact⟨fT.2.2.2.1,fT.2.1,fT.2.2.2.2.1,fT.2.2.2.2.2⟩
     . exact kpc b o hc q
     . exact kpc b o hc q
     . rw[aA (fun w=>hc (by simp[w]))];exact n
     . exact kpc b o hc q
     . rw[aA (nH b _ q).2];exact q
     . rw[aA (nH b _ q).2];exact q
     . rw[aA (nH b _ q).2,q];simp
     . obtain⟨o,es,ep,ho,r⟩:=hm;exact⟨o,es,ep,keep _ o (aC0 fz.2.1) (aC0 fO.2.1) (aC0 f1.2.1) (aC0 f2.2.1) ho,r⟩
     . by_cases hb:b=s.heap.objs.size
       . subst hb;rw[bA]at q;cases q;exact⟨aCj (bz (aBu rfl)),[u,u2],.cons ru (.cons ru2 .nil),⟨_,hT2,rfl,_,rfl⟩⟩
       . rw[aA hb]at q;refine(I.dI b o q).RJ (fun c v hc w=>?_) (fun c w=>by rw[aA (nH c _ w).2];exact w) (fun c ys w=>by rw[aA (nH c _ w).2];exact w) fun c ys w=>by rw[aA (nH c _ w).2];exact w
         have nc:c≠z/\c≠TO/\c≠i1/\c≠i2:=by
           rcases hc with e|e
           . rw[e];exact(nH b _ q).1
           . exact(nH c _ e).1
         exact keep c v nc.1 nc.2.1 nc.2.2.1 nc.2.2.2 w
   refine⟨.ref s.heap.objs.size,_,I',rfl,⟨_,x,y,hT0,rfl,fun ys hy=>by rw[I.Eo hy hq];exact hx,fun zs hz=>by rw[I.Eo hz Qi];exact hy,rfl⟩,⟨he2,(zF.2 TI D.TIz).trans (hk TI _ D.TIz D.TITO D.TIi1 D.TIi2 sTI),⟨u,u2,(zF.2 TO D.TOz).trans hO⟩,axp.at fun o q=>(zF.2 i1 D.i1z).trans q,axq.at fun o q=>(zF.2 i2 D.i2z).trans q⟩,fun b hb=>?_⟩;have U1:b<s.heap.objs.size:=by
     rcases aBq.mp hb with rfl|hb
     . exact lt sz
     rcases aBq.mp hb with rfl|hb
     . exact lt sTI
     rcases aBq.mp hb with rfl|hb
     . exact lt sTO
     rcases aBq.mp hb with rfl|hb
     . obtain⟨o,q,_⟩:=s1;exact lt q
     . cases aBB.mp hb;obtain⟨o,q,_⟩:=s2;exact lt q
   rw[aA (aCq U1)];exact(hf b hb).1
 done:=by
   intro X hP hw hK hc i pins s σ H E I hf st hg;subst hP hw hK;obtain⟨xs,ys,hq,Qi,hx⟩:=hg;obtain⟨its,rv,p,hz⟩:=I.list hq;obtain⟨C4,rv2,p2,hz2⟩:=I.list Qi;obtain⟨sz,sTI,⟨x0,y0,sTO⟩,s1,s2⟩:=st;have l1:=rv.length;have l2:=rv2.length;have fz:=hf z Uf;have fO:=hf TO Uf;have f1:=hf i1 Uf;have f2:=hf i2 Uf;refine PySem.wpAny_pyNext_zip_end (I.ok.hd hc) D sz sTI sTO s1 s2 p.isList p2.isList ?_ fun h' eb=>⟨rfl,?_⟩
   . rcases hx with h|h
     . exact .inl (by simp;omega)
     . exact .inr (by simp;omega)
   . have nH:∀b o,H b=some o->b≠z/\b≠TO/\b≠i1/\b≠i2:=fun b o q=>⟨fun w=>(by rw[w,fz.1]at q;cases q),fun w=>(by rw[w,fO.1]at q;cases q),fun w=>(by rw[w,f1.1]at q;cases q),fun w=>(by rw[w,f2.1]at q;cases q)⟩;have kpc:∀b o,¬ b∈[z,TO,i1,i2]->s.heap.get? b=some o->h'.get? b=some o:=fun b o hc q=>eb b o (fun w=>hc (by simp[w])) (fun w=>hc (by simp[w])) (fun w=>hc (by simp[w])) (fun w=>hc (by simp[w])) q;refine I.step (g':=s.gens) (d':=s.drawn) (t':=s.toks) (ch:=[z,TO,i1,i2]) (fun b hb=>?_) (fun b o _ _ hc q _=>?_) (fun b o _ _ hc q _=>⟨o.slots,?_⟩) (fun b o hc q n=>?_) (fun b o hc q=>⟨o,?_⟩) (fun b ys q=>?_) (fun b o u q=>?_) (fun b ps q=>⟨#[],?_⟩) (fun m hm=>?_) (fun b o q=>?_) I.bare
     . rcases aBq.mp hb with rfl|hb
       . exact⟨fz.2.2.2.1,fz.2.1,fz.2.2.2.2.1,fz.2.2.2.2.2⟩
       rcases aBq.mp hb with rfl|hb
       . exact⟨fO.2.2.2.1,fO.2.1,fO.2.2.2.2.1,fO.2.2.2.2.2⟩
       rcases aBq.mp hb with rfl|hb
       . exact⟨f1.2.2.2.1,f1.2.1,f1.2.2.2.2.1,f1.2.2.2.2.2⟩
       . cases aBB.mp hb;exact⟨f2.2.2.2.1,f2.2.1,f2.2.2.2.2.1,f2.2.2.2.2.2⟩
     . exact kpc b o hc q
     . exact kpc b o hc q
     . exact n
     . exact kpc b o hc q
     . exact q
     . exact q
     . rw[q];simp
     . obtain⟨o,es,ep,ho,r⟩:=hm;exact⟨o,es,ep,eb _ o (aC0 fz.2.1) (aC0 fO.2.1) (aC0 f1.2.1) (aC0 f2.2.1) ho,r⟩
     . refine(I.dI b o q).RJ (fun c v hc w=>?_) (fun c w=>w) (fun c ys w=>w) fun c ys w=>w;have nc:c≠z/\c≠TO/\c≠i1/\c≠i2:=by
         rcases hc with e|e
         . rw[e];exact nH b _ q
         . exact nH c _ e
       exact eb c v nc.1 nc.2.1 nc.2.2.1 nc.2.2.2 w
 self:=fun _ _ _ _ _ st h=>PySem.wpAny_pyIter_zip st.hz h
def boot_zip:bootBuiltins "zip" = some (.type "zip"):=Q.f
variable{elts:CA}{kk:Nat}{pt:Pos}
def axr(K:Frag)(ta:TA):TI:=fun σ H R=>ta σ H fun vs H1=>∃a c xs ys,vs=[.ref a,.ref c]/\sX K H1 a xs/\sX K H1 c ys/\R (Itz K a c) H1
theorem arv{a c:Expr}{ta:TA}{p:Pos}(hg:Gl X "zip")(hm:X.mg "zip" = none)(ha:PA X [a,c] ta)(hs:AR X a c:=by rfl)(zF:starEach [c] X.env=[(false,eval c X.env)]:=by rfl):PI X (.Tuple elts kk pt) (.Call (.Name "zip" p) [a,c] [] pos) (axr X.K ta):=by
 intro pins s σ H R I h;refine Call_ (zN I hg hm boot_zip (aCL (eZ (ha pos pins s σ H _ I h) fun us s1 zz=>?_) (by rw[hs,zF]) (by rw[zF];rfl)));obtain⟨vs,H1,I1,r1,q1⟩:=zz;obtain⟨l,m,xs,ys,e,hq,Qi,q⟩:=q1;subst e;cases r1 with
 | cons r rr=>
   cases rr with
   | cons r' rr=>
     cases rr;cases r;cases r';obtain⟨its,rv,p,hz⟩:=I1.list hq;obtain⟨C4,rv2,p2,hz2⟩:=I1.list Qi;have a1:l<s1.heap.objs.size:=by obtain⟨_,e,_⟩:=p.isList;exact aB1 e
     have a2:m<s1.heap.objs.size:=by obtain⟨_,e,_⟩:=p2.isList;exact aB1 e
     refine PySem.call_zip_2 p.isList p2.isList fun h' hz hTI hTO hi1 hi2 hsz hk=>?_;have I2:L2.Inv X pins σ H1 {s1 with heap:=h'}:=I1.kept (t':=s1.toks) fun b o e=>hk b o e;refine PySem.wpAny_pyIter_zip hz ?_;refine⟨s1.heap.objs.size+4,[s1.heap.objs.size+4,s1.heap.objs.size+2,s1.heap.objs.size+3,s1.heap.objs.size,s1.heap.objs.size+1],_,_,H1,rfl,I2,aic (PyProof.Rows.zipApart_new a1 a2),⟨hz,hTI,⟨_,_,hTO⟩,hi1,hi2⟩,fun b hb=>?_,q⟩;have ge:s1.heap.objs.size<=b:=by
       rcases aBq.mp hb with rfl|hb
       . exact Nat.le_add_right _ _
       rcases aBq.mp hb with rfl|hb
       . exact Nat.le_add_right _ _
       rcases aBq.mp hb with rfl|hb
       . exact Nat.le_add_right _ _
       rcases aBq.mp hb with rfl|hb
       . exact aBD _
       . cases aBB.mp hb;exact Nat.le_add_right _ _
     exact I1.JZ ge (I1.dI.fresh ge)
def Sq(ds es:Ap):Ap:=(ds.zip es).map fun p=>.tup [p.1,p.2]
def aid{ds es:Ap}{d e:D}(h:ds[i]? = some d)(h2:es[i]? = some e):(Sq ds es)[i]? = some (.tup [d,e]):=by
 unfold Sq;rw[aBR,List.getElem?_zip_eq_some (z:=(d,e)).mpr ⟨h,h2⟩];rfl
variable{ds es:Ap}
def arw(hm:X.mg "zip" = none)(h1:bU X CL b e1 δ (.sh (.lst ds)) δ1)(h2:bU X CL b e2 δ1 (.sh (.lst es)) δ2)(hg:Gl X "zip")(hl:ds.length=es.length)
   (hs:AR X e1 e2:=by rfl) (zF:starEach [e2] X.env=[(false,eval e2 X.env)]:=by rfl) (hs3:starEach [e1,e2] X.env=(false,eval e1 X.env)::starEach [e2] X.env:=by rfl) (hs4:AC X e2 []:=by rfl) :
   GIt X CL b (.Tuple elts kk pt) (.Call (.Name "zip" pr) [e1,e2] [] pc) δ (Sq ds es) δ2:=by
 have hzl:(Sq ds es).length=ds.length:=by rw[Sq,aBp,List.length_zip,hl,Nat.min_self]
 refine⟨_,arv hg hm (bW cR (bW cR dQ hs4) hs3) hs zF,fun H Z σ ts vs R S k=>h1 H Z σ ts vs _ S fun v H1 Z1 z1 k1 S1=>h2 H1 Z1 σ _ _ _ S1 fun v2 H2 Z2 z2 k2 S2=>?_⟩;have r2:=S2.Mx;have r1:=S2.pop.Mx;cases r1 with
 | @lst a us _ YG QT=>
   cases r2 with
   | @lst c Zi _ Qi Vy=>
     have l1:=QT.length;have l2:=Vy.length;refine⟨a,c,us,Zi,rfl,S2.zh.seq YG,S2.zh.seq Qi,k _ _ ⟨Z2,z1.trans z2,k1.trans k2,S2.pop.pop,fun i H2 s hi=>?_,fun i Z3 H3 x H' s1 s2 tp hi hy=>?_,fun H2 s=>?_⟩⟩
     . rw[hzl]at hi;exact⟨us,Zi,us[i]'We,Zi[i]'We,s.seq YG,s.seq Qi,aBC Q.a,aBC Q.a⟩
     . rw[hzl]at hi;obtain⟨T,x1,y1,hT,rfl,hx,hy,rfl⟩:=hy;obtain⟨d,hd,rd⟩:=QT.aeu (hx us ((s1.trans s2).seq YG));obtain⟨d2,hd2,rd2⟩:=Vy.aeu (hy Zi ((s1.trans s2).seq Qi));have gr:Mq Z3 H3 _ _:=Mq.tup (xs:=[x1,y1]) s2 tp hT;exact⟨_,_,aid hd hd2,gr,.tup (xJ.of bA) (.cons ((rd.mono s1).mono gr.z) (.cons ((rd2.mono s1).mono gr.z) .nil))⟩
     . rw[hzl];exact⟨us,Zi,s.seq YG,s.seq Qi,.inl Q.a⟩
def am2:zG X (binaryOp .Mult) (fun x y H Q=>∃i n,x=.str i/\y=.int n/\MulOk i n/\Q (.str (Txt.mul i n)) H):=by
 intro pins s σ H x y v u Q I rx ry h;obtain⟨i,n,rfl,rfl,hz,q⟩:=h;obtain⟨t,rfl⟩:=rx;obtain⟨t',rfl⟩:=ry;exact SB.mul hz fun t' k=>⟨.str (Txt.mul i n),H,I.tok _,⟨_,rfl⟩,q⟩
def am3{n:Int}(h1:cL X CL b e1 δ (.str x) δ1)(h2:cL X CL b e2 δ1 (.int n) δ2)(c:MulOk x n):bU X CL b (.BinOp e1 .Mult e2 pos) δ (.sh (.str (Txt.mul x n))) δ2:=zW am2 h1 h2 rfl rfl rfl fun _ _ q=>⟨x,n,rfl,rfl,c,q⟩
def axt(te:TE):TE:=fun σ H Q=>te σ H fun v H1=>(∃x,v=.str x/\x.length<=sizeLine/\Q (.str x) H1)\/(∃i:Int,v=.int i/\i.natAbs.log2<1920/\Q (.str (Str.ofString (toString i))) H1)
def aie{te:TE}(he:PE X e te):PE X (.FormattedValue e (-1) none pos) (axt te):=by
 intro pins s σ H Q I h;refine FormattedValue_plain (eZ (he pins s σ H _ I h) fun v s1 zz=>?_);obtain⟨x,H1,I1,r1,q1⟩:=zz;rcases q1 with⟨y,rfl,hz,q⟩|⟨i,rfl,hz,q⟩
 . obtain⟨t,rfl⟩:=r1;exact formatField_str (fun t' tk=>⟨.str y,H1,I1.tok _,⟨_,rfl⟩,q⟩) hz
 . obtain⟨t,rfl⟩:=r1;exact formatField_int_small hz ⟨.str _,H1,I1.tok _,⟨_,rfl⟩,q⟩
def am4(h:cL X CL b e δ (.str x) δ1)(hz:x.length<=sizeLine):bU X CL b (.FormattedValue e (-1) none pos) δ (.sh (.str x)) δ1:=fun H Z σ ts vs Q S k=>
 cE (aie cR) (h H Z σ ts vs _ S fun v H1 Z1 z1 k1 S1 r=>.inl ⟨x,r.sc rfl,hz,k _ H1 Z1 z1 k1 (S1.push (.str _))⟩)
def am5{i:Int}(h:cL X CL b e δ (.int i) δ1)(hz:i.natAbs.log2<1920):bU X CL b (.FormattedValue e (-1) none pos) δ (.sh (.str (Str.ofString (toString i)))) δ1:=fun H Z σ ts vs Q S k=>
 cE (aie cR) (h H Z σ ts vs _ S fun v H1 Z1 z1 k1 S1 r=>.inr ⟨i,r.sc rfl,hz,k _ H1 Z1 z1 k1 (S1.push (.str _))⟩)
def aus(X:Cx)(out:Str)(es:CA):TE:=fun σ H Q=>∀(pins:BC) (s:Shared),Inv X pins σ H s->wpAny Q.d X.A (joinParts out (evalEach es X.env)) (EP X pins σ Q) X.xe s
def TJv(X:Cx)(CL:BA)(b:Bx)(out:Str)(es:CA)(δ:At)(res:Str)(δ':At):Prop:=
 ∀(H Z:Hp) (σ:L2.St) (ts:CI) (vs:BS) (Q:VK),cu X.K CL b H Z δ σ ts vs->(∀v H' Z',aM Z Z'->aM H H'->cu X.K CL b H' Z' δ' σ (.sh (.str res)::ts) (v::vs)->Q v H')->aus X out es σ H Q
def arx{out:Str}(hz:out.length<=sizeLine):TJv X CL b out [] δ out δ:=fun H Z σ ts vs Q S k pins s I=>
 joinParts_nil ⟨.str out,H,I.tok _,⟨_,rfl⟩,k _ H Z (.refl _) (.refl _) (S.push (.str _))⟩ hz
def Lr{out res:Str}{es:CA}(h1:cL X CL b e δ (.str x) δ1)(h2:TJv X CL b (out++x) es δ1 res δ2)(hz:(out++x).length<=sizeLine)(hs:evalEach (e::es) X.env=eval e X.env::evalEach es X.env:=by rfl):TJv X CL b out (e::es) δ res δ2:=fun H Z σ ts vs Q S k pins s I=>by
 rw[hs];refine joinParts_cons (eZ (h1 H Z σ ts vs (fun v H1=>v=.str x/\aus X (out++x) es σ H1 Q) S (fun v H1 Z1 z1 k1 S1 r=>⟨r.sc rfl,h2 H1 Z1 σ ts vs Q S1 fun v' H' Z' z k' S'=>k v' H' Z' (z1.trans z) (k1.trans k') S'⟩) pins s I) fun u s1 zz=>?_);obtain⟨v,H1,I1,r1,rfl,q⟩:=zz;obtain⟨t,rfl⟩:=r1;exact⟨hz,q pins s1 I1⟩
def aeV{v1 v2:Expr}{es:CA}{res:Str}(h:TJv X CL b Str.empty (v1::v2::es) δ res δ1)(hs:evalEach (v1::v2::es) X.env=eval v1 X.env::eval v2 X.env::evalEach es X.env:=by rfl):bU X CL b (.JoinedStr (v1::v2::es) pos) δ (.sh (.str res)) δ1:=fun H Z σ ts vs Q S k pins s I=>
 JoinedStr_many (by
   have:=h H Z σ ts vs Q S k pins s I
   rwa [hs]at this)
variable{tl tl0 tt tt0:CI}{DD:ja}{pa pb ps:Pos}
def aif(j:Nat)(n:Vn X i x)(h2:cL X CL b e2 δ (.int j) δ)(h0:δ[i]? = some (some (.lst tt0)))(h0j:tt0[j]? = some (.lst tl0))(h:bU X CL b e δ t δ1)(h1:δ1[i]? = some (some (.lst tt)))(h1j:tt[j]? = some (.lst tl))(hl:tl.length<=1000000)(k:gw X CL b jM (δ1.set i (some (.lst (tt.set j (.lst (tl++[t])))))) DD)
   (hp:uJ e2:=by exact fun _ _=>rfl)
   (fY:attributeBase (.Subscript (.Name x pp) e2 ps) "append" X.env (eval (.Subscript (.Name x pp) e2 ps) X.env)=eval (.Subscript (.Name x pp) e2 ps) X.env:=by rfl)
   (oX:AB X pb e:=by rfl)
   (hline:(pa.endLine==pb.line)=true:=by rfl) (hs:AC X e []:=by exact bP rfl) (Se:swapsWith (.Call (.Attribute (.Subscript (.Name x pp) e2 ps) "append" pa) [e] [] pb) none pos.line X.env=pure false:=by rfl) :
   gw X CL b (.Expr (.Call (.Attribute (.Subscript (.Name x pp) e2 ps) "append" pa) [e] [] pb) pos::jM) δ DD:=
 eK fun H Z σ ts vs E S M=>
 C5 (Ep (Cw aDc aD0 aD1 BF (Ma Li (qI n.hi n.hv n.hd n.uG) cR hp) (bW cR dQ hs) fY oX hline hs rfl) Se) (by
   obtain⟨v0,hv0,_⟩:=S.look h0;refine⟨v0,hv0,h2 H Z σ ts vs _ S fun v2 H2 Z2 z2 k2 S2 r2=>?_⟩;obtain⟨fp,gp,e0,r0,nd0,k0⟩:=S2.rep;obtain⟨w0,f1,f2,f3,hw0,BG,rt,_,_⟩:=e0.get h0;rw[hv0]at hw0;cases hw0;cases rt with
   | @lst a0 us0 _ _ hq rs=>
     obtain⟨vj,gj,hvj,rj,_⟩:=rs.get h0j;refine⟨a0,us0,j,vj,rfl,r2.sc rfl,sX.of hq,jf hvj,?_,?_⟩
     . cases rj with
       | lst ha _=>exact .inl ⟨rfl,_,sX.of ha⟩
     . refine h H2 Z2 σ ts vs _ S2 fun v H1 Z1 z1 k1 S1=>?_;obtain⟨b0,ws0,a,us,eb,YG,hw,hwl,ha,hu',S3⟩:=S1.aeI h1 h1j;rw[hv0]at eb;cases eb;have axv:ws0[j]? = us0[j]?:=by
         have h2:=k1 _ _ hq;rw[YG]at h2;injection h2 with h2;injection h2 with h2;rw[h2]
       rw[axv,hvj]at hw;cases hw;exact⟨a,us,v,rfl,rfl,ha,by rw[hu'];exact aC8 hl (by rw[aB8];decide),M.nx _ σ _ Z1 (z2.trans z1) S3 k⟩)
def aih{ds:Ap}(h:cL X CL b e δ (.lst ds) δ1)(he:∀whole,isTrue e X.env whole=(do let v ← whole;standAt e.pos;holding [v] (truthy v)):=by intro _;rfl):xO X CL b e δ (!ds.isEmpty) δ1:=fun H Z σ ts vs Q S k=>
 J4 (ahi cR he) (h H Z σ ts vs _ S fun v H1 Z1 z1 k1 S1 r=>by
   cases r with
   | @lst a us _ hq rr=>
     refine⟨_,.inl ⟨us,hq,rfl⟩,?_⟩;have e:us.isEmpty=ds.isEmpty:=by
       have:=rr.length;cases us<;>cases ds<;>simp at this ⊢
     rw[e];exact k H1 Z1 z1 k1 S1)
variable{α:Type}
def VJ(aY:List (D1×α))(k:D1):Option α:=(aY.find? fun kv=>decide (kv.1=k)).map (·.2)
def aii{p:D1×α}{r:List (D1×α)}{k:D1}(e:p.1=k):VJ (p::r) k=some p.2:=by simp[VJ,aCV,e]
def aij{p:D1×α}{r:List (D1×α)}{k:D1}(e:¬ p.1=k):VJ (p::r) k=VJ r k:=by simp[VJ,aCV,e]
theorem sZ.length{aY:Cn}{gs:B1}(h:sZ K CL Z aY gs):aY.length=gs.length:=
 sZ.ind (P:=fun aY gs=>aY.length=gs.length) rfl (fun _ _ i=>congrArg (· + 1) i) h
theorem i9.length{aY:CS}{gs:B1}{fp:BT}(h:i9 K CL H Z aY gs fp):aY.length=gs.length:=
 i9.ind (P:=fun aY gs _=>aY.length=gs.length) rfl (fun _ _ i=>congrArg (· + 1) i) h
def aeW:bootBuiltins "set" = some (.type "set"):=Q.f
def aik{op op':CmpOp}{f g:Int->Int->Bool}{i j k:Int}(ho:zG X (compareOp op) (rI0 fun i j=>.bl (f i j)))(YC:zG X (compareOp op') (rI0 fun i j=>.bl (g i j)))(h1:cL X CL b e1 δ (.int i) δ1)(h2:cL X CL b e2 δ1 (.int j) δ2)(h3:cL X CL b e3 δ2 (.int k) δ2)(hm:lastMarks [op,op'] [e2,e3]=false) :
   xO X CL b (.Compare e1 [op,op'] [e2,e3] pos) δ (f i j&&g j k) δ2/\bU X CL b (.Compare e1 [op,op'] [e2,e3] pos) δ (.sh (.bl (f i j&&g j k))) δ2:=by
 constructor
 . intro H Z σ ts vs Q S q;refine J4 (ahh ho YC cR cR cR hm) (h1 H Z σ ts vs _ S fun v1 H1 Z1 z1 k1 S1 r1=>h2 H1 Z1 σ ts vs _ S1 fun v2 H2 Z2 z2 k2 S2 r2=>?_);rw[r1.sc rfl,r2.sc rfl];refine⟨i,j,rfl,rfl,f i j,rfl,?_⟩;cases hf:f i j with
   | false=>exact ite_ff ⟨false,rfl,by rw[hf]at q;exact q H2 Z2 (z1.trans z2) (k1.trans k2) S2⟩
   | true=>
     refine ite_tt (h3 H2 Z2 σ ts vs _ S2 fun v3 H3 Z3 z3 k3 S3 r3=>?_);rw[r3.sc rfl];exact⟨j,k,rfl,rfl,g j k,rfl,by rw[hf]at q;exact q H3 Z3 ((z1.trans z2).trans z3) ((k1.trans k2).trans k3) S3⟩
 . intro H Z σ ts vs Q S q;refine cE (ahg ho YC cR cR cR hm) (h1 H Z σ ts vs _ S fun v1 H1 Z1 z1 k1 S1 r1=>h2 H1 Z1 σ ts vs _ S1 fun v2 H2 Z2 z2 k2 S2 r2=>?_);rw[r1.sc rfl,r2.sc rfl];refine⟨i,j,rfl,rfl,f i j,rfl,?_⟩;cases hf:f i j with
   | false=>exact ite_ff (by rw[hf]at q;exact q _ H2 Z2 (z1.trans z2) (k1.trans k2) (S2.push (.bl _)))
   | true=>
     refine ite_tt (h3 H2 Z2 σ ts vs _ S2 fun v3 H3 Z3 z3 k3 S3 r3=>?_);rw[r3.sc rfl];exact⟨j,k,rfl,rfl,by rw[hf]at q;exact q _ H3 Z3 ((z1.trans z2).trans z3) ((k1.trans k2).trans k3) (S3.push (.bl _))⟩
variable{prog:Program}{w:World}{A:Around}{E:BM}{s:Shared}
def CB(ns:AT)(i:Nat)(q:Str):Bool:=decide (q∈ns.take i)
def ail{R:Result->Shared->Prop}{I a:Addr}{items:DA}(hh:A.in1.handled=none)(hne:a≠I){S:Addr}(hS1:S≠I)(hS2:S≠a){ns:AT}(hn:items.size=ns.length)(nd:ns.Nodup)(hb:ns.length+1<scanBound)
   (hv:∀(i:Nat) (v:Value),items[i]? = some v->∃x t,ns[i]? = some x/\v=Value.str x t) :
   ∀(k i:Nat) (h:Heap) (tk:Nat),i+k=ns.length->h.IsListIter I a i->h.IsList a items->h.SetOf (strKind prog w) S (CB ns i) i →
     (∀h' tk',(∀b o,b≠S->b≠I->h.get? b=some o->h'.get? b=some o)->h'.SetOf (strKind prog w) S (CB ns ns.length) ns.length->R (.ok (.ret .none)) {s with heap:=h',toks:=tk'}) →
     codeAny (model prog w) A (.builtin "set.update.loop" ⟨[.ref S,.ref I],[]⟩) R {s with heap:=h,toks:=tk}:=by
 have W:=Walks.list (prog:=prog) (w:=w) (A:=A.in1) hh I a hne items;have ao6:∀{h h':Heap} {f:Str->Bool} {n:Nat},(∀b o,b∉[I]->h.get? b=some o->h'.get? b=some o)->h.SetOf (strKind prog w) S f n->h'.SetOf (strKind prog w) S f n:=fun hk ⟨o,es,ep,t,ho,r⟩=>⟨o,es,ep,t,hk S o (by simp[hS1]) ho,r⟩;intro k
 induction k with
 | zero=>
   intro i h tk hi hit hl hs hR;have ei:i=items.size:=by omega
   refine codeAny_builtin F.entry_set_update_loop ?_;rw[Around.under_plainId aEa _];refine aBY (m:=pyNext (.ref I)) (W.done {s with heap:=h,toks:=tk} _ _ ⟨ei▸hit,hl⟩ fun h' tk' hk=>?_);refine aCb (hR h' tk' (fun b o _ b2 e=>hk b o (by simp[b2]) e) (ao6 hk ?_));rw[← hn,← ei];rw[ei]at hs ⊢;exact hs
 | succ k ih=>
   intro i h tk hi hit hl hs hR;refine codeAny_builtin F.entry_set_update_loop ?_;rw[Around.under_plainId aEa _];refine aBY (m:=pyNext (.ref I)) (W.item i {s with heap:=h,toks:=tk} _ _ Q.a ⟨hit,hl⟩ fun v h1 t1 hv1 st1 hk=>?_);obtain⟨x,t,hx,rfl⟩:=hv i v hv1;have hs1:=ao6 hk hs;have hxi:i<ns.length:=by omega
   have hxe:ns[i]=x:=(aB4.mp hx).2;have axx:CB ns i x=false:=aBS fun hm=>by
     obtain⟨j,hj,ej⟩:=List.mem_take_iff_getElem.mp hm;exact(List.pairwise_iff_getElem.mp nd j i Q.a hxi Q.a) (ej.trans hxe.symm)
   refine aBY (m:=holding [Value.str x t] (setAdd S (.str x t))) (aDP ?_);unfold setAdd;refine aDP (aBY ((strKind prog w).pyHash (k:=x) (strKind_is _ _ _ _) ?_));refine wpAny_setAddHashed_of (knd:=strKind prog w) (strKind_is _ _ _ _) rfl hs1 Q.a fun h2 sb zF=>?_;rw[axx]at zF;have hs3:h2.SetOf (strKind prog w) S (CB ns (i+1)) (i+1):=by
     have e:(fun k'=>CB ns i k' || decide (k'=x))=CB ns (i+1):=by
       funext q;unfold CB;rw[aCH,hx,← Bool.decide_or];exact decide_eq_decide.mpr Uf
     rw[← e];exact zF
   have k12:∀b o,b≠S->h1.get? b=some o->h2.get? b=some o:=fun b o hb e=>(sb.2 b hb).trans e;refine aCb ⟨plainId_quiet aEa _,ih (i+1) h2 _ Q.a (st1.1.at fun o e=>k12 I o (aC0 hS1) e) (st1.2.at fun o e=>k12 a o (aC0 hS2) e) hs3 fun h' tk' hk2 hs'=>?_⟩;exact hR h' tk' (fun b o b1 b2 e=>hk2 b o b1 b2 (k12 b o b1 (hk b o (by simp[b2]) e))) hs'
def VL{a:Addr}{items:DA}{ns:AT}{Q:BM}(hh:A.handled=none)(hl:s.heap.IsList a items)(hn:items.size=ns.length)(nd:ns.Nodup)(hb:ns.length+1<scanBound)
   (hv:∀(i:Nat) (v:Value),items[i]? = some v->∃x t,ns[i]? = some x/\v=Value.str x t)
   (hQ:∀h' tk,h'.SetOf (strKind prog w) s.heap.objs.size (CB ns ns.length) ns.length->(∀b o,s.heap.get? b=some o->h'.get? b=some o)->Q (.ref s.heap.objs.size) {s with heap:=h',toks:=tk}) :
   wpAny (model prog w) A (call (.type "set") [.ref a]) Q E s:=by
 obtain⟨c,tl,q1⟩:=aDs.mro;have q2:=aDs.made;have q3:=aDs.sub;have q4:=aDs.notType;have q5:=aDs.canCreate;have q6:=F.typeCall_set_1 (.ref a);refine wpAny_call (codeAny_of_tree (show wpAny _ _ (callAny (.type "set") _) _ _ _ from aCb ⟨Code.quiet_builtin _ Q.b,codeAny_builtin F.entry_type_call ?_⟩));rw[Around.under_plain (weight_type_call_type "set" [.ref a] []) rfl]
 repeat (any_goals (first|assumption|wp_step))
 refine aDV (code_set_new_1 (.ref a) (E:=E) (Q₁:=fun z s₁=>∃led:Bool,z=.ref s.heap.objs.size/\s₁={s with heap:=s.heap.push {cls:=.type "set",dict:=none,data:=.set #[] 0 (.fresh 0 0 led)}}) fun led=>⟨led,rfl,rfl⟩) fun r s1 hr=>?_;cases r with
 | error e=>exact hr
 | ok fl=>
   cases fl with
   | ret z=>
     obtain⟨led,rfl,rfl⟩:=hr;have hS:(s.heap.push {cls:=.type "set",dict:=none,data:=.set #[] 0 (.fresh 0 0 led)}).get? s.heap.objs.size=some {cls:=.type "set",dict:=none,data:=.set #[] 0 (.fresh 0 0 led)}:=aCh _ rfl;have hT:Shared.TypeIs {s with heap:=s.heap.push {cls:=.type "set",dict:=none,data:=.set #[] 0 (.fresh 0 0 led)}} (.ref s.heap.objs.size) "set":=⟨_,hS,rfl⟩;have q7:=aDs.init.lookup;have q8:=aDs.init.bind (.ref s.heap.objs.size)
     repeat (any_goals (first|assumption|wp_step))
     refine aDV (codeAny_call_builtin (R:=wants (fun r s2=>r=.none/\∃h' tk,s2={s with heap:=h',toks:=tk}/\h'.SetOf (strKind prog w) s.heap.objs.size (CB ns ns.length) ns.length/\∀b o,s.heap.get? b=some o->h'.get? b=some o) E) aDs.init.plain F.entry_set_init (check_set_init_1 hT ?body)) fun r2 s2 hr2=>?back
     case back=>
       cases r2 with
       | error e=>exact hr2
       | ok fl=>
         cases fl with
         | ret z=>
           obtain⟨rfl,h',tk,rfl,hS',hk'⟩:=hr2
           repeat (any_goals (first|assumption|wp_step))
           exact hQ _ _ hS' hk'
         | _=>exact hr2.elim
     case body=>
       have h0:=hl;obtain⟨⟨oc,od,ob,os⟩,hol,hcl,nl,hdl⟩:=hl;cases hcl;cases hdl;have axB:(s.heap.push {cls:=.type "set",dict:=none,data:=.set #[] 0 (.fresh 0 0 led)}).get? a=some {cls:=.type "list",dict:=od,data:=.seq items nl,slots:=os}:=aBU _ hol;have hl1:(s.heap.push {cls:=.type "set",dict:=none,data:=.set #[] 0 (.fresh 0 0 led)}).IsList a items:=⟨_,axB,rfl,nl,rfl⟩;have p1:=F.sub_list_set;have p2:=F.sub_list_frozenset;have p3:(Value.type "list" == Value.type "dict")=false:=by decide
       have ha:a<s.heap.objs.size:=aB1 hol;have hz:(s.heap.push {cls:=.type "set",dict:=none,data:=.set #[] 0 (.fresh 0 0 led)}).objs.size=s.heap.objs.size+1:=Heap.size_push ..;unfold Builtin.«set.__init__» noKeywords Builtin.Frozenset.updateFrom;generalize hPI:pyIter=PI
       wp_walk
       subst hPI;refine wpAny_pyIter_list hl1 (aBY (wpAny_runValue ?_));refine ail (A:=A.in1.in1) (S:=s.heap.objs.size) (by simp[hh]) (by rw[hz];exact aCq (Nat.lt_succ_of_lt ha)) (by rw[hz];exact aCq (aC6 _)) (Nat.ne_of_gt ha) hn nd hb hv ns.length 0 _ _ (Nat.zero_add _) ⟨_,aCh _ rfl,rfl,rfl⟩ (hl1.push _) ?_ fun h' tk' hk hS'=>?_
       . have hg:((s.heap.push {cls:=.type "set",dict:=none,data:=.set #[] 0 (.fresh 0 0 led)}).push {cls:=.type "list_iterator",data:=.fields #[.ref a,.int 0 0]}).get? s.heap.objs.size=some {cls:=.type "set",dict:=none,data:=.set #[] 0 (.fresh 0 0 led)}:=aBU _ hS;exact SetOf_congr ((setObjOf_fresh (knd:=strKind prog w) led).setOf hg (by unfold scanBound;omega)) (fun q=>by unfold CB;simp) rfl
       . refine aCb (aCb ⟨rfl,h',tk',rfl,hS',fun b o e=>hk b o (aCq (aB1 e)) ?_ (aBU _ (aBU _ e))⟩);rw[hz];exact aCq (Nat.lt_succ_of_lt (aB1 e))
   | _=>exact hr.elim
def aim(prog:Program)(w:World)(a:Addr)(n:Nat)(h:Heap):Prop:=∃S,h.SetOf (strKind prog w) a S n
def aeY(hc:X.calm=true):y9 X (.type "set") (fun xs H Q=>∃(p:Addr) (ns:AT),xs=[.ref p]/\sX X.K H p (ns.map V.str)/\ns.Nodup/\ns.length<=1000/\∀l,H l=none->Q (.ref l) (upd H l (.ext (aim X.prog X.w l ns.length)))):=by
 intro pins s σ H xs us Q I r h;obtain⟨p,ns,rfl,hp,nd,hn,q⟩:=h;obtain⟨u,rfl,ru⟩:=vals1 r;cases ru;obtain⟨its,rv,pl,hz⟩:=I.list hp;have hl:its.length=ns.length:=by rw[← rv.length,aBp]
 have hv:∀{ns:AT} {us:BY},Vals (ns.map V.str) us->∀(i:Nat) (v:Value),us[i]? = some v->∃x t,ns[i]? = some x/\v=Value.str x t:=by
   intro ns
   induction ns with
   | nil=>intro us h i v e;cases h;cases i<;>cases e
   | cons y ns ih=>
     intro us h i v e;cases h with
     | cons r rr=>
       obtain⟨t,rfl⟩:=r;cases i with
       | zero=>cases e;exact⟨y,t,rfl,rfl⟩
       | succ i=>exact ih rr i v e
 refine VL (ns:=ns) (I.ok.hd hc) pl.isList (by rw[List.size_toArray,hl]) nd (by unfold scanBound;omega) (fun i v e=>hv rv i v (by simpa using e)) fun h' tk hS ek=>?_;have hS2:aim X.prog X.w s.heap.objs.size ns.length h':=⟨_,hS⟩;refine⟨.ref s.heap.objs.size,_,I.laid (t':=tk) (o:=.ext (aim X.prog X.w s.heap.objs.size ns.length)) ek (aBD _) ⟨hS2,?_,?_⟩,rfl,q _ (I.dI.fresh (aBD _))⟩
 . obtain⟨_,o,_,_,_,e,_⟩:=hS2;exact⟨o,e⟩
 . rintro h1 h2 ⟨S,o,es,ep,t,e,rest⟩ k;exact⟨S,o,es,ep,t,k o e,rest⟩
def Ss:y9 X (.builtin "len") (fun xs H Q=>∃(p:Addr) (n:Nat),xs=[.ref p]/\H p=some (.ext (aim X.prog X.w p n))/\n<=1000/\Q (.int n) H):=by
 intro pins s σ H xs us Q I r h;obtain⟨p,n,rfl,hp,hn,q⟩:=h;obtain⟨u,rfl,ru⟩:=vals1 r;cases ru;obtain⟨⟨S,o,es,ep,t,e,ex,ed,_,_,_,hf,en⟩,_,_⟩:=I.dI p _ hp;exact call_len_set e ex ed hf (by rw[en];omega) ⟨.int n,H,I.tok _,⟨s.toks+1,by rw[en]⟩,q⟩
variable{pq:Pos}
def aeZ{l:AT}{us:BS}(h:aE K CL Z (l.map D.str) us):us=l.map V.str:=by
 refine aE.ind (P:=fun ds us=>∀l:AT,ds=l.map D.str->us=l.map V.str) ?_ ?_ h l rfl
 . intro l e;cases l with
   | nil=>rfl
   | cons _ _=>cases e
 . intro d ds v vs r _ ih l e;cases l with
   | nil=>cases e
   | cons x l=>
     obtain⟨e1,e2⟩:=aBT e;subst e1;cases r;rw[ih l e2];rfl
def Zj{ns:AT}(g:Gx X)(hm:X.mg "len" = none)(hmr:X.mg "set" = none)(h:cL X CL b e δ (.lst (ns.map D.str)) δ1)(nd:ns.Nodup)(hn:ns.length<=1000)(hg:Gl X "len")(hgr:Gl X "set")(hs:AC X e []:=by exact bP rfl) :
   bU X CL b (.Call (.Name "len" pp) [.Call (.Name "set" pq) [e] [] pr] [] pos) δ (.sh (.int ns.length)) δ1:=fun H Z σ ts vs Q S k=>
 cE (wL Ss hg hm PySem.boot_len (bW (wM (aeY g.calm) hgr hmr aeW (bW cR dQ hs) (he:=hs)) dQ (bP rfl)) (he:=bP rfl)) (h H Z σ ts vs _ S fun v H1 Z1 z1 k1 S1 r=>by
   cases r with
   | lst hq rr=>
   have eu:=aeZ rr;refine⟨_,ns,rfl,by rw[← eu];exact hq,nd,hn,fun r hr=>⟨r,ns.length,rfl,bA,hn,?_⟩⟩;have same:aM H1 (upd H1 r (.ext (aim X.prog X.w r ns.length))):=aM.upd hr;obtain⟨Z',z',S2⟩:=S1.back (t:=.sh (.int ns.length)) (v:=.int ns.length) (fp:=[]) (W:=Z1) (W':=Z1) same (.refl _) (.refl _) (S1.zh.trans same) (fun a o q z=>by rw[q]at z;cases z) (fun a o q im=>by
     by_cases ha:a=r
     . subst ha;rw[bA]at q;cases q;cases im
     . rw[aA ha]at q;exact S1.tp a o q im) (.sh (.int _)) aD6 (fun a ha=>by cases ha) (.inl rfl)
   exact k _ _ _ (z1.trans z') (k1.trans same) S2)
variable{aY:Bn}
theorem arC(k:Key)(hu:X.A.units+64<cLine)(h1:cL X CL b e1 δ (aeN k) δ1)(h2:cL X CL b e2 δ1 (.mz aY) δ2)(hm:behindInMarks .In e2=false) :
   bU X CL b (.Compare e1 [.In] [e2] pos) δ (.sh (.bl (zH aY k).isSome)) δ2:=fun H Z σ ts vs Q S kk=>
 cE (ap3 (aqN Q.a cR cR) hm) (h1 H Z σ ts vs _ S fun v H1 Z1 z1 k1 S1 r1=>h2 H1 Z1 σ ts vs _ S1 fun v2 H2 Z2 z2 k2 S2 r2=>by
   cases r2 with
   | @mz a gs _ ha rr=>
     refine⟨a,uI gs k,rfl,by rw[r1.key];exact J3.k ha,?_⟩;rw[Mv rr];exact kk _ H2 Z2 (z1.trans z2) (k1.trans k2) (S2.push (.bl _)))
section
variable{ds:Ap}{D:ja}
def ain(h:δ[i]? = some (some t))(q:t.fj=d)(k:gw X CL b jM (δ.set i (some (.sh d))) D):gw X CL b jM δ D:=fun H Z σ ts vs E S M=>by
 subst q;obtain⟨v,Z',_,z,S'⟩:=S.acJ h;exact k H Z' σ ts vs E S'.pop (M.mono z)
def aio:zG X (binaryOp .Add) (fun x y H Q=>∃a b ys,x=.ref a/\y=.ref b/\xJ X.K H a []/\xJ X.K H b ys/\Q (.ref b) H):=by
 intro pins s σ H x y v u Q I rx ry h;obtain⟨a,b,ys,rfl,rfl,ha,hb,q⟩:=h;cases rx;cases ry;obtain⟨its,r1,p1,_⟩:=I.tuple ha;obtain⟨C4,r2,p2,_⟩:=I.tuple hb;have e1:=r1.Lg.mpr rfl;subst e1;obtain⟨⟨cls,dd,data,sl⟩,ho,hc,n,hd⟩:=id p1;obtain⟨⟨aty,dd2,data2,sl2⟩,ho2,hc2,n2,hd2⟩:=id p2;simp only at hc hd hc2 hd2;subst hc hd hc2 hd2;exact concat_meets ⟨_,ho,rfl⟩ ⟨_,ho2,rfl⟩ noFill_tuple_add seq_tuple_add aDB aDv (aDr _ _)
     (tuple_addW0 a b #[] C4.toArray n n2 dd dd2 sl sl2 rfl) ⟨ho,ho2,.ref b,H,I,rfl,q⟩
def aip(h1:bU X CL b e1 δ (.sh (.tup ds)) δ1)(h2:bU X CL b e2 δ1 (.sh (.tup Dc)) δ2)(n2:Dc≠[])(hz:ds.length+Dc.length<=sizeLine) :
   bU X CL b (.BinOp e1 .Add e2 pos) δ (.sh (.tup (ds++Dc))) δ2:=by
 cases ds with
 | cons d ds=>exact ah8 h1 h2 (aCy _ _) n2 hz
 | nil=>
     intro H Z σ ts vs Q S k;exact cE (QI aio cR cR) (h1 H Z σ ts vs _ S fun v1 H1 Z1 z1 k1 S1=>h2 H1 Z1 σ _ _ _ S1 fun v2 H2 Z2 z2 k2 S2=>by
       have r2:=S2.Mx;have r1:=S2.pop.Mx;cases r1 with
       | tup YG QT=>
         cases QT;have r2':=r2;cases r2 with
         | tup Qi Vy=>exact⟨_,_,_,rfl,rfl,aM.YF S2.zh YG,aM.YF S2.zh Qi,k _ _ Z2 (z1.trans z2) (k1.trans k2) (S2.pop.pop.push r2')⟩)
end
inductive Sv where
 | ix (j:Nat)|fld (f:Str)|key (k:D1)
def ae0{α:Type}(k:D1)(t:α):List (D1×α)->List (D1×α)
 | []=>[]
 | (x,u)::r=>if x=k then(x,t)::r else(x,u)::ae0 k t r
def T.core:T->T
 | .pin _ t=>t
 | t=>t
def T.Zk:T->T->T
 | .pin y _,u=>.pin y u
 | _,u=>u
def T.kid:Sv->T->Option T
 | .ix j,.lst ts=>ts[j]?
 | .ix j,.tup ts=>ts[j]?
 | .fld f,.ins _ fs=>fs.lookup f
 | .key k,.dct aY=>VJ aY k
 | _,_=>none
def T.aiq:Sv->T->T->T
 | .ix j,.lst ts,u=>.lst (ts.set j u)
 | .ix j,.tup ts,u=>.tup (ts.set j u)
 | .fld f,.ins c fs,u=>.ins c (wX f u fs)
 | .key k,.dct aY,u=>.dct (ae0 k u aY)
 | _,t,_=>t
def T.Df:List Sv->T->Option T
 | [],t=>some t.core
 | s::p,t=>(t.core.kid s).bind (T.Df p)
def T.J5:List Sv->T->T->T
 | [],u,t=>t.Zk u
 | s::p,u,t=>match t.core.kid s with
   | some k=>t.Zk (t.core.aiq s (T.J5 p u k))
   | none=>t
def At1(H:Hp)(v:V):Sv->V->Prop
 | .ix j,w=>∃a us,v=.ref a/\(H a=some (.lst us)\/H a=some (.tup us))/\us[j]? = some w
 | .fld f,w=>∃a C dx gs,v=.ref a/\H a=some (.ins C dx gs)/\gs.lookup f=some w
 | .key k,w=>∃a gs,v=.ref a/\H a=some (.dT gs)/\uI gs k=some w
def Sw(H:Hp):V->List Sv->V->Prop
 | v,[],w=>v=w
 | v,s::p,w=>∃u,At1 H v s u/\Sw H u p w
theorem At1.mono{H':Hp}(e:aM H H'){w:V}{s:Sv}(h:At1 H v s w):At1 H' v s w:=by
 cases s with
 | ix j=>obtain⟨a,us,h1,h2,h3⟩:=h;exact⟨a,us,h1,h2.imp (e _ _) (e _ _),h3⟩
 | fld f=>obtain⟨a,C,dx,gs,h1,h2,h3⟩:=h;exact⟨a,C,dx,gs,h1,e _ _ h2,h3⟩
 | key k=>obtain⟨a,gs,h1,h2,h3⟩:=h;exact⟨a,gs,h1,e _ _ h2,h3⟩
theorem At1.inj{w w':V}{s:Sv}(h:At1 H v s w)(q:At1 H v s w'):w=w':=by
 cases s with
 | ix j=>
   obtain⟨a,us,h1,h2,h3⟩:=h;obtain⟨a',us',q1,q2,q3⟩:=q;subst h1;cases q1;have e:us=us':=by
     rcases h2 with h2|h2<;>rcases q2 with q2|q2<;>rw[h2]at q2<;>cases q2<;>rfl
   subst e;rw[h3]at q3;exact aBX q3
 | fld f=>
   obtain⟨a,C,dx,gs,h1,h2,h3⟩:=h;obtain⟨a',C',dx',gs',q1,q2,q3⟩:=q;subst h1;cases q1;rw[h2]at q2;cases q2;rw[h3]at q3;exact aBX q3
 | key k=>
   obtain⟨a,gs,h1,h2,h3⟩:=h;obtain⟨a',gs',q1,q2,q3⟩:=q;subst h1;cases q1;rw[h2]at q2;cases q2;rw[h3]at q3;exact aBX q3
theorem Sw.mono{H H':Hp}(e:aM H H'):∀{p:List Sv} {v w:V},Sw H v p w->Sw H' v p w
 | [],_,_,h=>h
 | _::_,_,_,⟨u,h,q⟩=>⟨u,h.mono e,Sw.mono e q⟩
theorem Sw.inj{H:Hp}:∀{p:List Sv} {v w w':V},Sw H v p w->Sw H v p w'->w=w'
 | [],_,_,_,h,q=>h.symm.trans q
 | _::_,_,_,_,⟨_,h1,h2⟩,⟨_,q1,q2⟩=>by
   have:=h1.inj q1;subst this;exact Sw.inj h2 q2
theorem Sw.snoc{H:Hp}{s:Sv}:∀{p:List Sv} {v w z:V},Sw H v p w->At1 H w s z->Sw H v (p++[s]) z
 | [],_,_,z,h,q=>by
   have h':_=_:=h;subst h';exact⟨z,q,rfl⟩
 | _::_,_,_,_,⟨u,h1,h2⟩,q=>⟨u,h1,Sw.snoc h2 q⟩
variable{H' Z':Hp}{us:BS}{u t0:T}{v0 w:V}{fp:BT}{p:List Sv}
theorem b8.air(h:b8 K CL H Z t v fp):b8 K CL H Z t.core v fp/\∀{H' Z':Hp} {u:T} {g:BT},b8 K CL H' Z' u v g->b8 K CL H' Z' (t.Zk u) v g:=by
 cases h with
 | pin r=>exact⟨r,fun q=>.pin q⟩
 | sh r=>exact⟨.sh r,fun q=>q⟩
 | tup r q=>exact⟨.tup r q,fun q=>q⟩
 | lst r q=>exact⟨.lst r q,fun q=>q⟩
 | ins r q=>exact⟨.ins r q,fun q=>q⟩
 | mz r q=>exact⟨.mz r q,fun q=>q⟩
 | dct r q=>exact⟨.dct r q,fun q=>q⟩
 | Lj r q p=>exact⟨.Lj r q p,fun q=>q⟩
theorem d8.at:∀(fs:BN) {gs:Bi} {fp:BT},d8 K CL H Z fs gs fp->fs.lookup f=some t->∃w f1 f2 f3,gs.lookup f=some w/\fp=f1++(f2++f3)/\b8 K CL H Z t w f2 ∧
   ∀{H':Hp} {t':T} {g:BT},(∀a∈f1++f3,H' a=H a)->b8 K CL H' Z t' w g->d8 K CL H' Z (wX f t' fs) gs (f1++(g++f3)):=by
 intro fs
 induction fs with
 | nil=>intro gs fp h e;cases e
 | cons p fs ih=>
   obtain⟨x,t0⟩:=p;intro gs fp h e;cases h with
   | @cons _ _ v _ vs f0 g0 r rs=>
     rw[aCd]at e;cases hx:f==x with
     | true=>
       rw[hx]at e;cases e;have hxe:x=f:=(aDh.mp hx).symm;refine⟨v,[],f0,g0,by rw[aCd,hx],rfl,r,fun {H' t' g} kk r'=>?_⟩;rw[wX,aBE hxe];exact d8.cons (fp:=g) (gp:=g0) r' (rs.mono (.refl _) fun a ha=>kk a (by simpa using ha))
     | false=>
       rw[hx]at e;obtain⟨w,f1,f2,f3,h1,h2,h3,h4⟩:=ih rs e;subst h2;refine⟨w,f0++f1,f2,f3,by rw[aCd,hx];exact h1,by rw[aBA],h3,fun {H' t' g} kk r'=>?_⟩;rw[wX,aBx (fun z=>by rw[z,aDe]at hx;cases hx),aBA];exact .cons (r.mono (.refl _) fun a ha=>kk a (by simp[ha])) (h4 (fun a ha=>kk a (by rw[aBA];exact aBw _ ha)) r')
theorem i9.kid{k:D1}{aY:CS}{gs:B1}(h:i9 K CL H Z aY gs fp)(hk:VJ aY k=some t) :
   ∃v f1 f2 f3,uI gs k=some v/\fp=f1++(f2++f3)/\b8 K CL H Z t v f2 ∧
     ∀{H':Hp} {t':T} {g:BT},(∀a∈f1++f3,H' a=H a)->b8 K CL H' Z t' v g->i9 K CL H' Z (ae0 k t' aY) gs (f1++(g++f3)):=by
 refine i9.ind (P:=fun aY gs fp=>VJ aY k=some t->∃v f1 f2 f3,uI gs k=some v/\fp=f1++(f2++f3)/\b8 K CL H Z t v f2 ∧
     ∀{H':Hp} {t':T} {g:BT},(∀a∈f1++f3,H' a=H a)->b8 K CL H' Z t' v g->i9 K CL H' Z (ae0 k t' aY) gs (f1++(g++f3))) (fun e=>by cases e) (fun {x t0 v0 ts vs fp gp} r rr i hk=>?_) h hk
 by_cases e:x=k
 . rw[aii (p:=(x,t0)) e]at hk;cases hk;refine⟨v0,[],fp,gp,zR e,rfl,r,fun {H' t' g} ka q=>?_⟩;rw[ae0,aBE e];exact(show i9 K CL H' Z ((x,t')::ts) ((x,v0)::vs) (g++gp) from .cons q (rr.mono (.refl _) fun a ha=>ka a ha))
 . rw[aij (p:=(x,t0)) e]at hk;obtain⟨v,f1,f2,f3,h1,h2,h3,h4⟩:=i hk;refine⟨v,fp++f1,f2,f3,by rw[wN (p:=(x,v0)) e];exact h1,by rw[h2,aBA],h3,fun {H' t' g} ka q=>?_⟩;rw[ae0,aBx e,aBA];exact .cons (r.mono (.refl _) fun a ha=>ka a (by simp[ha])) (h4 (fun a ha=>ka a (by rw[aBA];exact aBw _ ha)) q)
theorem b8.kid{s:Sv}{k:T}(zh:aM Z H)(h:b8 K CL H Z t v fp)(hk:t.kid s=some k):∃w f1 f2 f3,At1 H v s w/\fp=f1++(f2++f3)/\b8 K CL H Z k w f2 ∧
   ∀{H':Hp} {k':T} {g:BT},(∀c∈f1++f3,H' c=H c)->b8 K CL H' Z k' w g->b8 K CL H' Z (t.aiq s k') v (f1++(g++f3)):=by
 cases s with
 | ix j=>
   cases h with
   | @lst a us ts g ha rs=>
     obtain⟨w,f1,f2,f3,h1,h2,h3,h4⟩:=rs.at (j:=j) (t:=k) hk;subst h2;refine⟨w,a::f1,f2,f3,⟨a,us,rfl,.inl ha,h1⟩,rfl,h3,fun {H' k' g} kk r'=>?_⟩;have q:=h4 (fun c hc=>kk c (aBt _ hc)) r';rw[lG h1]at q;exact .lst ((kk a aBr).trans ha) q
   | @tup a us ts g ha rs=>
     obtain⟨w,f1,f2,f3,h1,h2,h3,h4⟩:=rs.at (j:=j) (t:=k) hk;subst h2;refine⟨w,f1,f2,f3,⟨a,us,rfl,.inr (zh _ _ ha),h1⟩,rfl,h3,fun {H' k' g} kk r'=>?_⟩;have q:=h4 kk r';rw[lG h1]at q;exact .tup ha q
   | _=>cases hk
 | fld f=>
   cases h with
   | @ins a dx c gs fs g ha rs=>
     obtain⟨w,f1,f2,f3,h1,h2,h3,h4⟩:=d8.at fs rs (f:=f) (t:=k) hk;subst h2;refine⟨w,a::f1,f2,f3,⟨a,_,dx,gs,rfl,ha,h1⟩,rfl,h3,fun {H' k' g} kk r'=>?_⟩;exact .ins ((kk a aBr).trans ha) (h4 (fun c hc=>kk c (aBt _ hc)) r')
   | _=>cases hk
 | key x=>
   cases h with
   | @dct a gs aY g ha rs=>
     obtain⟨w,f1,f2,f3,h1,h2,h3,h4⟩:=rs.kid (k:=x) (t:=k) hk;subst h2;refine⟨w,a::f1,f2,f3,⟨a,gs,rfl,ha,h1⟩,rfl,h3,fun {H' k' g} kk r'=>?_⟩;exact .dct ((kk a aBr).trans ha) (h4 (fun c hc=>kk c (aBt _ hc)) r')
   | _=>cases hk
theorem b8.focus(zh:aM Z H):∀(p:List Sv) {t u:T} {v:V} {fp:BT},b8 K CL H Z t v fp->T.Df p t=some u->∃w f1 f2 f3,Sw H v p w/\fp=f1++(f2++f3)/\b8 K CL H Z u w f2 ∧
   ∀{H':Hp} {u':T} {g:BT},(∀c∈f1++f3,H' c=H c)->b8 K CL H' Z u' w g->b8 K CL H' Z (T.J5 p u' t) v (f1++(g++f3))
 | [],t,u,v,fp,h,e=>by
   obtain⟨h1,h2⟩:=h.air;cases e;exact⟨v,[],fp,[],rfl,Uf,h1,fun {H' u' g} _ r=>by rw[aDa,aBW];exact h2 r⟩
 | s::p,t,u,v,fp,h,e=>by
   obtain⟨h1,h2⟩:=h.air;rw[T.Df]at e;cases hk:t.core.kid s with
   | none=>rw[hk]at e;cases e
   | some k=>
     rw[hk]at e;obtain⟨w1,a1,a2,a3,q1,q2,q3,q4⟩:=h1.kid zh hk;obtain⟨w,f1,f2,f3,r1,r2,r3,r4⟩:=b8.focus zh p q3 e;subst q2 r2;refine⟨w,a1++f1,f2,f3++a3,⟨w1,q1,r1⟩,by simp only[aBA],r3,fun {H' u' g} kk r'=>?_⟩;rw[T.J5,hk];have q:=h2 (q4 (k':=T.J5 p u' k) (fun c hc=>kk c (by
       rcases aBy.mp hc with h|h
       . simp[h]
       . simp[h])) (r4 (fun c hc=>kk c (by
       rcases aBy.mp hc with h|h
       . simp[h]
       . simp[h])) r'))
     simpa only [List.append_assoc] using q
theorem cu.ais(S:cu K CL b H Z δ σ ts vs)(ev:σ[i]? = some (some v0))(hi:δ[i]? = some (some t0))(hp:T.Df p t0=some u)(Zm:Sw H v0 p w):∃f2 gp,b8 K CL H Z u w f2/\bw K CL H Z ts vs gp/\(f2++gp).Nodup ∧
   ∀{a:Addr} {o:HO} {u':T} {tl':CI} {us':BS} {g gp':BT},w=.ref a->a∈f2->xN o=false->b8 K CL (upd H a o) Z u' w g->bw K CL (upd H a o) Z tl' us' gp'->(g++gp').Nodup->(∀c∈g++gp',c∈f2++gp) →
     cu K CL b (upd H a o) Z (δ.set i (some (T.J5 p u' t0))) σ tl' us':=by
 obtain⟨fp,gp,e,r,nd,k⟩:=S.rep;obtain⟨v1,e1,e2,e3,hv,BG,rt,put,_⟩:=e.get hi;rw[ev]at hv;cases hv;obtain⟨w',f1,f2,f3,at',hf,ru,put2⟩:=rt.focus S.zh p hp;have hw:=at'.inj Zm;subst hw;subst hf;subst BG;have hpm:((e1++((f1++(f2++f3))++e3))++gp).Perm ((e1++(f1++(f3++e3)))++(f2++gp)):=List.perm_iff_count.mpr fun c=>by
   simp only[List.count_append];omega
 have nd0:=hpm.nodup_iff.mp nd;have nd':=aCw.mp nd0;refine⟨f2,gp,ru,r,nd'.2.1,fun {a o u' tl' us' g gp'} hwa ha hm hu ht hnd ahG=>?_⟩;have hup:∀c∈e1++(f1++(f3++e3)),upd H a o c=H c:=fun c hc=>aA fun z=>nd'.2.2 c hc a (aBN _ ha) z;have q1:=put2 (H':=upd H a o) (fun c hc=>hup c (by
   rcases aBy.mp hc with h|h
   . simp[h]
   . simp[h])) hu
 have q2:=put (H':=upd H a o) (.refl _) (fun c hc=>hup c (by
   rcases aBy.mp hc with h|h
   . simp[h]
   . simp[h])) q1
 rw[lG ev]at q2;have auu:((e1++((f1++(g++f3))++e3))++gp').Perm ((e1++(f1++(f3++e3)))++(g++gp')):=List.perm_iff_count.mpr fun c=>by
   simp only[List.count_append];omega
 refine S.Zd hm k (by simp[ha]) q2 ht (auu.nodup_iff.mpr (aCw.mpr ⟨nd'.1,hnd,fun c hc d hd=>nd'.2.2 c hc d (ahG d hd)⟩)) fun c hc=>?_;refine hpm.mem_iff.mpr ?_;rcases aBy.mp (auu.mem_iff.mp hc) with h|h
 . exact aBN _ h
 . exact aBw _ (ahG c h)
theorem cu.arD(S:cu K CL b H Z δ σ ts vs)(ev:σ[i]? = some (some v0))(hi:δ[i]? = some (some t0))(hp:T.Df p t0=some u):∃w f2,Sw H v0 p w/\b8 K CL H Z u w f2:=by
 obtain⟨fp,gp,e,r,nd,k⟩:=S.rep;obtain⟨v1,e1,e2,e3,hv,BG,rt,put,_⟩:=e.get hi;rw[ev]at hv;cases hv;obtain⟨w',f1,f2,f3,at',hf,ru,put2⟩:=rt.focus S.zh p hp;exact⟨w',f2,at',ru⟩
theorem cu.am7(S:cu K CL b H Z δ σ (t::ts) (v::vs))(ev:σ[i]? = some (some v0))(hi:δ[i]? = some (some t0))(hp:T.Df p t0=some (.lst tl))(Zm:Sw H v0 p w) :
   ∃a us,w=.ref a/\H a=some (.lst us)/\us.length=tl.length/\cu K CL b (upd H a (.lst (us++[v]))) Z (δ.set i (some (T.J5 p (.lst (tl++[t])) t0))) σ ts vs:=by
 obtain⟨f2,gp,ru,rr,nd,go⟩:=S.ais ev hi hp Zm;cases ru with
 | @lst a us _ g ha rs=>
   cases rr with
   | @cons _ _ _ _ ft gr q1 q2=>
     have ne:∀c∈g++(ft++gr),c≠a:=fun c hc z=>by subst z;exact(aCu.mp nd).1 hc
     have pm:((a::(g++(ft++[])))++gr).Perm ((a::g)++(ft++gr)):=List.perm_iff_count.mpr fun c=>by simp only[List.count_append,List.count_cons,List.count_nil];omega
     exact⟨a,us,rfl,ha,rs.length.symm,go rfl aBr rfl (.lst bA (bw.app (rs.mono (.refl _) fun c hc=>aA (ne c (by simp[hc]))) (.cons (q1.mono (.refl _) fun c hc=>aA (ne c (by simp[hc]))) .nil)))
       (q2.mono (.refl _) fun c hc=>aA (ne c (by simp[hc]))) (pm.nodup_iff.mpr nd) fun c hc=>pm.mem_iff.mp hc⟩
section
variable{e0:Expr}{t1:T}{D:ja}{fs:BN}
def TPv(X:Cx)(CL:BA)(b:Bx)(e:Expr)(δ:At)(i:Nat)(p:List Sv):Prop:=
 ∀(H Z:Hp) (σ:L2.St) (ts:CI) (vs:BS) (Q:VK),cu X.K CL b H Z δ σ ts vs->(∀v0 v H' Z',aM Z Z'->aM H H'->cu X.K CL b H' Z' δ σ ts vs->σ[i]? = some (some v0)->Sw H' v0 p v->Q v H')->Za X e σ H Q
def xV(n:Vn X i x)(h:δ[i]? = some (some t)):TPv X CL b (.Name x pos) δ i []:=fun H Z σ ts vs Q S k=>by
 obtain⟨v,hv,_⟩:=S.look h;exact cE (qI n.hi n.hv n.hd n.uG) ⟨v,hv,k v v H Z (.refl _) (.refl _) S hv rfl⟩
def Zn(hc:xM X.K (CL c))(n:aO X.K (CL c) f)(h:TPv X CL b e δ i p)(hi:δ[i]? = some (some t))(hg:T.Df p t=some (.ins c fs))(hl:fs.lookup f=some u)(hb:AS X e f:=by rfl) :
   TPv X CL b (.Attribute e f pos) δ i (p++[.fld f]):=fun H Z σ ts vs Q S k=>
 cE (YW cR hb) (h H Z σ ts vs _ S fun v0 v H' Z' z s S' ev Zm=>by
   obtain⟨w,f2,at',r⟩:=S'.arD ev hi hg;have:=at'.inj Zm;subst this;cases r with
   | @ins a dx _ gs _ g ha rs=>
     obtain⟨w,_,_,_,hw,_,_,_⟩:=d8.at fs rs hl;exact⟨a,CL c,dx,gs,w,rfl,ha,hc,n,hw,k v0 w H' Z' z s S' ev (Zm.snoc ⟨a,_,dx,gs,rfl,ha,hw⟩)⟩)
def ait{z:Int}{j:Nat}(h:TPv X CL b e δ i p)(hi:δ[i]? = some (some t))(hg:T.Df p t=some (.lst tl))(h2:cL X CL b e2 δ (.int z) δ)(hk:YD tl.length z=some j)(hp:uJ e2:=by exact fun _ _=>rfl) :
   TPv X CL b (.Subscript e e2 pos) δ i (p++[.ix j]):=fun H Z σ ts vs Q S k=>
 cE (Ma Li cR cR hp) (h H Z σ ts vs _ S fun v0 v H' Z' z1 s1 S' ev Zm=>h2 H' Z' σ ts vs _ S' fun v2 H2 Z2 z2 s2 S2 r2=>by
   have at2:=Zm.mono s2;obtain⟨w,f2,at',r⟩:=S2.arD ev hi hg;have:=at'.inj at2;subst this;cases r with
   | @lst a us _ g ha rs=>
     have hj:j<tl.length:=(Lh hk).2.1;obtain⟨w,_,_,_,hw,_,_,_⟩:=rs.at (aBC hj);refine⟨a,us,z,w,rfl,r2.sc rfl,sX.of ha,?_,k v0 w H2 Z2 (z1.trans z2) (s1.trans s2) S2 ev (at2.snoc ⟨a,us,rfl,.inl ha,hw⟩)⟩;unfold Cu;rw[← rs.length,hk];exact hw)
def My(hE:TPv X CL b e0 δ i p)(h0:δ[i]? = some (some t0))(hp0:T.Df p t0=some (.lst tl0))(h:bU X CL b e δ t δ1)(h1:δ1[i]? = some (some t1))(hp1:T.Df p t1=some (.lst tl))(hl:tl.length<=1000000)(k:gw X CL b jM (δ1.set i (some (T.J5 p (.lst (tl++[t])) t1))) D)
   (fY:attributeBase e0 "append" X.env (eval e0 X.env)=eval e0 X.env:=by rfl)
   (oX:AB X pb e:=by rfl)
   (hline:(pa.endLine==pb.line)=true:=by rfl) (hs:AC X e []:=by exact bP rfl) (Se:swapsWith (.Call (.Attribute e0 "append" pa) [e] [] pb) none pos.line X.env=pure false:=by rfl) :
   gw X CL b (.Expr (.Call (.Attribute e0 "append" pa) [e] [] pb) pos::jM) δ D:=eK fun H Z σ ts vs E S M=>
 C5 (Ep (Cw aDc aD0 aD1 BF cR (bW cR dQ hs) fY oX hline hs rfl) Se) (hE H Z σ ts vs _ S fun v0 v H0 Z0 z0 s0 S0 ev Zm=>by
   obtain⟨w,f2,at',r⟩:=S0.arD ev h0 hp0;have:=at'.inj Zm;subst this;refine⟨?_,h H0 Z0 σ ts vs _ S0 fun v2 H1 Z1 z1 k1 S1=>?_⟩
   . cases r with
     | lst ha _=>exact .inl ⟨rfl,_,sX.of ha⟩
   . obtain⟨a,us,ea,ha,hu,S2⟩:=S1.am7 ev h1 hp1 (Zm.mono k1);exact⟨a,us,v2,ea,rfl,ha,by rw[hu];exact aC8 hl (by rw[aB8];decide),M.nx _ σ _ Z1 (z0.trans z1) S2 k⟩)
end
section
variable{pos':Pos}{D:ja}{A:Type}
def arF{z w:Int}(g:Gx X)(nm:Ln X i x)(hx:δ[i]? = some (some (.sh (.int z))))(h:cL X CL b e δ (.int w) δ)(k:gw X CL b jM (δ.set i (some (.sh (.int (z+w))))) D) :
   gw X CL b (.AugAssign (.Name x pos') .Add e pos::jM) δ D:=eK fun H Z σ ts vs E S M=>
 C5 (aqk g.nd nm.hi nm.loc cR aql nm.hf) (by
   obtain⟨v,hv,r⟩:=S.ahF hx;cases r;refine⟨_,hv,h H Z σ ts vs _ S fun v2 H1 Z1 z1 k1 S1 r2=>?_⟩;cases r2;have hl:i<δ.length:=by
     rcases Nat.lt_or_ge i δ.length with h|h
     . exact h
     . rw[aCs h]at hx;cases hx
   exact⟨z,w,rfl,rfl,M.nx _ _ H1 Z1 z1 ((S1.push (.int (z+w))).set hl) k⟩)
end
end L3
namespace L2
open PySem PySem.Spec PyProof.Rows
def auv{α:Type}(xs:List α)(lo hi st:B2):List α:=
 (sliceRange (sliceBounds lo hi st xs.length).1 (sliceBounds lo hi st xs.length).2.1 (sliceBounds lo hi st xs.length).2.2).filterMap (xs[·]?)
end L2
namespace L3
open PySem PySem.Spec PyProof.Rows L2
def arG{α:Type}:Nat->(List α->Prop)->Prop
 | 0,P=>P []
 | n+1,P=>∀a,arG n fun r=>P (a::r)
def Mz{α:Type}{n:Nat}{P:List α->Prop}(h:arG n P):∀us:List α,us.length=n->P us:=by
 intro us hl
 induction us generalizing n P with
 | nil=>subst hl;exact h
 | cons a r ih=>subst hl;exact ih (P:=fun r=>P (a::r)) (h a) rfl
abbrev jH(K:Frag)(x:Str)(f:Addr):Prop:=nsIn K mainGlobals x=some (some (.ref f))
structure FG(N P G:AT)(sc:Scope):Prop extends gF N P sc where
 lc:(N.all fun x=>sc.names.lookup x==some .local)=true
 gb:(G.all fun x=>sc.names.lookup x==some .globalImplicit)=true
def fG{N P G:AT}{sc:Scope}(h:gF N P sc:=by exact rL)(lc:(N.all fun x=>sc.names.lookup x==some .local)=true:=by decide +kernel)(gb:(G.all fun x=>sc.names.lookup x==some .globalImplicit)=true:=by decide +kernel):FG N P G sc:=⟨h,lc,gb⟩
variable{X:Cx}{i:Nat}{x:Str}{N P G:AT}
def gL(c:FG N P G X.env.scope)(j:Nat)(hj:N[j]? = some x:=by rfl)(hi:X.N[i]? = some x:=by rfl)(hf:X.fn x=true:=by rfl)(hd:AD x:=by decide)(hc:AE x:=by decide):Ln X i x:=mkL hi (eq_of_beq (aCO.mp c.lc _ (aBQ hj))) hf hd hc
def gG(c:FG N P G X.env.scope)(j:Nat)(hj:G[j]? = some x:=by rfl):Gl X x:=eq_of_beq (aCO.mp c.gb _ (aBQ hj))
def arH(P:Program)(w:World)(mg:B0)(base:Heap){K:Frag}{h:Heap}(CL:BA)(XX:K.In h)(G:h.Ns mainGlobals mg){x qual:Str}{st:Stmt}{f:Addr}{fd:FuncData}{N ps:AT}(k:Nat){A:Type}(arg:A->Ap)(Pre:A->Prop)(res:A->T)(F:jr K x qual st f fd)(S:gF N ps (au st))(m:jH K x f)
   (hb:∀{uH:Value} {Ar:Around} {outer:Da} {s:Shared} {H:Hp} {E:XK} {b:Bx} {a:A},mw k (Ar.deeper (envOfC qual (au st) s.heap.objs.size f uH))->bB (Qe J2 P w K mg base N qual (au st) f uH Ar outer s H E).nox->Pre a →
     gw (Qe J2 P w K mg base N qual (au st) f uH Ar outer s H E).nox CL b (lZ st) (entry N (arg a)) {nx:=fun _=>res a=.sh .non,rt:=fun t _=>t=res a})
   (q:∀(kV doc pm:Value) (an:Cs) (uH ct:Value),arG ps.length fun us=>bindArgs (W.fnOf x qual (Ex st) (lZ st) (au st) Value.none kV doc pm an uH ct) {pos:=us}=pure (ps.zip us):=by(repeat intro _);rfl) :
   ∃f fd ps',oS P w K mg base J2 (k+1) f fd ps' (spA K CL ps.length arg Pre res)/\mg x=some (.ref f)/\keepIn K (.ref f)=true/\Binds K fd ps' []:=⟨f,fd,ps,R9 F S fun _ _ _ _ _ _ _ _ r p=>hb r ⟨⟨S.nd,rfl,.never⟩,r.units⟩ p,aCc XX G m,F.kp,F.binds fun a b c d e f=>Mz (q a b c d e f)⟩
instance aAh:DecidableEq D:=fun a b=>Classical.propDecidable (a=b)
end L3
namespace L2
open PySem PySem.Spec PyProof.Rows PySem.Builtin PySem.Builtin.Str
variable{X:Cx}{o e i:Expr}{es:CA}{to ty:TE}{ta:TA}{apos zQ pos:Pos}
def ao8:V->BS->Hp->VK->Prop:=fun x xs H Q=>∃a gs k v,x=.ref a/\xs=[kV k,v]/\H a=some (.dK gs)/\uI gs k=none/\gs.length<sizeLine/\Q v (upd H a (.dK (putK gs k v)))
theorem am8:MtM X "dict.setdefault" ao8:=by
 intro pins s σ H x vs v us Q I rx rv h;obtain⟨a,gs,k,v',rfl,rfl,hH,hn,hl,q⟩:=h;cases rx;cases rv with
 | cons r1 rv=>
   cases rv with
   | cons r2 rv=>
     cases rv;obtain⟨z,hd,ws,rel,dd⟩:=ahx I.dI hH;have hz:ws.length<=sizeLine:=by rw[← rel.length];exact z
     refine call_meetsIn PySem.F.slot_dict_setdefault dd.typeIs PySem.F.entry_dict_setdefault (PySem.F.args_dict_setdefault_3 _ _ _) (kt_meets_setdefault (je X.prog X.w) a (QO r1) hd _) ⟨ws,dd,hz,fun p hp=>?_,fun hno h' dd' hs'=>?_⟩
     . have:=rel.val k;rw[hn,hp]at this;cases this
     . have hl2:(putK gs k v').length<=sizeLine:=by have:=zS gs k v';omega
       exact⟨v',_,R1 I (by rw[hH];exact True.intro) hs' (let ⟨q,_,_,hq,_⟩:=dd';⟨q,hq⟩) (ahz hl2 hd (rel.put k r2) dd'),r2,q⟩
def am9(ho:PE X o to)(ha:PA X (e::es) ta)
   (fY:attributeBase o "setdefault" X.env (eval o X.env)=eval o X.env:=by rfl)
   (oX:((backTo zQ (starEach (e::es) X.env)).all (fun x=>!x.1)&&(backToKw zQ (keywordEach [] X.env)).all (fun x=>x.1.isSome)&&decide ((e::es).length+([]:List Keyword).length+(if ([]:List Keyword).isEmpty then 0 else 1)<30))=true:=by rfl)
   (hline:(apos.endLine==zQ.line)=true:=by rfl) (hs:AC X e es:=by rfl) (Mb:AL X zQ es:=by rfl) :
   PE X (.Call (.Attribute o "setdefault" apos) (e::es) [] zQ) (fun σ H Q=>to σ H fun x H1=>∃a gs,x=.ref a/\H1 a=some (.dK gs)/\ta σ H1 fun xs H2=>ao8 x xs H2 Q):=by
 intro pins s σ H Q I h;refine wpAny_Call_method_late fY oX hline rfl (eZ (ho pins s σ H _ I h) fun v s1 zz=>?_);obtain⟨x,H1,I1,r1,a,gs,rfl,hH,q1⟩:=zz;have r1':=r1;cases r1;obtain⟨z,hd,ws,rel,dd⟩:=ahx I1.dI hH;have dd':=dd;obtain⟨ob,es',ep,h1,h2,h3,h4,h5⟩:=dd';refine⟨"dict","dict.setdefault",PySem.F.plainAttrs_dict,PySem.F.slot_dict_setdefault,PySem.F.type_dict_setdefault,dd.typeIs,fun a' e'=>⟨ob,by cases e';exact h1,h2.2.1⟩,?_⟩;have hA:=ha zQ pins s1 σ H1 _ I1 q1;rw[hs]at hA ⊢;refine Calls.callWith_builtin (by show(false || (backTo zQ (starEach es X.env)).any (·.1))=false;rw[Mb]<;>rfl) (Calls.evalArgs_plain ?_);exact eZ hA fun us s2 ⟨vs,H2,I2,r2,q2⟩=>am8 pins s2 σ H2 _ vs _ us Q I2 r1' r2 q2
def ae1:MtR X "str.startswith" (fun x xs H Q=>∃z y:Str,x=.str z/\xs=[.str y]/\Q (.bl (Txt.startswith z y)) H):=by
 intro pins s σ H x vs v us Q I rx rv h;obtain⟨z,y,rfl,rfl,q⟩:=h;obtain⟨t,rfl⟩:=rx;obtain⟨u,rfl,t',rfl⟩:=vals1 rv;exact SC.startswith ⟨.bl _,H,I,rfl,q⟩
def ae2:MtR X "str.lstrip" (fun x xs H Q=>∃z y:Str,x=.str z/\xs=[.str y]/\z.length<=sizeLine/\Q (.str (Txt.lstripChars z y)) H):=by
 intro pins s σ H x vs v us Q I rx rv h;obtain⟨z,y,rfl,rfl,hz,q⟩:=h;obtain⟨t,rfl⟩:=rx;obtain⟨u,rfl,t',rfl⟩:=vals1 rv;exact SC.lstripChars (fun t' k=>⟨.str _,H,I.tok k,⟨_,rfl⟩,q⟩) hz
def part3(x y:Str):AT:=match occurrences x y 0 x.length 1 with
 | i::_=>[strSub x 0 i,y,strSub x (i+y.length) x.length]
 | []=>[x,Str.empty,Str.empty]
def ana:MtR X "str.partition" (fun x xs H Q=>∃z y:Str,x=.str z/\xs=[.str y]/\(y.length==0)=false/\z.length<=sizeLine/\∀p,H p=none->Q (.ref p) (upd H p (.tup ((part3 z y).map V.str)))):=by
 intro pins s σ H x vs v us Q I rx rv h;obtain⟨z,y,rfl,rfl,hy,hz,q⟩:=h;obtain⟨t,rfl⟩:=rx;obtain⟨u,rfl,t',rfl⟩:=vals1 rv;refine aDJ F.slot_str_partition (aDI _ _ _) F.entry_str_partition (F.args_str_partition_2 _ _) (meets_str_partition z y t t' hy hz) ?_;have hf:H s.heap.objs.size=none:=I.dI.fresh (aBD _);unfold part3 at q
 revert q
 cases occurrences z y 0 z.length 1 with
 | nil=>intro q;exact⟨.ref _,_,I.laid (o:=.tup ([z,Str.empty,Str.empty].map V.str)) (fun b u e=>aBU _ e) (aBD _) ⟨aCa (show 3<=10 by decide) (by rw[aB8];decide),_,.cons ⟨_,rfl⟩ (.cons ⟨_,rfl⟩ (.cons ⟨_,rfl⟩ .nil)),⟨_,aCh _ rfl,rfl,_,rfl⟩⟩,rfl,q _ hf⟩
 | cons i r=>intro q;exact⟨.ref _,_,I.laid (o:=.tup ([strSub z 0 i,y,strSub z (i+y.length) z.length].map V.str)) (fun b u e=>aBU _ e) (aBD _) ⟨aCa (show 3<=10 by decide) (by rw[aB8];decide),_,.cons ⟨_,rfl⟩ (.cons ⟨_,rfl⟩ (.cons ⟨_,rfl⟩ .nil)),⟨_,aCh _ rfl,rfl,_,rfl⟩⟩,rfl,q _ hf⟩
def ae3:y9 X (.type "int") (fun xs H Q=>∃(z:Str) (n:Int),xs=[.str z]/\intText? z=some n/\z.length<=640/\Q (.int n) H):=by
 intro pins s σ H xs us Q I r h;obtain⟨z,n,rfl,hn,hl,q⟩:=h;obtain⟨u,rfl,t,rfl⟩:=vals1 r;exact PySem.W.KIN.call_text hn hl ⟨.int n,H,I.tok _,⟨_,rfl⟩,q⟩
def GD(X:Cx)(x:Str)(f:Str->B2):Prop:=∃(a:Addr) (es:Array DictEntry) (n:Nat),X.mg x=some (.ref a)/\X.K.lookup a=some ⟨.type "dict",none,.dict es n,#[]⟩/\KeysLit X.w.params es.toList/\∀k z,f k=some z->∃t,nsIn X.K a k=some (some (.int z t))
def auw{x:Str}{f:Str->B2}{px:Pos}(hm:GD X x f)(hg:Gl X x)(hi:PE X i ty)(hs:Y9 i)(hd:AD x:=by decide) :
   PE X (.Subscript (.Name x px) i pos) (fun σ H Q=>ty σ H fun y H1=>∃(k:Str) (z:Int),y=.str k/\f k=some z/\Q (.int z) H1):=by
 intro pins s σ H Q I h;obtain⟨a,es,n,hm,hl,hk,hf⟩:=hm;refine R3 aDT.lookup hs (Bw I hg hm (eZ (hi pins s σ H _ I h) fun iv s2 zz=>?_) hd);obtain⟨y,H2,I2,ry,k,z,rfl,hz,q⟩:=zz;obtain⟨t,rfl⟩:=ry;obtain⟨t2,e⟩:=hf k z hz;have mp:=mapOf_K (prog:=X.prog) (w:=X.w) I2.QG hl hk;exact⟨mp.typeIs,wpAny_getItem_of (strKind_is X.prog X.w k t) mp (PySem.W.find_K hl e) ⟨.int z,H2,I2.tok _,⟨_,rfl⟩,q⟩⟩
end L2
namespace L3
open PySem PySem.Spec PyProof.Rows L2 PySem.Builtin PySem.Builtin.Str
variable{X:Cx}{CL:BA}{b:Bx}{e o e2 e3:Expr}{δ δ1 δ2:At}{pos apos pp px pa:Pos}{i:Nat}{x:Str}{aY:List (Key×L3.D)}{d:L3.D}{z:Str}
def ae4{y:Str}(h1:cL X CL b o δ (.str z) δ1)(h2:cL X CL b e δ1 (.str y) δ2)
   (fY:attributeBase o "startswith" X.env (eval o X.env)=eval o X.env:=by rfl)
   (oX:AB X pos e:=by rfl)
   (hline:(apos.endLine==pos.line)=true:=by rfl) (hs:AC X e []:=by exact bP rfl) :
   bU X CL b (.Call (.Attribute o "startswith" apos) [e] [] pos) δ (.sh (.bl (Txt.startswith z y))) δ2:=fun H Z σ ts vs Q S k=>
 cE (Cw aC4 PySem.F.slot_str_startswith PySem.F.type_str_startswith ae1 cR (bW cR dQ hs) fY oX hline hs rfl)
   (h1 H Z σ ts vs _ S fun v1 H1 Z1 z1 k1 S1 r1=>by
     have e1:=r1.sc rfl;subst e1;refine⟨rfl,h2 H1 Z1 σ ts vs _ S1 fun v2 H2 Z2 z2 k2 S2 r2=>?_⟩;have e2:=r2.sc rfl;subst e2;exact⟨z,y,rfl,rfl,k _ _ _ (z1.trans z2) (k1.trans k2) (S2.push (.bl _))⟩)
def ae5{y w:Str}(h1:cL X CL b o δ (.str z) δ1)(h2:cL X CL b e δ1 (.str y) δ2)(hz:z.length<=sizeLine)(hw:Txt.lstripChars z y=w)
   (fY:attributeBase o "lstrip" X.env (eval o X.env)=eval o X.env:=by rfl)
   (oX:AB X pos e:=by rfl)
   (hline:(apos.endLine==pos.line)=true:=by rfl) (hs:AC X e []:=by exact bP rfl) :
   bU X CL b (.Call (.Attribute o "lstrip" apos) [e] [] pos) δ (.sh (.str w)) δ2:=fun H Z σ ts vs Q S k=>
 cE (Cw aC4 PySem.F.slot_str_lstrip PySem.F.type_str_lstrip ae2 cR (bW cR dQ hs) fY oX hline hs rfl)
   (h1 H Z σ ts vs _ S fun v1 H1 Z1 z1 k1 S1 r1=>by
     have e1:=r1.sc rfl;subst e1;refine⟨rfl,h2 H1 Z1 σ ts vs _ S1 fun v2 H2 Z2 z2 k2 S2 r2=>?_⟩;have e2:=r2.sc rfl;subst e2;subst hw;exact⟨z,y,rfl,rfl,hz,k _ _ _ (z1.trans z2) (k1.trans k2) (S2.push (.str _))⟩)
def VM{y:Str}{l:AT}(h1:cL X CL b o δ (.str z) δ1)(h2:cL X CL b e δ1 (.str y) δ2)(hy:(y.length==0)=false)(hz:z.length<=sizeLine)(hl:part3 z y=l)
   (fY:attributeBase o "partition" X.env (eval o X.env)=eval o X.env:=by rfl)
   (oX:AB X pos e:=by rfl)
   (hline:(apos.endLine==pos.line)=true:=by rfl) (hs:AC X e []:=by exact bP rfl) :
   bU X CL b (.Call (.Attribute o "partition" apos) [e] [] pos) δ (.sh (.tup (l.map .str))) δ2:=by
 have:bU X CL b (.Call (.Attribute o "partition" apos) [e] [] pos) δ (.tup ((l.map L3.D.str).map T.sh)) δ2:=fun H Z σ ts vs Q S k=>
   cE (Cw aC4 PySem.F.slot_str_partition PySem.F.type_str_partition ana cR (bW cR dQ hs) fY oX hline hs rfl)
     (h1 H Z σ ts vs _ S fun v1 H1 Z1 z1 k1 S1 r1=>by
       have e1:=r1.sc rfl;subst e1;refine⟨rfl,h2 H1 Z1 σ ts vs _ S1 fun v2 H2 Z2 z2 k2 S2 r2=>?_⟩;have e2:=r2.sc rfl;subst e2;subst hl;refine⟨z,y,rfl,rfl,hy,hz,fun p hpn=>?_⟩;have rc:aE X.K CL Z2 ((part3 z y).map L3.D.str) ((part3 z y).map V.str):=aE.QX _;obtain⟨c1,c2,S4⟩:=(cu.za rc S2).GH Uf hpn;exact k _ _ _ (z1.trans (z2.trans c1)) (k1.trans (k2.trans c2)) S4)
 have:=Mi this
 rwa [T.fj,kL]at this
def Sx{n:Int}(hm:X.mg "int" = none)(h:cL X CL b e δ (.str z) δ1)(hn:intText? z=some n)(hl:z.length<=640)(hg:Gl X "int")(hs:AC X e []:=by exact bP rfl):bU X CL b (.Call (.Name "int" pp) [e] [] pos) δ (.sh (.int n)) δ1:=fun H Z σ ts vs Q S k=>
 cE (wM ae3 hg hm aez (bW cR dQ hs) (he:=hs)) (h H Z σ ts vs _ S fun v H1 Z1 z1 k1 S1 r=>⟨z,n,by rw[r.sc rfl],hn,hl,k _ H1 Z1 z1 k1 (S1.push (.int _))⟩)
def acX{f:Str->B2}{k:Str}{z:Int}(hm:GD X x f)(hg:Gl X x)(h:cL X CL b e δ (.str k) δ1)(hf:f k=some z)(hs:Y9 e:=by exact fun _ _=>rfl)(hd:AD x:=by decide):bU X CL b (.Subscript (.Name x px) e pos) δ (.sh (.int z)) δ1:=fun H Z σ ts vs Q S kk=>
 cE (auw hm hg cR hs hd) (h H Z σ ts vs _ S fun v H1 Z1 z1 k1 S1 r1=>⟨k,z,r1.sc rfl,hf,kk _ H1 Z1 z1 k1 (S1.push (.int z))⟩)
def anb(k:Key)(n:Vn X i x)(h1:δ[i]? = some (some (.mz aY)))(h2:cL X CL b e2 δ (aeN k) δ)(h3:bU X CL b e3 δ (.sh d) δ)(hk:zH aY k=none)(hl:aY.length<=1000000)
   (fY:attributeBase (.Name x px) "setdefault" X.env (eval (.Name x px) X.env)=eval (.Name x px) X.env:=by rfl)
   (oX:((backTo pos (starEach [e2,e3] X.env)).all (fun x=>!x.1)&&(backToKw pos (keywordEach [] X.env)).all (fun x=>x.1.isSome)&&decide ([e2,e3].length+([]:List Keyword).length+(if ([]:List Keyword).isEmpty then 0 else 1)<30))=true:=by rfl)
   (hline:(pa.endLine==pos.line)=true:=by rfl) (hs:starEach [e2,e3] X.env=(false,eval e2 X.env)::starEach [e3] X.env:=by exact bP rfl) (zF:AC X e3 []:=by exact bP rfl) (Mb:(backTo pos (starEach [e3] X.env)).any (·.1)=false:=by rfl) :
   TEm X CL b (.Call (.Attribute (.Name x px) "setdefault" pa) [e2,e3] [] pos) δ (.sh .any) (δ.set i (some (.mz (Cy aY k d)))):=fun H Z σ ts vs Q S kk=>
 cE (am9 (qI n.hi n.hv n.hd n.uG) (bW cR (bW cR dQ zF) hs) fY oX hline hs Mb) (by
   obtain⟨v0,e0,r0⟩:=S.look h1;rw[T.fj]at r0;cases r0 with
   | @mz a gs0 _ ha0 rr0=>
     refine⟨_,e0,a,gs0,rfl,ha0,h2 H Z σ _ _ _ S fun v2 H2 Z2 z2 k2 S2 r2=>h3 H2 Z2 σ _ _ _ S2 fun v3 H3 Z3 z3 k3 S3=>?_⟩;obtain⟨a2,gs,ea,ha,hg,S4⟩:=S3.ah7 k h1;rw[e0]at ea;cases ea;have hv:uI gs k=none:=by
       obtain⟨v1,e1,r1⟩:=S3.look h1;rw[T.fj]at r1;rw[e0]at e1;cases e1;cases r1 with
       | @mz _ gs1 _ ha1 QT=>
         rw[ha]at ha1;cases ha1;have:=Mv (k:=k) QT;rw[hk]at this;cases e9:uI gs k with
         | none=>rfl
         | some _=>rw[e9]at this;cases this
     refine⟨a,gs,k,v3,rfl,by rw[r2.key],ha,hv,by rw[hg];exact aC8 hl (by rw[aB8];decide),?_⟩;exact kk _ _ Z3 (z2.trans z3) (S4.push (.any _)))
end L3
namespace L3
open PySem PySem.Spec PyProof.Rows L2
abbrev _root_.Cf:=List (Str×Int)
def BK{k a:Str}{z v:Int}{l:Cf}(h:((a,v)::l).lookup k=some z):(k=a/\z=v)\/l.lookup k=some z:=by
 rw[aCd]at h;split at h
 . rename_i e;exact .inl ⟨eq_of_beq e,(aBX h).symm⟩
 . exact .inr h
end L3
namespace L2
open PySem PySem.Spec PyProof.Rows PySem.Builtin PySem.Builtin.Str
variable{X:Cx}{i:Expr}{ty:TE}{pos px:Pos}{x:Str}{l:List (Str×AT)}
def GEv(K:Frag)(es:List DictEntry)(l:List (Str×AT)):Prop:=∀k:Str,(l.lookup k=none/\findBy Value.isStrOf es.toArray k=none)\/∃ts b,l.lookup k=some ts/\findBy Value.isStrOf es.toArray k=some (.ref b)/\∀H:Hp,xJ K H b (ts.map V.str)
def aiu{K:Frag}:GEv K [] []:=fun k=>.inl ⟨rfl,rfl⟩
def anc{h:Int}{y:Str}{t:Tok}{v:Value}{es:List DictEntry}{k:Str}:findBy Value.isStrOf ((⟨h,.str y t,v⟩:DictEntry)::es).toArray k=if k=y then some v else findBy Value.isStrOf es.toArray k:=by
 unfold findBy;rw[List.find?_toArray,List.find?_toArray,aCV];have e:Value.isStrOf k (.str y t)=decide (k=y):=by
   show(y==k)=_;by_cases h:k=y
   . subst h;rw[aDe,aBH rfl]
   . rw[aBS h];exact aCR.mpr fun z=>h z.symm
 show Option.map _ (match Value.isStrOf k (.str y t) with|true=>_|false=>_)=_;rw[e];by_cases h:k=y
 . rw[aBH h,aBE h];rfl
 . rw[aBS h,aBx h]
def mq{K:Frag}{h:Int}{y:Str}{t:Tok}{b:Addr}{es:List DictEntry}{ts:AT}(hb:∀H:Hp,xJ K H b (ts.map V.str))(r:GEv K es l):GEv K (⟨h,.str y t,.ref b⟩::es) ((y,ts)::l):=fun k=>by
 rw[anc,aCd];by_cases e:k=y
 . rw[aBE e,aDh.mpr e];exact .inr ⟨ts,b,rfl,rfl,hb⟩
 . rw[aBx e,aCR.mpr e];exact r k
def GE(X:Cx)(x:Str)(l:List (Str×AT)):Prop:=∃(a:Addr) (es:List DictEntry) (n:Nat),X.mg x=some (.ref a)/\(a==sysModules)=false/\X.K.lookup a=some ⟨.type "dict",none,.dict es.toArray n,#[]⟩/\KeysLit X.w.params es/\GEv X.K es l
def auy{K:Frag}{ts:AT}{b:Addr}{od:Cs}{its:DA}{n:Nat}{sl:CO}(h2:K.lookup b=some ⟨.type "tuple",od,.seq its n,sl⟩)(h3:its.size<=sizeLine)(h4:Vals (ts.map V.str) its.toList):∀H:Hp,xJ K H b (ts.map V.str):=fun H=>.inr ⟨_,its,n,h2,rfl,rfl,h3,h4⟩
def arI(hm:GE X x l)(hg:Gl X x)(hi:PE X i ty)(hs:Y9 i)(hd:AD x:=by decide) :
   PE X (.Subscript (.Name x px) i pos) (fun σ H Q=>ty σ H fun y H1=>∃(k:Str) (ts:AT),y=.str k/\l.lookup k=some ts/\∀b,(∀H:Hp,xJ X.K H b (ts.map V.str))->Q (.ref b) H1):=by
 intro pins s σ H Q I h;obtain⟨a,es,n,hm,hsm,hl,hk,hf⟩:=hm;refine R3 aDT.lookup hs (Bw I hg hm (eZ (hi pins s σ H _ I h) fun iv s2 zz=>?_) hd);obtain⟨y,H2,I2,ry,k,ts,rfl,hz,q⟩:=zz;obtain⟨t,rfl⟩:=ry;have mp:=mapOf_K (prog:=X.prog) (w:=X.w) I2.QG hl (by simpa using hk);rcases hf k with⟨e,_⟩|⟨ts',b,e,e2,hb⟩
 . rw[hz]at e;cases e
 . rw[hz]at e;cases e;exact⟨mp.typeIs,wpAny_getItem_of (strKind_is X.prog X.w k t) mp e2 ⟨.ref b,H2,I2.tok _,rfl,q b hb⟩⟩
def arJ(hm:GE X x l)(hg:Gl X x)(hi:PE X i ty)(hd:AD x:=by decide) :
   PC X .In i (.Name x px) (fun σ H Q=>ty σ H fun y H1=>∃k:Str,y=.str k/\Q (.bl (l.lookup k).isSome) H1):=by
 intro pins s σ H Q I h;obtain⟨a,es,n,hm,hsm,hl,hk,hf⟩:=hm;refine eZ (hi pins s σ H _ I h) fun iv s1 zz=>?_;obtain⟨y,H1,I1,ry,k,rfl,q⟩:=zz;obtain⟨t,rfl⟩:=ry;refine Bw I1 hg hm ?_ hd;refine wpAny_in_of (strKind_is X.prog X.w k t) hsm (mapOf_K (prog:=X.prog) (w:=X.w) I1.QG hl (by simpa using hk)) ?_;refine⟨.bl (l.lookup k).isSome,H1,I1.tok _,?_,q⟩;rcases hf k with⟨e,e2⟩|⟨ts',b,e,e2,_⟩
 . rw[e,e2];rfl
 . rw[e,e2];rfl
end L2
namespace L3
open PySem PySem.Spec PyProof.Rows L2 PySem.Builtin PySem.Builtin.Str
variable{X:Cx}{CL:BA}{b:Bx}{e:Expr}{δ δ1:At}{pos px:Pos}{x k:Str}{l:List (Str×AT)}
def arK(hm:GE X x l)(hg:Gl X x)(h:cL X CL b e δ (.str k) δ1)(hd:AD x:=by decide):xO X CL b (.Compare e [.In] [.Name x px] pos) δ (l.lookup k).isSome δ1:=fun H Z σ ts vs Q S kk=>
 J4 (ag7 (arJ hm hg cR hd) rfl) (h H Z σ ts vs _ S fun v H1 Z1 z1 k1 S1 r1=>⟨k,r1.sc rfl,_,rfl,kk H1 Z1 z1 k1 S1⟩)
def arL{ts:AT}(hm:GE X x l)(hg:Gl X x)(h:cL X CL b e δ (.str k) δ1)(hf:l.lookup k=some ts)(hs:Y9 e:=by exact fun _ _=>rfl)(hd:AD x:=by decide):bU X CL b (.Subscript (.Name x px) e pos) δ (.sh (.tup (ts.map .str))) δ1:=fun H Z σ us vs Q S kk=>
 cE (arI hm hg cR hs hd) (h H Z σ us vs _ S fun v H1 Z1 z1 k1 S1 r1=>⟨k,ts,r1.sc rfl,hf,fun b' hb=>kk _ H1 Z1 z1 k1 (S1.push (.tup (hb Z1) (aE.QX ts)))⟩)
variable{o:Expr}{δ2:At}{apos:Pos}
def ae6:MtR X "str.split" (fun x vs H Q=>∃z y,x=.str z/\vs=[.str y]/\(y.length==0)=false/\z.length<=sizeLine/\(Txt.split z y).length<=sizeLine/\∀p,H p=none->Q (.ref p) (upd H p (.lst ((Txt.split z y).map V.str)))):=by
 intro pins s σ H x vs v us Q I rx rv h;obtain⟨z,y,rfl,rfl,hy,hz,hp,q⟩:=h;obtain⟨t,rfl⟩:=rx;obtain⟨u,rfl,ru⟩:=rv.one;obtain⟨t',rfl⟩:=ru;by_cases h1:(decide (z.length<y.length) || decide (strKind z<strKind y))=true
 . have e:Txt.split z y=[z]:=by unfold Txt.split;rw[aBE h1]
   rw[e]at q;exact aDJ F.slot_str_split (aDI _ _ _) aEd (aD2 _ _) (meets_str_split_cannot_occur z y t t' h1) ⟨.ref _,_,I.aht (ys:=[V.str z]) (its:=[.str z t]) (.cons ⟨_,rfl⟩ .nil) (by rw[aB8];exact aBu rfl),rfl,q _ I.fresh⟩
 . have h1:(decide (z.length<y.length) || decide (strKind z<strKind y))=false:=by simpa using h1
   by_cases h3:(occurrences z y 0 z.length (z.length+1)).isEmpty=true
   . have e:Txt.split z y=[z]:=by unfold Txt.split;rw[aBx (by rw[h1];exact aBM),aBE h3]
     rw[e]at q;exact aDJ F.slot_str_split (aDI _ _ _) aEd (aD2 _ _) (meets_str_split_not_found z y t t' h1 hy h3) ⟨.ref _,_,I.aht (ys:=[V.str z]) (its:=[.str z t]) (.cons ⟨_,rfl⟩ .nil) (by rw[aB8];exact aBu rfl),rfl,q _ I.fresh⟩
   . have h3:(occurrences z y 0 z.length (z.length+1)).isEmpty=false:=by simpa using h3
     have e:Txt.split z y=splitM z y:=by unfold Txt.split splitM;rw[aBx (by rw[h1];exact aBM),aBx (by rw[h3];exact aBM)]
     rw[e]at q hp;exact aDJ F.slot_str_split (aDI _ _ _) aEd (aD2 _ _) (meets_str_split_sep z y t t' h1 hy h3 hz hp) ⟨.ref _,_,I.aht (its:=strsFrom s.toks (splitM z y)) (Vals.strsFrom _ _) (by rw[aBp];exact hp),rfl,q _ I.fresh⟩
def ae7{z y:Str}{l:AT}(h1:cL X CL b o δ (.str z) δ1)(h2:cL X CL b e δ1 (.str y) δ2)(hy:(y.length==0)=false)(hz:z.length<=sizeLine)(hl:Txt.split z y=l)(hp:l.length<=sizeLine)
   (fY:attributeBase o "split" X.env (eval o X.env)=eval o X.env:=by rfl)
   (oX:AB X pos e:=by rfl)
   (hline:(apos.endLine==pos.line)=true:=by rfl) (hs:AC X e []:=by exact bP rfl) :
   bU X CL b (.Call (.Attribute o "split" apos) [e] [] pos) δ (.lst ((l.map L3.D.str).map T.sh)) δ2:=fun H Z σ ts vs Q S k=>
 cE (Cw aC4 PySem.F.slot_str_split PySem.F.type_str_split ae6 cR (bW cR dQ hs) fY oX hline hs rfl)
   (h1 H Z σ ts vs _ S fun v1 H1 Z1 z1 k1 S1 r1=>by
     have e1:=r1.sc rfl;subst e1;refine⟨rfl,h2 H1 Z1 σ ts vs _ S1 fun v2 H2 Z2 z2 k2 S2 r2=>?_⟩;have e2:=r2.sc rfl;subst e2;subst hl;refine⟨z,y,rfl,rfl,hy,hz,hp,fun p hpn=>?_⟩;have rc:aE X.K CL Z2 ((Txt.split z y).map L3.D.str) ((Txt.split z y).map V.str):=aE.QX _;obtain⟨c,S4⟩:=(cu.za rc S2).C6 (g0:=[]) Uf hpn;exact k _ _ _ (z1.trans z2) (k1.trans (k2.trans c)) S4)
end L3
namespace L3
open PySem PySem.Spec PyProof.Rows L2
variable{K:Frag}{CL:BA}{b:Bx}{H Z:Hp}{δ:At}{σ:L2.St}{ts tl:CI}{vs:BS}{t0:T}{v0 w:V}{i:Nat}{p:List Sv}
theorem cu.arM(S:cu K CL b H Z δ σ ts vs)(ev:σ[i]? = some (some v0))(hi:δ[i]? = some (some t0))(hp:T.Df p t0=some (.lst tl))(Zm:Sw H v0 p w) :
   ∃a us,w=.ref a/\H a=some (.lst us)/\cu K CL b (upd H a (.lst [])) Z (δ.set i (some (T.J5 p (.lst []) t0))) σ ts vs:=by
 obtain⟨f2,gp,ru,rr,nd,go⟩:=S.ais ev hi hp Zm;cases ru with
 | @lst a us _ g ha rs=>
   have ne:∀c∈g++gp,c≠a:=fun c hc z=>by subst z;exact(aCu.mp nd).1 hc
   have nd2:((a::[])++gp).Nodup:=by
     obtain⟨n1,n2⟩:=aCu.mp nd;exact aCu.mpr ⟨fun z=>n1 (aBw _ z),(aCw.mp n2).2.1⟩
   exact⟨a,us,rfl,ha,go rfl aBr rfl (.lst bA .nil) (rr.mono (.refl _) fun c hc=>aA (ne c (aBw _ hc))) nd2 fun c hc=>by
     rcases aBq.mp hc with rfl|hc
     . exact aBr
     . exact aBt _ (aBw _ hc)⟩
variable{X:Cx}{e0:Expr}{pos pa:Pos}
def acY(hE:TPv X CL b e0 δ i p)(h:δ[i]? = some (some t0))(hp:T.Df p t0=some (.lst tl))(fY:attributeBase e0 "clear" X.env (eval e0 X.env)=eval e0 X.env:=by rfl)(hline:(pa.endLine==pos.line)=true:=by rfl) :
   TEm X CL b (.Call (.Attribute e0 "clear" pa) [] [] pos) δ (.sh .non) (δ.set i (some (T.J5 p (.lst []) t0))):=fun H Z σ ts vs Q S k=>
 cE (aqJ aDc PySem.F.slot_list_clear PySem.F.type_list_clear ahv cR fY hline) (hE H Z σ ts vs _ S fun v0 w H0 Z0 z0 s0 S0 ev Zm=>by
   obtain⟨a,us,ea,ha,S2⟩:=S0.arM ev h hp Zm;subst ea;exact⟨.inl ⟨rfl,_,.inl (.inl ha)⟩,a,us,rfl,rfl,ha,k _ _ Z0 z0 (S2.push .non)⟩)
section
variable{x:Str}{d:D}
def ai{i:Int}{j:Nat}:cL X CL b (.Constant (.int i) j pos) δ (.int i) δ:=ak GF
def az{j:Nat}:cL X CL b (.Constant (.str x) j pos) δ (.str x) δ:=ak b9
def aK{n:Nat}(h:Nat.ble n 1000=true:=by rfl):n<=sizeLine:=wU h
variable{α:Type}{l:List α}{u0 u1 u2 v:α}
def iK:Cu (v::l) 0=some v:=jf (j:=0) rfl
def jX:Cu (u0::v::l) 1=some v:=jf (j:=1) rfl
def oU:Cu (u0::u1::v::l) 2=some v:=jf (j:=2) rfl
def Qj:Cu (u0::u1::u2::v::l) 3=some v:=jf (j:=3) rfl
section
variable{scope:Scope}{Nc:AT}{C:Addr}{s:Shared}{fp:BT}(i:Nat)
def arN(h1:Nc[i]? = some x:=by rfl)(h2:scope.names.lookup x=some .local:=by decide +kernel)(hd:AD x:=by decide)(uG:AE x:=by decide):Vn (dB X scope Nc C s H fp) i x:=ahR h1 h2 hd uG
def axD(h1:Nc[i]? = some x:=by rfl)(h2:scope.names.lookup x=some .free:=by decide +kernel)(hd:AD x:=by decide)(uG:AE x:=by decide):Vn (dB X scope Nc C s H fp) i x:=aq7 h1 h2 hd uG
def eN(h:δ[i]? = some (some (.sh d)):=by rfl)(n:Vn (dB X scope Nc C s H fp) i x:=by exact arN _):cL (dB X scope Nc C s H fp) CL b (.Name x pos) δ d δ:=ak (v_ n h)
def mX(h:δ[i]? = some (some (.sh d)):=by rfl)(n:Vn (dB X scope Nc C s H fp) i x:=by exact axD _):cL (dB X scope Nc C s H fp) CL b (.Name x pos) δ d δ:=ak (v_ n h)
def oZ(h2:scope.names.lookup x=some .globalImplicit:=by decide +kernel):Gl (dB X scope Nc C s H fp) x:=amF h2
end
def J6{l:AT}{a:Addr}{od:Cs}{its:DA}{n:Nat}{sl:CO}(h1:X.mg x=some (.ref a))(h2:X.K.lookup a=some ⟨.type "tuple",od,.seq its n,sl⟩)(h3:its.size<=sizeLine:=by exact wU rfl)(h4:Vals (l.map V.str) its.toList:=by repeat (first|exact .nil|refine .cons ⟨_,rfl⟩ ?_)):GT X x l:=auf h1 h2 h3 h4
def J7{ts:AT}{b:Addr}{od:Cs}{its:DA}{n:Nat}{sl:CO}(h2:K.lookup b=some ⟨.type "tuple",od,.seq its n,sl⟩)(h3:its.size<=sizeLine:=by exact wU rfl)(h4:Vals (ts.map V.str) its.toList:=by repeat (first|exact .nil|refine .cons ⟨_,rfl⟩ ?_))(H:Hp):xJ K H b (ts.map V.str):=L2.auy h2 h3 h4 H
abbrev lA(X:Cx)(CL:BA)(b:Bx)(st:Stmt)(N:AT){A:Type}(arg:A->Ap)(Pre:A->Prop)(res:A->T):Prop:=∀ ⦃a:A⦄,Pre a->gw X CL b (lZ st) (entry N (arg a)) {nx:=fun _=>res a=.sh .non,rt:=fun v__ _=>v__=res a}
end
end L3
namespace Law
open PySem L2 L3
def top(i:Nat):Stmt:=PySem.Challenge.pw_moodtree_k24_whole_read_back.main.body.getD i (.Pass ⟨0,0,0,0⟩)
def Gw:Nat->BB->Int->BB
 | 0,_,_=>[]
 | n+1,es,k=>if k=-1 then [] else k::Gw n es (es.getD k.toNat 0)
def eY(es:BB)(m:Int):BB:=Gw (es.length+1) es (es.getD m.toNat 0)
def qe(es:BB):Prop:=∀k:Nat,k<es.length->-1<=es.getD k 0/\es.getD k 0<k
variable{es:BB}{k:Int}
theorem qe.at(h:qe es)(h0:0<=k)(h1:k<es.length):-1<=es.getD k.toNat 0/\es.getD k.toNat 0<k:=by
 have:=h k.toNat Q.a;omega
def nE(ks:AT)(es ss:BB):D:=.ins "Tree" [("kinds",.lst (ks.map .str)),("elders",.lst (es.map .int)),("starts",.lst (ss.map .int))]
def pe{ks:AT}{ss:BB}:List.lookup ("kinds":Str) [(("kinds":Str),D.lst (ks.map .str)),("elders",.lst (es.map .int)),("starts",.lst (ss.map .int))]=some (.lst (ks.map .str)):=mj
def fP{ks:AT}{ss:BB}:List.lookup ("elders":Str) [(("kinds":Str),D.lst (ks.map .str)),("elders",.lst (es.map .int)),("starts",.lst (ss.map .int))]=some (.lst (es.map .int)):=by
 rw[cN Q.b,mj]
def uM{ks:AT}{ss:BB}:List.lookup ("starts":Str) [(("kinds":Str),D.lst (ks.map .str)),("elders",.lst (es.map .int)),("starts",.lst (ss.map .int))]=some (.lst (ss.map .int)):=by
 rw[cN Q.b,cN Q.b,mj]
def di(ds:Ap):T.fj (.lst (ds.map T.sh))=.lst ds:=by rw[T.fj,kL]
def pA(l:BB):(T.lst ((l.map D.int).map T.sh)).clean=true:=by rw[jA];exact Jh _
def mF(l:AT):(T.lst ((l.map D.str).map T.sh)).clean=true:=by
 rw[jA]
 induction l with
 | nil=>rfl
 | cons x l ih=>exact ih
def uN(ks:AT)(es ss:BB):BN:=[("kinds",.lst ((ks.map .str).map T.sh)),("elders",.lst ((es.map .int).map T.sh)),("starts",.lst ((ss.map .int).map T.sh))]
def QY(ks:AT)(es ss:BB):T.fj (.ins "Tree" (uN ks es ss))=nE ks es ss:=by
 unfold uN;rw[T.fj,T.Cp,T.Cp,T.Cp,T.Cp,di,di,di];rfl
def z7(ks:AT)(es ss:BB):T.cz (uN ks es ss)=true:=by
 unfold uN;rw[T.cz,T.cz,T.cz,T.cz,mF,pA,pA];rfl
theorem Sy{es:BB}(h:qe es):∀(n:Nat) {k x:Int},-1<=k->k<es.length->x∈Gw n es k->0<=x/\x<=k
 | 0,k,x,_,_,hx=>by rw[Gw]at hx;cases hx
 | n+1,k,x,h0,h1,hx=>by
   rw[Gw]at hx;split at hx
   . cases hx
   . rename_i hk;have ha:=h.at (k:=k) Q.a h1;rcases aBq.mp hx with rfl|hx
     . omega
     . have:=Sy h n Q.a Q.a hx;omega
theorem MA{es:BB}(h:qe es):∀(a b:Nat) {k:Int},-1<=k->k<es.length->k<a->k<b->Gw a es k=Gw b es k
 | 0,0,_,_,_,_,_=>rfl
 | 0,b+1,k,h0,_,ha,_=>by
   rw[Gw,Gw,aBE Q.a]
 | a+1,0,k,h0,_,_,hb=>by
   rw[Gw,Gw,aBE Q.a]
 | a+1,b+1,k,h0,h1,ha,hb=>by
   rw[Gw,Gw];split
   . rfl
   . have hk:=h.at (k:=k) Q.a h1;rw[MA h a b hk.1 Q.a Q.a Q.a]
variable{m:Int}
def MB(h:qe es)(h0:0<=m)(h1:m<es.length):eY es m=if es.getD m.toNat 0=-1 then [] else es.getD m.toNat 0::eY es (es.getD m.toNat 0):=by
 have hm:=h.at h0 h1;unfold eY;rw[Gw];split
 . rfl
 . rename_i hk;have hk2:=h.at (k:=es.getD m.toNat 0) Q.a Q.a;rw[MA h es.length (es.length+1) hk2.1 Q.a Q.a Q.a]
variable{x:Int}
def Ls(h:qe es)(h0:0<=m)(h1:m<es.length)(hx:x∈eY es m):0<=x/\x<m/\x<es.length:=by
 have hm:=h.at h0 h1;have:=Sy h _ hm.1 Q.a hx;omega
theorem BL{es:BB}(h:qe es):∀(n:Nat) {m x:Int},0<=m->m<es.length->m<n->x∈eY es m->∃pre,eY es m=pre++x::eY es x/\∀y∈pre,y∈eY es m/\x∈eY es y
 | 0,m,x,h0,_,hn,_=>by omega
 | n+1,m,x,h0,h1,hn,hx=>by
   have hm:=h.at h0 h1;have e:=MB h h0 h1;generalize hq:es.getD m.toNat 0=k at hm e;by_cases hk:k=-1
   . rw[e,aBE hk]at hx;cases hx
   . rw[aBx hk]at e;rw[e]at hx;rcases aBq.mp hx with rfl|hx
     . exact⟨[],by rw[e];rfl,fun y hy=>by cases hy⟩
     . obtain⟨pre,p1,p2⟩:=BL h n (m:=k) Q.a Q.a Q.a hx;refine⟨k::pre,by rw[e,p1];rfl,fun y hy=>?_⟩;rcases aBq.mp hy with rfl|hy
       . exact⟨by rw[e];exact aBr,hx⟩
       . exact⟨by rw[e];exact aBt _ (p2 y hy).1,(p2 y hy).2⟩
def uO(es:BB):Prop:=qe es/\∀k:Nat,k+1<es.length->es.getD (k+1) 0=k\/es.getD (k+1) 0∈eY es k
theorem acZ{es:BB}{x:Int}(h:qe es):∀(n:Nat) {k:Int},-1<=k->k<es.length->Gw n (es++[x]) k=Gw n es k
 | 0,_,_,_=>rfl
 | n+1,k,h0,h1=>by
   rw[Gw,Gw];split
   . rfl
   . have hk:=h.at (k:=k) Q.a h1;have e:(es++[x]).getD k.toNat 0=es.getD k.toNat 0:=by
       rw[aBs,aDq Q.a,← aBs]
     rw[e,acZ h n hk.1 Q.a]
def MC{k:Nat}(h:k<es.length):(es++[x]).getD k 0=es.getD k 0:=by
 rw[aBs,aDq h,← aBs]
def Sz(h:qe es)(h0:0<=m)(h1:m<es.length):eY (es++[x]) m=eY es m:=by
 have hm:=h.at h0 h1;unfold eY;rw[MC Q.a,acZ h _ hm.1 Q.a,MA h _ (es.length+1) hm.1 Q.a (by rw[aBz];omega) Q.a]
theorem qe.snoc(h:qe es)(h0:-1<=x)(h1:x<es.length):qe (es++[x]):=fun k hk=>by
 rw[aBz]at hk;simp only[aBP,List.length_nil]at hk;by_cases e:k<es.length
 . rw[MC e];exact h k e
 . have:k=es.length:=by omega
   subst this;rw[aBs,aCA (aBD _)];simp;omega
theorem uO.snoc(h:uO es){k:Nat}(hk:k+1=es.length)(hx:x=k\/x∈eY es k):uO (es++[x]):=by
 have hx':-1<=x/\x<es.length:=by
   rcases hx with e|e
   . omega
   . have:=Ls h.1 (m:=(k:Int)) Q.a Q.a e;omega
 refine⟨h.1.snoc hx'.1 hx'.2,fun j hj=>?_⟩;rw[aBz]at hj;simp only[aBP,List.length_nil]at hj;rw[Sz h.1 Q.a Q.a];by_cases e:j+1<es.length
 . rw[MC e];exact h.2 j e
 . have:j=k:=by omega
   subst this;have e2:(es++[x]).getD (j+1) 0=x:=by
     rw[aBs,aCA Q.a,hk,aDl];rfl
   rw[e2];exact hx
theorem BO:∀(n:Nat) (es:BB) (k:Int),(Gw n es k).length<=n
 | 0,_,_=>aBD _
 | n+1,es,k=>by
   rw[Gw];split
   . exact aB0 _
   . exact aDL (BO n es _)
def BP(es:BB)(m:Int):BB:=((List.range es.length).filter (fun(i:Nat)=>decide (es.getD i 0=m))).map (fun(i:Nat)=>(i:Int))
def ane(es:BB)(m:Int):(BP es m).length<=es.length:=by
 unfold BP;rw[aBp];exact aCa (List.length_filter_le _ _) Uf
def ac0(h:x∈BP es m):0<=x/\x<es.length/\es.getD x.toNat 0=m:=by
 unfold BP at h;obtain⟨i,hi,rfl⟩:=aBI.mp h;obtain⟨h1,h2⟩:=aCF.mp hi;have h1:=aB5.mp h1;have h2:=aBv h2;exact⟨We,We,by rw[aCl];exact h2⟩
def j7(bs nm:Ap)(tr:D)(is os ws:Ap):D:=.ins "Chart" [("boxes",.lst bs),("names",.lst nm),("tree",tr),("ins",.lst is),("outs",.lst os),("ways",.lst ws)]
section
variable{bs nm is os ws:Ap}{tr:D}
def j8:List.lookup ("boxes":Str) [(("boxes":Str),D.lst bs),("names",.lst nm),("tree",tr),("ins",.lst is),("outs",.lst os),("ways",.lst ws)]=some (.lst bs):=mj
def eO:List.lookup ("names":Str) [(("boxes":Str),D.lst bs),("names",.lst nm),("tree",tr),("ins",.lst is),("outs",.lst os),("ways",.lst ws)]=some (.lst nm):=by
 rw[cN Q.b,mj]
def tG:List.lookup ("tree":Str) [(("boxes":Str),D.lst bs),("names",.lst nm),("tree",tr),("ins",.lst is),("outs",.lst os),("ways",.lst ws)]=some tr:=by
 rw[cN Q.b,cN Q.b,mj]
def BQ:List.lookup ("ins":Str) [(("boxes":Str),D.lst bs),("names",.lst nm),("tree",tr),("ins",.lst is),("outs",.lst os),("ways",.lst ws)]=some (.lst is):=by
 rw[cN Q.b,cN Q.b,cN Q.b,mj]
def xW:List.lookup ("outs":Str) [(("boxes":Str),D.lst bs),("names",.lst nm),("tree",tr),("ins",.lst is),("outs",.lst os),("ways",.lst ws)]=some (.lst os):=by
 rw[cN Q.b,cN Q.b,cN Q.b,cN Q.b,mj]
def xX:List.lookup ("ways":Str) [(("boxes":Str),D.lst bs),("names",.lst nm),("tree",tr),("ins",.lst is),("outs",.lst os),("ways",.lst ws)]=some (.lst ws):=by
 rw[cN Q.b,cN Q.b,cN Q.b,cN Q.b,cN Q.b,mj]
end
def Dg(bs nm:Ap):BN:=[("boxes",.lst (bs.map T.sh)),("names",.lst (nm.map T.sh))]
def Dh(is os ws:Ap):BN:=[("ins",.lst (is.map T.sh)),("outs",.lst (os.map T.sh)),("ways",.lst (ws.map T.sh))]
def qJ(bs nm:Ap)(t:T)(is os ws:Ap):BN:=Dg bs nm++(("tree":Str),t)::Dh is os ws
def MD(bs nm:Ap)(t:T)(is os ws:Ap):T.fj (.ins "Chart" (qJ bs nm t is os ws))=j7 bs nm t.fj is os ws:=by
 unfold qJ Dg Dh;rw[aB3,aB3,aDa,T.fj,T.Cp,T.Cp,T.Cp,T.Cp,T.Cp,T.Cp,T.Cp,di,di,di,di,di];rfl
def b5{ds:Ap}(h:D.bY ds=true):(T.lst (ds.map T.sh)).clean=true:=by
 rw[jA]
 induction ds with
 | nil=>rfl
 | cons d ds ih=>
   rw[D.bY,aB6]at h;rw[aBK,T.fZ,ih h.2,T.clean,h.1];rfl
def EF{bs nm:Ap}(h1:D.bY bs=true)(h2:D.bY nm=true):T.cz (Dg bs nm)=true:=by
 unfold Dg;rw[T.cz,T.cz,T.cz,b5 h1,b5 h2];rfl
def EG{is os ws:Ap}(h1:D.bY is=true)(h2:D.bY os=true)(h3:D.bY ws=true):T.cz (Dh is os ws)=true:=by
 unfold Dh;rw[T.cz,T.cz,T.cz,T.cz,b5 h1,b5 h2,b5 h3];rfl
def tH(p:Str×Int):D:=.tup [.str p.1,.int p.2]
def ju(ns:BB)(k:Int):Int:=if k<ns.length then ns.getD k.toNat 0 else 0
def GR:CU:=(List.range 26).map (· + 97)++(List.range 10).map (· + 48)
def aiv:("abcdefghijklmnopqrstuvwxyz0123456789":Str).cps.toList=GR:=Q.f
def EH(k:Int):Str:=⟨#[GR.getD k.toNat 0]⟩
def arP:∀n∈GR,n<1114112:=Q.f
def aiw(k:Int):PyData.strOk (EH k)=true:=by
 unfold PyData.strOk EH;have:GR.getD k.toNat 0<1114112:=by
   rw[aBs];cases e:GR[k.toNat]? with
   | none=>decide
   | some n=>exact arP n (aBQ e)
 simpa [List.getD_eq_getElem?_getD] using this
def auz(m:Int):Int:=(m*48271+11) % 2147483647
def Zo(p:Int×Str):Nat->Int×Str
 | 0=>p
 | n+1=>(auz (Zo p n).1,(Zo p n).2++EH (auz (Zo p n).1 % 36))
def MF(l:BB):BI 60 (.lst (l.map .int)):=.lst fun d hd=>by
 obtain⟨i,_,rfl⟩:=aBI.mp hd;exact .int _ _
def Lv:AT:=["all","and","box","call","do","far","if","in","leaf","near","on","one","open","out","put","say","shut","then","to"]
def isLt(c:Nat):Bool:=decide (97<=c)&&decide (c<=122)
def qf(c:Nat):Bool:=decide (48<=c)&&decide (c<=57)
def MG(c:Nat):uL ⟨#[c]⟩ "abcdefghijklmnopqrstuvwxyz" = isLt c:=by
 unfold uL;rw[aDx];have e:("abcdefghijklmnopqrstuvwxyz":Str).cps.toList=(List.range 26).map (· + 97):=Q.f;rw[e];apply aDo.mpr;simp only[isLt,aCG,aB6,aBI,aB5];constructor
 . rintro⟨a,h,rfl⟩;omega
 . intro h;exact⟨c-97,We,We⟩
def ac1(c:Nat):uL ⟨#[c]⟩ "abcdefghijklmnopqrstuvwxyz0123456789" = (isLt c || qf c):=by
 unfold uL;rw[aDx];have e:("abcdefghijklmnopqrstuvwxyz0123456789":Str).cps.toList=(List.range 26).map (· + 97)++(List.range 10).map (· + 48):=Q.f;rw[e];apply aDo.mpr;simp only[isLt,qf,aCG,aB6,aDp,aBy,aBI,aB5];constructor
 . rintro(⟨a,h,rfl⟩|⟨a,h,rfl⟩)<;>omega
 . intro h;rcases h with h|h
   . exact .inl ⟨c-97,We,We⟩
   . exact .inr ⟨c-48,We,We⟩
def dN(x:Str):Bool:=decide (1<=x.length)&&(decide (x.length<=12)&&(!decide (x∈Lv)&&(isLt (x.cps.toList.getD 0 0)&&x.cps.toList.all (fun c=>isLt c || qf c))))
def SD{x:Str}(h:x.length=0):x="":=by
 obtain⟨⟨l⟩⟩:=x;have:l.length=0:=h;have e:l=[]:=aCI this;subst e;rfl
variable{j:Nat}
def MH{x:Str}{d:D}(h:(lH x)[j]? = some d):∃c,d=.str ⟨#[c]⟩/\x.cps.toList[j]? = some c:=by
 unfold lH at h;rw[aBR]at h;obtain⟨c,hc,rfl⟩:=aDj.mp h;exact⟨c,rfl,hc⟩
def MJ(i:Int)(n:Nat):Bool:=decide (0<=i)&&decide (i<(n:Int))
def bdI(i:Int):Bool:=decide (-(10 ^ (30:Int).toNat)<i)&&decide (i<10 ^ (30:Int).toNat)
def Zq(n:Nat)(a c:Int):Bool:=(decide (a=-1) || MJ a n)&&bdI c
inductive LkA
 | aix (x:Str) (m:Int)
 | num (mk:Str) (a1 c1 a2 c2:Int)
def lkV:LkA->D
 | .aix x m=>.tup [.str x,.int m]
 | .num mk a1 c1 a2 c2=>.tup [.str mk,.tup [.int a1,.int c1],.tup [.int a2,.int c2]]
def lkI(n m:Nat):LkA->Bool
 | .aix _ k=>MJ k n
 | .num mk a1 c1 a2 c2=>decide (mk∈(["<","<=","=","!="]:AT))&&(Zq m a1 c1&&Zq m a2 c2)
def anf:LkA->Prop
 | .aix x _=>x∈(["open","shut"]:AT)
 | .num mk _ _ _ _=>¬ mk∈(["open","shut"]:AT)
def aiy:∀al:List LkA,D.kK (.tup (al.map lkV))=true:=fun al=>qc (fun q=>by cases q<;>rfl) al
def axE:D->D
 | .tup [_,_,_,d,_,_]=>d
 | d=>d
inductive DdM
 | put (i a c:Int)
 | say (x:Str) (a c:Int)
 | call (x:Str)
def EI:DdM->D
 | .put i a c=>.tup [.str "put",.int i,.tup [.int a,.int c]]
 | .say x a c=>.tup [.str "say",.str x,.tup [.int a,.int c]]
 | .call x=>.tup [.str "call",.str x]
def ddL:DdM->Prop
 | .put _ _ _=>True
 | .say x _ _=>x.length<=1000
 | .call x=>x.length<=1000
structure LkW where
 src:Int
 sign:Str
 al:List LkA
 dl:List DdM
 tgt:Int
 mode:Str
def lwV(w:LkW):D:=.tup [.int w.src,.str w.sign,.tup (w.al.map lkV),.tup (w.dl.map EI),.int w.tgt,.str w.mode]
def Qk(l:BB)(s:Int):BB:=if s∈l then l else l++[s]
def kdI(l:BB):List (Key×D):=l.map fun s=>((Sum.inl s:Key),D.bl true)
def ac3(l:BB)(s:Int):((kdI l).any fun kv=>decide (kv.1=Sum.inl s))=decide (s∈l):=by
 unfold kdI
 induction l with
 | nil=>rfl
 | cons y l ih=>
   rw[aBK,aCZ,ih];by_cases h:y=s
   . subst h;simp
   . have h':¬ s=y:=fun e=>h e.symm;have h2:¬ (Sum.inl y:Key)=Sum.inl s:=fun e=>h (Sum.inl.inj e);simp[h',h2]
def ang(l:BB)(s:Int):Cy (kdI l) (.inl s) (.bl true)=kdI (Qk l s):=by
 unfold Cy;rw[ac3];unfold Qk;by_cases h:s∈l
 . rw[aBE (aBH h),aBE h];unfold kdI;rw[aBL];refine aCp fun y _=>?_;show(if (Sum.inl y:Key)=Sum.inl s then((Sum.inl y:Key),D.bl true) else((Sum.inl y:Key),D.bl true))=_;split<;>rfl
 . rw[if_neg (by simpa using h),if_neg h];unfold kdI;rw[aBF];rfl
def adds(l:BB):BB:=l.foldl Qk []
def ae8(l:BB)(x:Int):adds (l++[x])=Qk (adds l) x:=by unfold adds;rw[aCt];rfl
theorem GU:∀(l acc:BB),(l.foldl Qk acc).length<=acc.length+l.length/\∀x,x∈l.foldl Qk acc↔x∈acc\/x∈l
 | [],acc=>⟨aBD _,fun x=>by simp⟩
 | y::l,acc=>by
   obtain⟨h1,h2⟩:=GU l (Qk acc y);rw[aCf];refine⟨?_,fun x=>(h2 x).trans ?_⟩
   . have:(Qk acc y).length<=acc.length+1:=by unfold Qk;split<;>simp
     rw[aBP];omega
   . unfold Qk;by_cases hy:y∈acc
     . rw[aBE hy,aBq];constructor
       . rintro(z|z)
         . exact .inl z
         . exact .inr (.inr z)
       . rintro(z|rfl|z)
         . exact .inl z
         . exact .inl hy
         . exact .inr z
     . rw[aBx hy,aBy,aBB,aBq,or_assoc]
def anh(l:BB)(s:Int):(zH (kdI l) (.inl s)).isSome=decide (s∈l):=by
 rw[← ac3];unfold zH;rw[aEb];generalize kdI l=k
 induction k with
 | nil=>rfl
 | cons y k ih=>
   rw[aCV,aCZ];cases h:decide (y.1=Sum.inl s) with
   | true=>rfl
   | false=>rw[Bool.false_or];exact ih
structure auA(ks:AT)(es ss:BB):Prop where
 pre:uO es
 n1:1<=es.length
 n2:es.length<=900
 deep:∀m:Int,0<=m->m<es.length->(eY es m).length<=12
 kl:ks.length=es.length
 sl:ss.length=es.length
 kinds:∀m:Nat,m<es.length->ks.getD m Str.empty∈(["leaf","one","all"]:AT)/\decide (ks.getD m Str.empty="leaf")=!decide ((m:Int)∈es)
 starts:∀m:Nat,m<es.length->(ks.getD m Str.empty≠"one" /\ ss.getD m 0=-1)\/(ks.getD m Str.empty="one" /\ MJ (ss.getD m 0) es.length=true/\es.getD (ss.getD m 0).toNat 0=m)
def ddI(n:Nat):DdM->Bool
 | .put i a c=>MJ i n&&Zq n a c
 | .say x a c=>dN x&&Zq n a c
 | .call x=>dN x
def LkW.Ok(n m:Nat)(w:LkW):Prop:=MJ w.src n=true/\(w.sign.length<=1000/\dN w.sign=true)/\w.mode∈(["new","near","far"]:AT)/\((w.tgt=-1/\w.mode="new")\/(w.tgt ≠ -1/\MJ w.tgt n=true))/\∀q∈w.al,anf q/\lkI n m q=true
def bxV(q:Str×Int):D:=.tup [.str q.1,.int q.2]
def itD(p:Int×Int):D:=.tup [.int p.1,.int p.2]
abbrev _root_.CC:=List (Int×Int)
theorem ac4{l:CC}{d:D}(h:(l.map itD)[j]? = some d):∃p,l[j]? = some p/\d=itD p:=by
 rw[aBR]at h;cases e:l[j]? with
 | none=>rw[e]at h;cases h
 | some p=>rw[e]at h;exact⟨p,rfl,(aBX h).symm⟩
variable{α:Type}
def wZ{l:List α}{p:α}(h:l[j]? = some p):l.take (j+1)=l.take j++[p]:=by
 rw[aCH,h];rfl
def tlF:Nat->Int->Str->Str
 | 0,_,x=>x
 | n+1,r,x=>if 0<r then tlF n (r / 36) (x++EH (r % 36)) else x
theorem ac5:∀(n:Nat) (r:Int) (x:Str),(tlF n r x).length<=x.length+n
 | 0,r,x=>aBD _
 | n+1,r,x=>by
   rw[tlF];split
   . have:=ac5 n (r / 36) (x++EH (r % 36));rw[str_len]at this;have e:(EH (r % 36)).length=1:=rfl;omega
   . omega
theorem aiA:∀(n:Nat) (r:Int) (x:Str),PyData.strOk x=true->PyData.strOk (tlF n r x)=true
 | 0,r,x,h=>h
 | n+1,r,x,h=>by
   rw[tlF];split
   . exact aiA n _ _ (arb _ _ h (aiw _))
   . exact h
theorem ani(n:Nat){r:Int}(x:Str)(h:¬ 0<r):tlF n r x=x:=by
 cases n with
 | zero=>rfl
 | succ n=>rw[tlF,aBx h]
def xY(m:Int):Str:=tlF 20 (m / 26) (EH (m % 26))
def aiB(m:Int):(xY m).length<=21:=by
 have:=ac5 20 (m / 26) (EH (m % 26));have e:(EH (m % 26)).length=1:=rfl;unfold xY;omega
def w19:AT:=["all","and","box","call","do","far","if","in","leaf","near","on","one","open","out","put","say","shut","then","to"]
def okB(m:Int)(us:AT)(j:Nat):Bool:=!decide (xY (m+j)∈us) && !decide (xY (m+j)∈w19)
def oV(m:Int)(us:AT):Str:=match (List.range (us.length+20)).find? (okB m us) with
 | some j=>xY (m+j)
 | none=>""
def afa(m:Int)(us:AT):(oV m us).length<=21:=by
 unfold oV;split
 . exact aiB _
 . exact aB0 _
def aiC(m:Int)(us:AT):PyData.strOk (oV m us)=true:=by
 unfold oV;split
 . exact aiA _ _ _ (aiw _)
 . decide +kernel
variable{us:AT}
def aiD(hj:j<us.length+20)(hno:∀i,i<j->okB m us i=false)(h:okB m us j=true):oV m us=xY (m+j):=by
 have e:(List.range (us.length+20)).find? (okB m us)=some j:=by
   rw[aD3];exact⟨h,aB5.mpr hj,fun i hi=>by rw[hno i hi];rfl⟩
 unfold oV;rw[e]
def aiE(hno:∀i,i<us.length+20->okB m us i=false):oV m us="":=by
 have e:(List.range (us.length+20)).find? (okB m us)=none:=by
   rw[aD4];intro i hi;rw[hno i (aB5.mp hi)];exact aBM
 unfold oV;rw[e]
def z8(c st:Int):Nat->AT
 | 0=>[]
 | n+1=>z8 c st n++[oV (c+n*st) (z8 c st n)]
theorem EJ(c st:Int):∀n,(z8 c st n).length=n
 | 0=>rfl
 | n+1=>by rw[z8,aBz,EJ c st n];rfl
theorem ac6(c st:Int):∀n,∀x∈z8 c st n,x.length<=21/\PyData.strOk x=true
 | 0,x,h=>by cases h
 | n+1,x,h=>by
   rw[z8]at h;rcases aBy.mp h with h|h
   . exact ac6 c st n x h
   . cases aBB.mp h;exact⟨afa _ _,aiC _ _⟩
def QZ(s:BB):Int:=([1,26,936,33696,1213056]:BB).getD (ju s 1 % 5).toNat 0
def anj(s:BB)(n:Nat):AT:=z8 (ju s 0 % (26*36 ^ (10:Int).toNat)) (QZ s) n
def VN(s:BB):0<=QZ s/\QZ s<=1213056:=by
 unfold QZ;have a:=aB2 (ju s 1) (show(5:Int)≠0 by decide);have c:=aBZ (ju s 1) (show(0:Int)<5 by decide);have:(ju s 1 % 5).toNat=0\/(ju s 1 % 5).toNat=1\/(ju s 1 % 5).toNat=2\/(ju s 1 % 5).toNat=3\/(ju s 1 % 5).toNat=4:=by omega
 rcases this with e|e|e|e|e<;>rw[e]<;>decide
def cI(es:BB)(k:Nat):BB:=if (12:Int)<(([(k:Int)]++eY es k).length:Nat) then cutD ([(k:Int)]++eY es k) (some 1) none else [(k:Int)]++eY es k
def z9{k:Nat}(h:qe es)(hk:k+1=es.length):0<(cI es k).length/\(cI es k).length<=es.length+2/\∀x∈cI es k,0<=x/\x<es.length:=by
 have hm:∀x∈[(k:Int)]++eY es k,0<=x/\x<es.length:=fun x hx=>by
   rcases aBy.mp hx with h1|h1
   . have:x=k:=aBB.mp h1;omega
   . have ha:=h.at (k:=(k:Int)) Q.a Q.a;have:=Sy h _ ha.1 Q.a h1;omega
 have hl:([(k:Int)]++eY es k).length<=es.length+2:=by
   have:=BO (es.length+1) es (es.getD (k:Int).toNat 0);rw[aBz];unfold eY;rw[aBV];omega
 unfold cI;split
 . rename_i h12;have e:cutD ([(k:Int)]++eY es k) (some 1) none=eY es k:=by
     generalize eY es k=l at h12;unfold cutD;have h1:HT.jF ([(k:Int)]++l).length 0 (some 1)=1:=by
       rw[aBz]at h12 ⊢;rw[aBV]at h12 ⊢;unfold HT.jF;simp
     have h2:HT.jF ([(k:Int)]++l).length ([(k:Int)]++l).length none=([(k:Int)]++l).length:=rfl;rw[h1,h2];simp
   rw[e];have hl2:=aBz (as:=[(k:Int)]) (bs:=eY es k);rw[aBV]at hl2;exact⟨We,We,fun x hx=>hm x (aBw _ hx)⟩
 . exact⟨by rw[aBz,aBV];omega,hl,hm⟩
variable{n:Nat}
def getD_mem{l:BB}(h:n<l.length):l.getD n 0∈l:=by
 rw[aBs,aBC h];exact aDf h
def tK(es:BB)(p:Int×Int):BB:=if p.1 % 8<3 then es++[(cI es (es.length-1)).getD (p.1 / 8 % ((cI es (es.length-1)).length:Nat)).toNat 0] else es
def aiF(l:CC):BB:=l.foldl tK [-1]
def ank(p:Int×Int)(h:qe es)(h0:0<es.length):qe (tK es p)/\(tK es p).length=es.length+(if p.1 % 8<3 then 1 else 0):=by
 unfold tK;split
 . obtain⟨r1,r2,r3⟩:=z9 (k:=es.length-1) h Q.a;have b1:=aB2 (p.1 / 8) (b:=((cI es (es.length-1)).length:Nat)) Q.a;have b2:=aBZ (p.1 / 8) (b:=((cI es (es.length-1)).length:Nat)) Q.a;have hx:=r3 _ (getD_mem (l:=cI es (es.length-1)) (n:=(p.1 / 8 % ((cI es (es.length-1)).length:Nat)).toNat) Q.a);refine⟨h.snoc Q.a hx.2,?_⟩;rw[aBz,aBV]
 . exact⟨h,rfl⟩
def vW:CC->Nat
 | []=>0
 | p::r=>(if p.1 % 8<3 then 1 else 0)+vW r
theorem SG:∀(l:CC) (es:BB),qe es->0<es.length->qe (l.foldl tK es)/\(l.foldl tK es).length=es.length+vW l
 | [],es,h,h0=>⟨h,rfl⟩
 | p::r,es,h,h0=>by
   obtain⟨a,c⟩:=ank p h h0;obtain⟨a2,c2⟩:=SG r (tK es p) a Q.a;refine⟨a2,?_⟩;rw[aCf,c2,c,vW];omega
def MK:qe [-1]:=fun k hk=>by
 have:k=0:=by
   rw[aBV]at hk;omega
 subst this;exact⟨Int.le_refl _,show(-1:Int)<((0:Nat):Int) by decide⟩
theorem BR:∀l:CC,vW l<=l.length
 | []=>aBD _
 | p::r=>by
   have:=BR r;rw[vW,aBP];split<;>omega
def SJ(l:CC):qe (aiF l)/\(aiF l).length=1+vW l:=SG l [-1] MK (aC6 0)
def GV(l:CC):BB:=(l.filter fun p=>decide (p.1 % 8<3)).map (·.2)
theorem Di:∀l:CC,(GV l).length=vW l
 | []=>rfl
 | p::r=>by
   have:=Di r;unfold GV at this ⊢;rw[vW,List.filter_cons];split
   . rename_i h;rw[aBE (aBv h),aBK,aBP,this];omega
   . rename_i h;rw[aBx (fun z=>h (aBH z)),this];omega
def kindB(es cs:BB)(k:Nat):Str:=if BP es k=[] then "leaf" else if cs.getD k 0 % 2=1 then "all" else "one"
def w4(es cs:BB)(k:Nat):Int:=if BP es k=[] then -1 else if cs.getD k 0 % 2=1 then -1 else(BP es k).getD (cs.getD k 0 / 2 % ((BP es k).length:Nat)).toNat 0
def iD(es cs:BB)(n:Nat):AT:=(List.range n).map (kindB es cs)
def iE(es cs:BB)(n:Nat):BB:=(List.range n).map (w4 es cs)
def Dj(es cs:BB)(n:Nat):(iD es cs n).length=n:=by rw[iD,aBp,aBO]
def Dk(es cs:BB)(n:Nat):(iE es cs n).length=n:=by rw[iE,aBp,aBO]
def Aa(es cs:BB)(n:Nat){x:Str}(h:x=kindB es cs n):((iD es cs n).map D.str).map T.sh++[T.sh (.str x)]=((iD es cs (n+1)).map D.str).map T.sh:=by
 subst h;rw[iD,iD,aDb,aBF,aBF,aBF];rfl
def VP(es cs:BB)(n:Nat)(h:x=w4 es cs n):((iE es cs n).map D.int).map T.sh++[T.sh (.int x)]=((iE es cs (n+1)).map D.int).map T.sh:=by
 subst h;rw[iE,iE,aDb,aBF,aBF,aBF];rfl
def Sm:Nat->D->Prop
 | _,.int _=>True
 | _,.str _=>True
 | n+1,.lst ds=>ds.length<=1000/\∀d∈ds,Sm n d
 | n+1,.tup ds=>ds.length<=1000/\∀d∈ds,Sm n d
 | _,_=>False
def SK{ds:Ap}(h:j<ds.length):Cu ds (j:Int)=some ds[j]:=jf (aBC h)
def Dl(bs:Ap)(ns ks:AT)(es ss:BB)(is os ws:Ap):D:=.lst [.lst bs,.lst (ns.map .str),.lst (ks.map .str),.lst (es.map .int),.lst (ss.map .int),.lst is,.lst os,.lst ws]
def ac7(n:Nat)(l:AT)(h:l.length<=1000):Sm (n+1) (.lst (l.map .str)):=by
 refine⟨by rw[aBp];exact h,fun d hd=>?_⟩;obtain⟨x,_,rfl⟩:=aBI.mp hd;cases n<;>trivial
def ac8(n:Nat)(l:BB)(h:l.length<=1000):Sm (n+1) (.lst (l.map .int)):=by
 refine⟨by rw[aBp];exact h,fun d hd=>?_⟩;obtain⟨x,_,rfl⟩:=aBI.mp hd;cases n<;>trivial
structure EK(P:D->Prop)(d:D):Prop where
 im:d.kK=true
 sm:∀n,Sm (n+2) d
 dp:∀n,BI (n+2) d
 pr:P d
def iF(nb:Nat)(d:D):Prop:=∃a c:Int,d=.tup [.int a,.int c]/\(a=-1\/(0<=a/\a<nb))/\c.natAbs<10 ^ 30
def Ab(nb:Nat)(d:D):Prop:=(∃n:Str,d=.tup [.str "call",.str n]/\n.length<=21)\/(∃(k:Int) (t:D),d=.tup [.str "put",.int k,t]/\(0<=k/\k<nb)/\iF nb t)\/(∃(n:Str) (t:D),d=.tup [.str "say",.str n,t]/\n.length<=21/\iF nb t)
def tL(nb nm:Nat)(d:D):Prop:=(∃(w:Str) (k:Int),d=.tup [.str w,.int k]/\(w="open" \/ w="shut")/\0<=k/\k<nm)\/(∃(w:Str) (s t:D),d=.tup [.str w,s,t]/\w∈(["<","<=","=","!="]:AT)/\iF nb s/\iF nb t)
def join_eq(l:AT):Txt.join " " l=Str.join " " l:=StrLaws.glued_eq_join _ _
variable{l:AT}
def EL(h:(l.map (·.length)).sum+l.length<=100000):JoinOk " " l=true:=by
 unfold JoinOk;rw[aEe,aCB];have e:(" ":Str).length=1:=rfl;rw[e,Nat.mul_one];refine aBS ?_;rw[aB8];omega
def aiG(a c d:Str):Txt.join " " [a,c,d]=a++" " ++ c++" " ++ d:=by
 rw[join_eq];show a++" " ++ (c++" " ++ d)=_;rw[aC7 (a++" ") c " ",aC7 (a++" ") (c++" ") d]
def SM(c:Int):Int:=if c % 2=1 then 0-c / 2 % 10 ^ (30:Int).toNat else c / 2 % 10 ^ (30:Int).toNat
def tmB(p c:Int)(n:Nat):D:=.tup [.int (p % ((n:Int)+1)-1),.int (SM c)]
def tgB(c:Int)(n:Nat):Int:=c % ((n:Int)+1)-1
def mdB(a c:Int)(n:Nat):Str:=if tgB c n=-1 then "new" else(["new","near","far"]:AT).getD (a / 8 % 3).toNat Str.empty
def aiI(a c src:Int)(n:Nat)(ns:AT):D:=.tup [.int src,.str (ns.getD (a / 24 % (ns.length:Int)).toNat Str.empty),.tup [],.tup [],.int (tgB c n),.str (mdB a c n)]
def SN(a c:Int)(n m:Nat):D:=if a / 8 % 6 > 3 then .tup [.str ((["open","shut"]:AT).getD (a / 8 % 6-4).toNat Str.empty),.int (c % (m:Int))]
 else .tup [.str ((["<","<=","=","!="]:AT).getD (a / 8 % 6).toNat Str.empty),tmB (a / 8 / 6) c n,tmB (a / 8 / 24) (c*48271 % 2147483647) n]
def rJ(a c:Int)(n:Nat)(ns:AT):D:=if a / 8 % 3=0 then .tup [.str "call",.str (ns.getD (c % (ns.length:Int)).toNat Str.empty)]
 else if a / 8 % 3=1/\0<n then .tup [.str "put",.int (a / 24 / 4 % (n:Int)),tmB (a / 24) (c / 3) n] else .tup [.str "say",.str (ns.getD (c % (ns.length:Int)).toNat Str.empty),tmB (a / 24) (c / 3) n]
structure WY where
 src:Int
 sg:Str
 qs:Ap
 ds:Ap
 tg:Int
 md:Str
def WY.d(w:WY):D:=.tup [.int w.src,.str w.sg,.tup w.qs,.tup w.ds,.int w.tg,.str w.md]
abbrev _root_.Ch:=List Ap
abbrev _root_.EM:=List WY
structure OW where
 is:Ch
 os:Ch
 ws:EM
def wy0:WY:=⟨0,Str.empty,[],[],0,Str.empty⟩
def wyB(a c src:Int)(n:Nat)(ns:AT):WY:=⟨src,ns.getD (a / 24 % (ns.length:Int)).toNat Str.empty,[],[],tgB c n,mdB a c n⟩
def iV(l:EM):WY:=l.getD (l.length-1) wy0
def oW(l:Ch)(d:D):Ch:=l.set (l.length-1) (l.getD (l.length-1) []++[d])
def qg(nb nm:Nat)(ns:AT)(o:OW)(p:Int×Int):OW:=
 if p.1 % 8<3 then⟨o.is++[[]],o.os++[[]],o.ws⟩
 else if p.1 % 8=3 then⟨oW o.is (rJ p.1 p.2 nb ns),o.os,o.ws⟩
 else if p.1 % 8=4 then⟨o.is,oW o.os (rJ p.1 p.2 nb ns),o.ws⟩
 else if p.1 % 8=5\/o.ws=[]\/(iV o.ws).src≠(o.is.length:Int)-1 then⟨o.is,o.os,o.ws++[wyB p.1 p.2 ((o.is.length:Int)-1) nm ns]⟩
 else if p.1 % 8=6 then⟨o.is,o.os,o.ws.set (o.ws.length-1) {iV o.ws with qs:=(iV o.ws).qs++[SN p.1 p.2 nb nm]}⟩
 else⟨o.is,o.os,o.ws.set (o.ws.length-1) {iV o.ws with ds:=(iV o.ws).ds++[rJ p.1 p.2 nb ns]}⟩
def ow0:OW:=⟨[[]],[[]],[]⟩
structure apf(nm:Nat)(w:WY):Prop where
 s1:PyData.strOk w.sg=true
 s2:PyData.strOk w.md=true
 s3:w.sg.length<=21
 tg:w.tg=-1/\w.md="new" \/ (0<=w.tg/\w.tg<nm)/\w.md∈(["new","near","far"]:AT)
structure w6(nb nm m k:Nat)(w:WY):Prop where
 l3:w.qs.length+w.ds.length<=k
 g1:∀d∈w.qs,EK (tL nb nm) d
 g2:∀d∈w.ds,EK (Ab nb) d
 fin:apf nm w
 sr:0<=w.src/\w.src<m
structure qK(P:D->Prop)(k:Nat)(l:Ap):Prop where
 l1:l.length<=k
 g1:∀d∈l,EK P d
structure SQ(nb nm k:Nat)(o:OW):Prop where
 n0:0<o.is.length
 n1:o.is.length<=k+1
 n2:o.os.length=o.is.length
 ii:∀l∈o.is,qK (Ab nb) k l
 oo:∀l∈o.os,qK (Ab nb) k l
 wl:o.ws.length<=k
 ww:∀w∈o.ws,w6 nb nm o.is.length k w
variable{nb nm:Nat}{w:WY}
theorem w6.up{m m2 k:Nat}(h:w6 nb nm m k w)(hm:m<=m2):w6 nb nm m2 (k+1) w:=⟨aCk h.l3,h.g1,h.g2,h.fin,h.sr.1,by have:=h.sr.2;omega⟩
theorem w6.l1{m k:Nat}(h:w6 nb nm m k w):w.qs.length<=k:=by have:=h.l3;omega
theorem w6.l2{m k:Nat}(h:w6 nb nm m k w):w.ds.length<=k:=by have:=h.l3;omega
variable{P:D->Prop}
theorem qK.up{k:Nat}{l:Ap}(h:qK P k l):qK P (k+1) l:=⟨aCk h.l1,h.g1⟩
theorem qK.add{k:Nat}{l:Ap}{d:D}(h:qK P k l)(g:EK P d):qK P (k+1) (l++[d]):=by
 refine⟨?_,fun x hx=>?_⟩
 . have:=h.l1;rw[aBz,aBV];omega
 . rcases aBy.mp hx with hx|hx
   . exact h.g1 x hx
   . cases aBB.mp hx;exact g
theorem qK.nil(P:D->Prop)(k:Nat):qK P k []:=⟨aB0 _,fun x hx=>by cases hx⟩
def rM{l:List α}(z:α)(h:0<l.length):l.getD (l.length-1) z∈l:=by
 rw[aBs,aBC Q.a];exact aDf _
def VQ{k:Nat}{l:Ch}{d:D}(h0:0<l.length)(h:∀x∈l,qK P k x)(g:EK P d):∀x∈oW l d,qK P (k+1) x:=fun x hx=>by
 rcases aCX hx with hx|rfl
 . exact(h x hx).up
 . exact(h _ (rM [] h0)).add g
def Lw(n:Nat)(p c:Int)(nb:Nat):Sm (n+1) (tmB p c nb):=by
 refine⟨by show(2:Nat)<=1000;decide,fun d hd=>?_⟩;rcases aBq.mp hd with rfl|hd
 . cases n<;>trivial
 . cases aBB.mp hd;cases n<;>trivial
def Lx(n:Nat)(p c:Int)(nb:Nat):BI (n+1) (tmB p c nb):=by
 refine .tup fun d hd=>?_;rcases aBq.mp hd with rfl|hd
 . exact .int _ _
 . cases aBB.mp hd;exact .int _ _
def good2{x y:D}(hP:P (.tup [x,y]))(a:x.kK=true)(a2:y.kK=true)(c:∀n,Sm (n+1) x)(c2:∀n,Sm (n+1) y)(e:∀n,BI (n+1) x)(e2:∀n,BI (n+1) y):EK P (.tup [x,y]):=by
 refine⟨?_,fun n=>⟨by show(2:Nat)<=1000;decide,fun d hd=>?_⟩,fun n=>.tup fun d hd=>?_,hP⟩
 . rw[D.kK,D.bY,D.bY,D.bY,a,a2];rfl
 . rcases aBq.mp hd with rfl|hd
   . exact c n
   . cases aBB.mp hd;exact c2 n
 . rcases aBq.mp hd with rfl|hd
   . exact e n
   . cases aBB.mp hd;exact e2 n
def good3{x y z:D}(hP:P (.tup [x,y,z]))(a:x.kK=true)(a2:y.kK=true)(a3:z.kK=true)(c:∀n,Sm (n+1) x)(c2:∀n,Sm (n+1) y)(c3:∀n,Sm (n+1) z)(e:∀n,BI (n+1) x)(e2:∀n,BI (n+1) y)(e3:∀n,BI (n+1) z):EK P (.tup [x,y,z]):=by
 refine⟨?_,fun n=>⟨by show(3:Nat)<=1000;decide,fun d hd=>?_⟩,fun n=>.tup fun d hd=>?_,hP⟩
 . rw[D.kK,D.bY,D.bY,D.bY,D.bY,a,a2,a3];rfl
 . rcases aBq.mp hd with rfl|hd
   . exact c n
   rcases aBq.mp hd with rfl|hd
   . exact c2 n
   . cases aBB.mp hd;exact c3 n
 . rcases aBq.mp hd with rfl|hd
   . exact e n
   rcases aBq.mp hd with rfl|hd
   . exact e2 n
   . cases aBB.mp hd;exact e3 n
def Dm(n:Nat)(x:Str):Sm (n+1) (.str x):=trivial
def aiJ(n:Nat)(x:Int):Sm (n+1) (.int x):=trivial
theorem BU(h:∀x∈l,PyData.strOk x=true)(k:Nat):PyData.strOk (l.getD k Str.empty)=true:=by
 rw[aBs];cases e:l[k]? with
 | none=>decide +kernel
 | some x=>exact h x (aBQ e)
theorem ML(h:∀x∈l,x.length<=21)(k:Nat):(l.getD k Str.empty).length<=21:=by
 rw[aBs];cases e:l[k]? with
 | none=>exact aB0 _
 | some x=>exact h x (aBQ e)
def aiK(c:Int):(SM c).natAbs<10 ^ 30:=by
 have a:=aB2 (c / 2) (show(10 ^ (30:Int).toNat:Int)≠0 by decide +kernel);have d:=aBZ (c / 2) (show(0:Int)<10 ^ (30:Int).toNat by decide +kernel);have e:(10 ^ (30:Int).toNat:Int)=((10 ^ 30:Nat):Int):=Q.f;unfold SM;generalize (10 ^ (30:Int).toNat:Int)=z at a d e ⊢;generalize (10 ^ 30:Nat)=y at e ⊢;split<;>omega
def BV(p c:Int)(nb:Nat):iF nb (tmB p c nb):=by
 have a:=aB2 p (show((nb:Int)+1)≠0 by omega);have d:=aBZ p (show(0:Int)<(nb:Int)+1 by omega);exact⟨_,_,rfl,We,aiK c⟩
structure afb(ns:AT):Prop where
 ln:∀x∈ns,x.length<=21
 ok:∀x∈ns,PyData.strOk x=true
variable{ns:AT}
def sP(a c:Int)(nb:Nat)(h:afb ns):EK (Ab nb) (rJ a c nb ns):=by
 unfold rJ;split
 . exact good2 (.inl ⟨_,rfl,ML h.ln _⟩) rfl rfl (fun n=>Dm n _) (fun n=>Dm n _) (fun n=>.str _ _ Q.b) (fun n=>.str _ _ (BU h.ok _))
 split
 . rename_i hb;exact good3 (.inr (.inl ⟨_,_,rfl,⟨aB2 _ Q.a,aBZ _ Q.a⟩,BV _ _ _⟩)) rfl rfl rfl (fun n=>Dm n _) (fun n=>aiJ n _) (fun n=>Lw n _ _ _) (fun n=>.str _ _ Q.b) (fun n=>.int _ _) (fun n=>Lx n _ _ _)
 . exact good3 (.inr (.inr ⟨_,_,rfl,ML h.ln _,BV _ _ _⟩)) rfl rfl rfl (fun n=>Dm n _) (fun n=>Dm n _) (fun n=>Lw n _ _ _) (fun n=>.str _ _ Q.b) (fun n=>.str _ _ (BU h.ok _)) (fun n=>Lx n _ _ _)
def GX{k:Nat}(h:k<l.length):l.getD k Str.empty∈l:=by
 rw[aBs,aBC h];exact aDf h
def VR(a c:Int)(nb:Nat)(h:0<nm):EK (tL nb nm) (SN a c nb nm):=by
 have q1:=aB2 (a / 8) (show(6:Int)≠0 by decide);have q2:=aBZ (a / 8) (show 0<(6:Int) by decide);unfold SN;split
 . refine good2 (.inl ⟨_,_,rfl,?_,aB2 _ Q.a,aBZ _ Q.a⟩) rfl rfl (fun n=>Dm n _) (fun n=>aiJ n _) (fun n=>.str _ _ (BU Q.b _)) (fun n=>.int _ _);have:=GX (l:=["open","shut"]) (k:=(a / 8 % 6-4).toNat) (by show _<2;omega);rcases aBq.mp this with e|e
   . exact .inl e
   . exact .inr (aBB.mp e)
 . exact good3 (.inr ⟨_,_,_,rfl,GX (l:=["<","<=","=","!="]) (by show _<4;omega),BV _ _ _,BV _ _ _⟩) rfl rfl rfl (fun n=>Dm n _) (fun n=>Lw n _ _ _) (fun n=>Lw n _ _ _) (fun n=>.str _ _ (BU Q.b _)) (fun n=>Lx n _ _ _) (fun n=>Lx n _ _ _)
def arU(a c:Int)(n:Nat):PyData.strOk (mdB a c n)=true:=by
 unfold mdB;split
 . decide +kernel
 . exact BU Q.b _
def anm(a c src:Int)(h:afb ns):apf nm (wyB a c src nm ns):=by
 have m0:=aB2 c (show((nm:Int)+1)≠0 by omega);have m1:=aBZ c (show(0:Int)<(nm:Int)+1 by omega);have q1:=aB2 (a / 8) (show(3:Int)≠0 by decide);have q2:=aBZ (a / 8) (show 0<(3:Int) by decide);refine⟨BU h.ok _,arU _ _ _,ML h.ln _,?_⟩;show tgB c nm=-1/\mdB a c nm="new" \/ (0<=tgB c nm/\tgB c nm<nm)/\mdB a c nm∈(["new","near","far"]:AT);unfold mdB;split
 . rename_i e;exact .inl ⟨e,rfl⟩
 . rename_i e;refine .inr ⟨?_,GX (l:=["new","near","far"]) (by show _<3;omega)⟩;unfold tgB at e ⊢;omega
def aiL{m k:Nat}{l:EM}(h:∀x∈l,w6 nb nm m k x)(hw:w6 nb nm m (k+1) w):∀x∈l.set j w,w6 nb nm m (k+1) x:=fun x hx=>by
 rcases aCX hx with hx|rfl
 . exact(h x hx).up (aBD _)
 . exact hw
def SR{P:α->Prop}{l:List α}{y:α}(h:∀x∈l,P x)(hy:P y):∀x∈l++[y],P x:=fun x hx=>by
 rcases aBy.mp hx with hx|hx
 . exact h x hx
 . cases aBB.mp hx;exact hy
def ano{k:Nat}{o:OW}(p:Int×Int)(hn:afb ns)(hm:0<nm)(h:SQ nb nm k o):SQ nb nm (k+1) (qg nb nm ns o p):=by
 obtain⟨n0,n1,n2,ii,oo,wl,ww⟩:=h;have iu:∀l∈o.is,qK (Ab nb) (k+1) l:=fun l hl=>(ii l hl).up;have ou:∀l∈o.os,qK (Ab nb) (k+1) l:=fun l hl=>(oo l hl).up;have wu:∀w∈o.ws,w6 nb nm o.is.length (k+1) w:=fun w hw=>(ww w hw).up (aBD _);unfold qg;split
 . have e1:(o.is++[[]]).length=o.is.length+1:=by rw[aBz,aBV]
   refine⟨?_,?_,?_,SR iu (qK.nil _ _),SR ou (qK.nil _ _),aCk wl,fun w hw=>(ww w hw).up ?_⟩
   . show 0<(o.is++[[]]).length;omega
   . show(o.is++[[]]).length<=_;omega
   . show(o.os++[[]]).length=(o.is++[[]]).length;rw[aBz,aBz,n2]
   . show o.is.length<=(o.is++[[]]).length;omega
 split
 . have e1:(oW o.is (rJ p.1 p.2 nb ns)).length=o.is.length:=by rw[oW,aCU]
   refine⟨?_,?_,?_,VQ n0 ii (sP _ _ _ hn),ou,aCk wl,fun w hw=>(ww w hw).up ?_⟩
   . show 0<(oW o.is _).length;omega
   . show(oW o.is _).length<=_;omega
   . show o.os.length=(oW o.is _).length;omega
   . show o.is.length<=(oW o.is _).length;omega
 split
 . refine⟨n0,aCk n1,?_,iu,VQ Q.a oo (sP _ _ _ hn),aCk wl,wu⟩;show(oW o.os _).length=_;rw[oW,aCU,n2]
 split
 . refine⟨n0,aCk n1,n2,iu,ou,?_,SR wu ⟨aB0 _,(fun d hd=>by cases hd),(fun d hd=>by cases hd),anm _ _ _ hn,?_⟩⟩
   . show(o.ws++[_]).length<=_;rw[aBz,aBV];omega
   . show 0<=(o.is.length:Int)-1/\(o.is.length:Int)-1<o.is.length;omega
 rename_i hz;have hw0:o.ws≠[]:=fun z=>hz (.inr (.inl z));have hl:w6 nb nm o.is.length k (iV o.ws):=ww _ (rM wy0 (aCJ.mpr hw0));have hlen:∀w,(o.ws.set (o.ws.length-1) w).length<=k+1:=fun w=>by
   rw[aCU];omega
 split
 . have:=(qK.mk hl.l1 hl.g1).add (VR p.1 p.2 nb hm);have h3:=hl.l3;exact⟨n0,aCk n1,n2,iu,ou,hlen _,aiL ww ⟨by show((iV o.ws).qs++[_]).length+(iV o.ws).ds.length<=_;rw[aBz,aBV];omega,this.g1,hl.g2,⟨hl.fin.1,hl.fin.2,hl.fin.3,hl.fin.4⟩,hl.sr⟩⟩
 . have:=(qK.mk hl.l2 hl.g2).add (sP p.1 p.2 nb hn);have h3:=hl.l3;exact⟨n0,aCk n1,n2,iu,ou,hlen _,aiL ww ⟨by show(iV o.ws).qs.length+((iV o.ws).ds++[_]).length<=_;rw[aBz,aBV];omega,hl.g1,this.g1,⟨hl.fin.1,hl.fin.2,hl.fin.3,hl.fin.4⟩,hl.sr⟩⟩
theorem Zr{nb nm:Nat}{ns:AT}(hn:afb ns)(hm:0<nm):∀(l:CC) (k:Nat) (o:OW),SQ nb nm k o->SQ nb nm (k+l.length) (l.foldl (qg nb nm ns) o)
 | [],k,o,h=>h
 | p::r,k,o,h=>by
   have:=Zr hn hm r (k+1) _ (ano (nb:=nb) (nm:=nm) p hn hm h);rw[aCf,aBP]
   rwa [show k+(r.length+1)=k+1+r.length by omega]
def aiM(nb nm:Nat):SQ nb nm 0 ow0:=⟨aBD _,aBD _,rfl,fun l hl=>by cases aBB.mp hl;exact qK.nil _ _,fun l hl=>by cases aBB.mp hl;exact qK.nil _ _,aBD _,fun w hw=>by cases hw⟩
def anp(nb nm:Nat)(ns:AT)(l:CC):OW:=l.foldl (qg nb nm ns) ow0
def MN{k:Nat}{l:Ap}(h:qK P k l):(D.tup l).kK=true:=by
 rw[D.kK];exact mh fun d hd=>(h.g1 d hd).im
variable{m k:Nat}
def Zt(h:w6 nb nm m k w):w.d.kK=true:=by
 have a:=MN ⟨h.l1,h.g1⟩;have c:=MN ⟨h.l2,h.g2⟩;show(D.tup _).kK=true;rw[D.kK,D.bY,D.bY,D.bY,D.bY,D.bY,D.bY,D.bY,a,c];rfl
def BW{l:Ch}(h:∀x∈l,qK P k x):D.bY (l.map D.tup)=true:=mh fun d hd=>by
 obtain⟨x,hx,rfl⟩:=aBI.mp hd;exact MN (h x hx)
def SV{l:EM}(h:∀x∈l,w6 nb nm m k x):D.bY (l.map WY.d)=true:=mh fun d hd=>by
 obtain⟨x,hx,rfl⟩:=aBI.mp hd;exact Zt (h x hx)
def aiN{l:Ch}(h:∀x∈l,qK P k x)(hk:k<=1000)(hl:l.length<=1000):Sm (n+4) (.lst (l.map D.tup)):=by
 refine⟨by rw[aBp];exact hl,fun d hd=>?_⟩;obtain⟨x,hx,rfl⟩:=aBI.mp hd;have hx:=h x hx;exact⟨aCa hx.l1 hk,fun d hd=>(hx.g1 d hd).sm n⟩
def arV{l:EM}(h:∀x∈l,w6 nb nm m k x)(hk:k<=1000)(hl:l.length<=1000):Sm (n+5) (.lst (l.map WY.d)):=by
 refine⟨by rw[aBp];exact hl,fun d hd=>?_⟩;obtain⟨x,hx,rfl⟩:=aBI.mp hd;have hx:=h x hx;refine⟨by show(6:Nat)<=1000;decide,fun d hd=>?_⟩;rcases aBq.mp hd with rfl|hd
 . trivial
 rcases aBq.mp hd with rfl|hd
 . trivial
 rcases aBq.mp hd with rfl|hd
 . exact⟨aCa hx.l1 hk,fun d hd=>(hx.g1 d hd).sm n⟩
 rcases aBq.mp hd with rfl|hd
 . exact⟨aCa hx.l2 hk,fun d hd=>(hx.g2 d hd).sm n⟩
 rcases aBq.mp hd with rfl|hd
 . trivial
 . cases aBB.mp hd;trivial
def arW{l:EM}(h:∀x∈l,w6 nb nm m k x):BI 60 (.lst (l.map WY.d)):=by
 refine .lst fun d hd=>?_;obtain⟨x,hx,rfl⟩:=aBI.mp hd;have hx:=h x hx;refine .tup fun d hd=>?_;rcases aBq.mp hd with rfl|hd
 . exact .int _ _
 rcases aBq.mp hd with rfl|hd
 . exact .str _ _ hx.fin.s1
 rcases aBq.mp hd with rfl|hd
 . exact .tup fun d hd=>(hx.g1 d hd).dp 55
 rcases aBq.mp hd with rfl|hd
 . exact .tup fun d hd=>(hx.g2 d hd).dp 55
 rcases aBq.mp hd with rfl|hd
 . exact .int _ _
 . cases aBB.mp hd;exact .str _ _ hx.fin.s2
theorem SW(ds:Ap):eqD (.lst ds) (.lst [])=decide (ds=[]):=by
 unfold eqD;cases ds with
 | nil=>decide +kernel
 | cons d ds=>
   rw[D.toPy,D.toPy,PyData.eqv,D.ly,D.ly,PyData.eqvAll];exact(aBS (fun z=>by cases z)).symm
def ER(h:0<n):YD n (-1)=some (n-1):=by
 unfold YD;rw[aBx Q.c,aBE Q.a];congr 1;omega
def Ac{f:α->D}{l:List α}(z:α)(h:0<l.length):Cu (l.map f) (-1)=some (f (l.getD (l.length-1) z)):=by
 unfold Cu;rw[aBp,ER h];show(l.map f)[l.length-1]? = _;rw[aBR,aBC Q.a,aBs,aBC Q.a];rfl
def aiO{f:α->D}{l:List α}(z:α)(h:0<l.length):Cu (l.map f) ((l.length:Int)-1)=some (f (l.getD (l.length-1) z)):=by
 have:=mE (f:=f) (l:=l) (k:=(l.length:Int)-1) z Q.a Q.a
 rwa [show((l.length:Int)-1).toNat=l.length-1 by omega]at this
def aiP(h:0<n):YD n ((n:Int)-1)=some (n-1):=by
 unfold YD;rw[aBE Q.a,aBE Q.a];congr 1;omega
def Q0(l:Ch):T:=.lst ((l.map D.tup).map T.sh)
def wsL(l:EM):T:=.lst ((l.map WY.d).map T.sh)
def VW(l:Ch):T.lst ((l.map D.tup).map T.sh++[T.sh (.tup [])])=Q0 (l++[[]]):=by
 rw[Q0,aBF,aBF];rfl
def aiQ(l:EM)(w:WY):T.lst ((l.map WY.d).map T.sh++[T.sh w.d])=wsL (l++[w]):=by
 rw[wsL,aBF,aBF];rfl
def ada(l:Ch)(d:D):T.lst (((l.map D.tup).map T.sh).set (l.length-1) (T.sh (.tup (l.getD (l.length-1) []++[d]))))=Q0 (oW l d):=by
 rw[Q0,oW,aDF,aDF]
def adb(l:EM)(j:Nat)(w:WY):T.lst (((l.map WY.d).map T.sh).set j (T.sh w.d))=wsL (l.set j w):=by
 rw[wsL,aDF,aDF]
def SX{bs nm is os ws:Ap}{t:T}(h1:D.bY bs=true)(h2:D.bY nm=true)(h3:t.clean=true)(h4:D.bY is=true)(h5:D.bY os=true)(h6:D.bY ws=true):T.cz (qJ bs nm t is os ws)=true:=by
 unfold qJ Dg Dh;rw[aB3,aB3,aDa,T.cz,T.cz,T.cz,T.cz,T.cz,T.cz,T.cz,b5 h1,b5 h2,h3,b5 h4,b5 h5,b5 h6];rfl
def axG:¬ (HT.jF 6 0 none=0/\HT.jF 6 6 (some 2)=6):=by decide
def auv:¬ (HT.jF 6 0 (some 3)=0/\HT.jF 6 6 none=6):=by decide
def axH:¬ (HT.jF 6 0 none=0/\HT.jF 6 6 (some 3)=6):=by decide
def axI:¬ (HT.jF 6 0 (some 4)=0/\HT.jF 6 6 none=6):=by decide
def bT:D->Nat->D
 | .tup ds,k=>ds.getD k .non
 | _,_=>.non
def sI(i:Int):Str:=Str.ofString (toString i)
variable{i:Int}
def tM(h:i.natAbs<10 ^ 30):(sI i).length<=31:=by
 have:=int_text_length_le10 (k:=30) Q.c h;unfold sI;rw[ofString_length];exact this
def aiR(h:i.natAbs<10 ^ 30):i.natAbs.log2<1920:=by
 by_cases z:i.natAbs=0
 . rw[z];decide
 . exact(Nat.log2_lt z).mpr (Nat.lt_trans h Q.b)
def anq(a c:String):Str.ofString (a++c)=Str.ofString a++Str.ofString c:=by
 rw[Str.ofString_eq_toList,Str.ofString_eq_toList,Str.ofString_eq_toList];refine Str.ext' ?_;show((a++c).toList.map Char.toNat).toArray=(a.toList.map Char.toNat).toArray++(c.toList.map Char.toNat).toArray;rw[String.toList_append,aBF];simp
def aiS(h:i<0):sI i="-" ++ sI (i.natAbs:Int):=by
 obtain⟨n,rfl⟩:=Int.eq_negSucc_of_lt_zero h;exact anq "-" _
def EV(k:Int):Str:=if 0<k then "+" else "-"
def Ly(k:Int):(EV k).length=1:=by
 unfold EV;split<;>rfl
def dO(bn:AT)(d:D):Str:=if (bT d 0).Gv=-1 then sI (bT d 1).Gv else if (bT d 1).Gv=0 then bn.getD (bT d 0).Gv.toNat Str.empty
 else bn.getD (bT d 0).Gv.toNat Str.empty++EV (bT d 1).Gv++sI ((bT d 1).Gv.natAbs:Int)
def f7(bn:AT)(d:D):Str:=if (bT d 0).toS="call" then "call " ++ (bT d 1).toS
 else(bT d 0).toS++" " ++ (if (bT d 0).toS="put" then bn.getD (bT d 1).Gv.toNat Str.empty else(bT d 1).toS)++" " ++ dO bn (bT d 2)
def vX(bn ns:AT)(d:D):Str:=if d.cnt=2 then(bT d 0).toS++" " ++ ns.getD (bT d 1).Gv.toNat Str.empty
 else dO bn (bT d 1)++" " ++ (bT d 0).toS++" " ++ dO bn (bT d 2)
def EW(bn:AT)(a k:Int):dO bn (.tup [.int a,.int k])=if a=-1 then sI k else if k=0 then bn.getD a.toNat Str.empty else bn.getD a.toNat Str.empty++EV k++sI (k.natAbs:Int):=rfl
def Zu(bn:AT)(n:Str):f7 bn (.tup [.str "call",.str n])="call " ++ n:=aBE rfl
def afc(bn:AT)(k:Int)(t:D):f7 bn (.tup [.str "put",.int k,t])="put" ++ " " ++ bn.getD k.toNat Str.empty++" " ++ dO bn t:=by
 show(if ("put":Str)="call" then _ else "put" ++ " " ++ (if ("put":Str)="put" then bn.getD k.toNat Str.empty else _)++" " ++ dO bn t)=_;rw[aBx Q.b,aBE rfl]
def afd(bn:AT)(n:Str)(t:D):f7 bn (.tup [.str "say",.str n,t])="say" ++ " " ++ n++" " ++ dO bn t:=by
 show(if ("say":Str)="call" then _ else "say" ++ " " ++ (if ("say":Str)="put" then _ else n)++" " ++ dO bn t)=_;rw[aBx Q.b,aBx Q.b]
def aiT(bn ns:AT)(w:Str)(k:Int):vX bn ns (.tup [.str w,.int k])=w++" " ++ ns.getD k.toNat Str.empty:=rfl
def Zv(bn ns:AT)(w:Str)(s t:D):vX bn ns (.tup [.str w,s,t])=dO bn s++" " ++ w++" " ++ dO bn t:=rfl
theorem qL(h:∀x∈l,x.length<=21)(k:Nat):(l.getD k Str.empty).length<=21:=by
 rw[aBs];cases e:l[k]? with
 | none=>exact aB0 _
 | some x=>exact h x (aBQ e)
def uP{bn:AT}{d:D}(h:∀x∈bn,x.length<=21)(hd:iF nb d):(dO bn d).length<=53:=by
 obtain⟨a,c,rfl,_,hc⟩:=hd;have e:=qL h a.toNat;have e2:=tM hc;have e3:=tM (i:=(c.natAbs:Int)) (by rw[aDm];exact hc);show(if a=-1 then sI c else if c=0 then bn.getD a.toNat Str.empty else bn.getD a.toNat Str.empty++EV c++sI (c.natAbs:Int)).length<=53;split
 . omega
 split
 . omega
 . rw[str_len,str_len];have:=Ly c;omega
def Ad{bn:AT}{d:D}(h:∀x∈bn,x.length<=21)(hd:Ab nb d):(f7 bn d).length<=110:=by
 rcases hd with⟨n,rfl,hn⟩|⟨k,t,rfl,_,ht⟩|⟨n,t,rfl,hn,ht⟩
 . show(("call ":Str)++n).length<=110;rw[str_len];have:("call ":Str).length=5:=rfl;omega
 . have:=uP h ht;have e:=qL h k.toNat;show(("put":Str)++" " ++ bn.getD k.toNat Str.empty++" " ++ dO bn t).length<=110;rw[str_len,str_len,str_len,str_len];have:("put":Str).length=3:=rfl;have:(" ":Str).length=1:=rfl;omega
 . have:=uP h ht;show(("say":Str)++" " ++ n++" " ++ dO bn t).length<=110;rw[str_len,str_len,str_len,str_len];have:("say":Str).length=3:=rfl;have:(" ":Str).length=1:=rfl;omega
def anr{bn:AT}{d:D}(h:∀x∈bn,x.length<=21)(h2:∀x∈ns,x.length<=21)(hd:tL nb nm d):(vX bn ns d).length<=110:=by
 have e1:(" ":Str).length=1:=rfl;rcases hd with⟨w,k,rfl,hw,_⟩|⟨w,s,t,rfl,hw,hs,ht⟩
 . have e:=qL h2 k.toNat;have:w.length<=4:=by rcases hw with rfl|rfl<;>decide +kernel
   show(w++" " ++ ns.getD k.toNat Str.empty).length<=110;rw[str_len,str_len];omega
 . have a1:=uP h hs;have a2:=uP h ht;have:w.length<=2:=by
     have:∀x∈(["<","<=","=","!="]:AT),x.length<=2:=Q.f;exact this w hw
   show(dO bn s++" " ++ w++" " ++ dO bn t).length<=110;rw[str_len,str_len,str_len,str_len];omega
def jn(a:Str)(l:AT):Str:=l.foldl (fun x w=>x++" " ++ w) a
theorem aiU(z:Str):∀(l:AT) (a:Str),z++jn a l=jn (z++a) l
 | [],a=>rfl
 | w::l,a=>by
   show z++jn (a++" " ++ w) l=jn (z++a++" " ++ w) l;rw[aiU z l,aC7 z a " ",aC7 z (a++" ") w]
theorem BX:∀(l:AT) (a:Str),Txt.join " " (a::l)=jn a l
 | [],a=>by rw[join_eq];rfl
 | w::l,a=>by
   have ih:=BX l w;rw[join_eq]at ih ⊢;show a++" " ++ Str.join " " (w::l)=jn (a++" " ++ w) l;rw[ih,aiU]
theorem aiV{B:Nat}:∀(l:AT) (a:Str),(∀x∈l,x.length<=B)->(jn a l).length<=a.length+l.length*(B+1)
 | [],a,_=>by show a.length<=_;omega
 | w::l,a,h=>by
   have h1:=h w aBr;have h2:=aiV l (a++" " ++ w) fun x hx=>h x (aBt _ hx);rw[str_len,str_len]at h2;have e1:(" ":Str).length=1:=rfl;show(jn (a++" " ++ w) l).length<=_;rw[aBP,Nat.succ_mul];omega
def Gy(f g:Str):AT->AT
 | []=>[]
 | t::r=>f::t::r.flatMap fun x=>[g,x]
theorem aiW(f g:Str)(l:AT)(t:Str):Gy f g (l++[t])=Gy f g l++[if l=[] then f else g,t]:=by
 cases l with
 | nil=>rfl
 | cons x r=>
   show f::x::(r++[t]).flatMap _=_;rw[aDd,aBx (by intro z;cases z)];rfl
theorem uQ(f g:Str)(l:AT):(Gy f g l).length=2*l.length:=by
 cases l with
 | nil=>rfl
 | cons x r=>
   show(f::x::r.flatMap fun y=>[g,y]).length=_;have:∀r:AT,(r.flatMap fun y=>[g,y]).length=2*r.length:=fun r=>by
     induction r with
     | nil=>rfl
     | cons y r ih=>
       rw[aCz,aBz,ih];show 2+2*r.length=2*(r.length+1);omega
   rw[aBP,aBP,this,aBP];omega
variable{f g:Str}
theorem ade{P:Str->Prop}(hf:P f)(hg:P g)(h:∀x∈l,P x):∀x∈Gy f g l,P x:=by
 cases l with
 | nil=>intro x hx;cases hx
 | cons y r=>
   intro x hx;rcases aBq.mp hx with rfl|hx
   . exact hf
   rcases aBq.mp hx with rfl|hx
   . exact h _ aBr
   . obtain⟨z,hz,hx⟩:=List.mem_flatMap.mp hx;rcases aBq.mp hx with rfl|hx
     . exact hg
     . cases aBB.mp hx;exact h _ (aBt _ hz)
def aiX{B:Nat}{z:Str}(hz:z.length=1)(h:∀x∈l,x.length<=B)(hb:l.length*(B+1)<=16000000):JoinOk z l=true:=by
 unfold JoinOk;rw[aEe,aCB,hz,Nat.mul_one];have:∀(l:AT),(∀x∈l,x.length<=B)->(l.map (·.length)).sum+l.length<=l.length*(B+1):=fun l=>by
   induction l with
   | nil=>intro _;exact aB0 _
   | cons x l ih=>
     intro h;have a:=h x aBr;have c:=ih fun y hy=>h y (aBt _ hy);rw[aBK,List.sum_cons,aBP,Nat.succ_mul];omega
 have:=this l h;refine aBS ?_;rw[aB8];omega
structure CH where
 bs:Cf
 ns:AT
 ks:AT
 es:BB
 ss:BB
 is:Ch
 os:Ch
 ws:EM
def CH.d(c:CH):D:=j7 (c.bs.map tH) (c.ns.map .str) (nE c.ks c.es c.ss) (c.is.map .tup) (c.os.map .tup) (c.ws.map WY.d)
def CH.p(c:CH):D:=Dl (c.bs.map tH) c.ns c.ks c.es c.ss (c.is.map .tup) (c.os.map .tup) (c.ws.map WY.d)
def CH.bn(c:CH):AT:=c.bs.map (·.1)
structure nF(c:CH):Prop where
 nl:c.ns.length=c.es.length
 kl:c.ks.length=c.es.length
 sl:c.ss.length=c.es.length
 il:c.is.length=c.es.length
 e0:0<c.es.length
 e1:c.es.length<=41
 tr:qe c.es
 nk:∀x∈c.ns,x.length<=21
 b3:c.bs.length<=3
 bk:∀p∈c.bs,p.1.length<=21/\p.2.natAbs<10 ^ 30
 kk:∀x∈c.ks,x.length<=4
 one:∀m,m<c.es.length->(c.ks.getD m Str.empty="one"->0<=c.ss.getD m 0/\c.ss.getD m 0<c.es.length)/\(c.ks.getD m Str.empty≠"one"->c.ss.getD m 0=-1)
 ow:SQ c.bs.length c.es.length 40 ⟨c.is,c.os,c.ws⟩
variable{c:CH}
theorem nF.bn(h:nF c):∀x∈c.bn,x.length<=21:=fun x hx=>by
 obtain⟨p,hp,rfl⟩:=aBI.mp hx;exact(h.bk p hp).1
def apg{k:Int}(h0:0<=k)(h1:k<c.bs.length):Cu (c.bs.map tH) k=some (.tup [.str (c.bn.getD k.toNat Str.empty),.int (c.bs.getD k.toNat (Str.empty,0)).2]):=by
 rw[mE (f:=tH) (Str.empty,0) h0 h1];have hk:k.toNat<c.bs.length:=by omega
 unfold CH.bn;rw[aBs,aBs,aBR,aBC hk];rfl
def YJ(ns:AT)(w:WY):AT:=if w.tg=-1 then [] else ["to",ns.getD w.tg.toNat Str.empty]
def Ql(w:WY):AT:=if w.md="new" then [] else [w.md]
def wyL(bn ns:AT)(w:WY):AT:=w.sg::(Gy "if" "and" (w.qs.map (vX bn ns))++Gy "do" "then" (w.ds.map (f7 bn))++(YJ ns w++Ql w))
def Qm(bn ns:AT)(w:WY):Str:=jn "on" (wyL bn ns w)
def Zw(c:CH)(m:Nat):Str:=jn (c.ks.getD m Str.empty) (c.ns.getD m Str.empty::if c.ks.getD m Str.empty="one" then [c.ns.getD (c.ss.getD m 0).toNat Str.empty] else [])
def Gz(c:CH)(m:Nat):Str:=Txt.mul " " ((eY c.es m).length:Nat)
def MP(c:CH)(m:Nat):AT:=(c.is.getD m []).map (fun d=>"in " ++ f7 c.bn d)++(c.os.getD m []).map fun d=>"out " ++ f7 c.bn d
def lI(c:CH)(l:EM)(m:Nat):AT:=(l.filter fun w=>decide (w.src=(m:Int))).map (Qm c.bn c.ns)
def Dn(c:CH)(m:Nat):AT:=MP c m++lI c c.ws m
def Jk(c:CH)(m:Nat):AT:=(Gz c m++Zw c m)::(Dn c m).map fun t=>Gz c m++" " ++ t
def Zx(p:Str×Int):Str:="box " ++ p.1++" " ++ sI p.2
def xZ(c:CH)(n:Nat):AT:=c.bs.map Zx++(List.range n).flatMap (Jk c)
def GY(c:CH)(n:Nat):xZ c (n+1)=xZ c n++Jk c n:=by
 unfold xZ;rw[aDb,aDd,aBA];simp
def aiY(h:nF c)(hw:w6 c.bs.length c.es.length c.is.length 40 w):(∀x∈wyL c.bn c.ns w,x.length<=110)/\(wyL c.bn c.ns w).length<=84:=by
 have hb:=h.bn;have hn:=h.nk;constructor
 . intro x hx;rcases aBq.mp hx with rfl|hx
   . exact aCa hw.fin.s3 Q.c
   rcases aBy.mp hx with hx|hx
   . rcases aBy.mp hx with hx|hx
     . exact ade (P:=fun x=>x.length<=110) Q.b Q.b (fun y hy=>by
         obtain⟨d,hd,rfl⟩:=aBI.mp hy;exact anr hb hn (hw.g1 d hd).pr) x hx
     . exact ade (P:=fun x=>x.length<=110) Q.b Q.b (fun y hy=>by
         obtain⟨d,hd,rfl⟩:=aBI.mp hy;exact Ad hb (hw.g2 d hd).pr) x hx
   rcases aBy.mp hx with hx|hx
   . unfold YJ at hx;split at hx
     . cases hx
     . rcases aBq.mp hx with rfl|hx
       . decide +kernel
       . cases aBB.mp hx;exact aCa (qL hn _) Q.c
   . unfold Ql at hx;split at hx
     . cases hx
     . cases aBB.mp hx;have:∀x∈(["new","near","far"]:AT),x.length<=110:=Q.f;rcases hw.fin.tg with⟨_,e⟩|⟨_,e⟩
       . rw[e];decide +kernel
       . exact this _ e
 . have a:=hw.l3;unfold wyL;rw[aBP,aBz,aBz,aBz,uQ,uQ,aBp,aBp];have e1:(YJ c.ns w).length<=2:=by unfold YJ;split<;>exact aBu rfl
   have e2:(Ql w).length<=1:=by unfold Ql;split<;>exact aBu rfl
   omega
def adf(h:nF c)(hw:w6 c.bs.length c.es.length c.is.length 40 w):(Qm c.bn c.ns w).length<=9326:=by
 obtain⟨a,d⟩:=aiY h hw;have:=aiV _ "on" a;have e:("on":Str).length=2:=rfl;unfold Qm;have:(wyL c.bn c.ns w).length*(110+1)<=84*111:=aDM _ d;omega
def aiZ(h:nF c)(m:Nat):(Zw c m).length<=100:=by
 have hk:(c.ks.getD m Str.empty).length<=4:=by
   rw[aBs];cases e:c.ks[m]? with
   | none=>exact aB0 _
   | some x=>exact h.kk x (aBQ e)
 have e1:=qL h.nk m;have e2:=qL h.nk (c.ss.getD m 0).toNat;have e3:(" ":Str).length=1:=rfl;unfold Zw;split
 . show(c.ks.getD m Str.empty++" " ++ c.ns.getD m Str.empty++" " ++ c.ns.getD (c.ss.getD m 0).toNat Str.empty).length<=100;rw[str_len,str_len,str_len,str_len];omega
 . show(c.ks.getD m Str.empty++" " ++ c.ns.getD m Str.empty).length<=100;rw[str_len,str_len];omega
def ans(n:Nat):(Txt.mul " " (n:Int)).length<=n+1:=by
 unfold Txt.mul;split
 . exact aB0 _
 split
 . show(1:Nat)<=n+1;omega
 . have:∀(k:Nat) (a:Array Nat),((List.replicate k (" ":Str).cps).foldl (· ++ ·) a).size=a.size+k:=fun k=>by
     induction k with
     | zero=>intro a;rfl
     | succ k ih=>
       intro a;rw[aDR,aCf,ih,Array.size_append];show a.size+1+k=_;omega
   show((List.replicate (n:Int).toNat (" ":Str).cps).foldl (· ++ ·) #[]).size<=n+1;rw[this,aCl];show 0+n<=n+1;omega
def arX(h:n<=1000):MulOk " " (n:Int):=by
 have e:(" ":Str).length=1:=rfl;refine⟨by simp;omega,fun h1 _=>?_,fun _ _=>?_⟩
 . rw[e];have:(1:Int)<=(2 ^ 63-1) / (n:Int):=Int.le_ediv_of_mul_le Q.a Q.a;omega
 . rw[e,aCl,Nat.one_mul];refine aBS ?_;rw[aB8];omega
def adg(h:nF c)(m:Nat):(Gz c m).length<=50:=by
 have a:=ans (eY c.es m).length;have d:=BO (c.es.length+1) c.es (c.es.getD (m:Int).toNat 0);have e:=h.e1;have:(eY c.es m).length<=c.es.length+1:=d;unfold Gz;omega
theorem ai0(h:nF c):∀x∈MP c m,x.length<=200:=fun x hx=>by
 have gi:∀{l:Ch} {P:D->Prop},(∀x∈l,qK P 40 x)->∀d∈l.getD m [],P d:=fun {l P} hl d hd=>by
   rw[aBs]at hd;cases e:l[m]? with
   | none=>rw[e]at hd;cases hd
   | some y=>rw[e]at hd;exact((hl y (aBQ e)).g1 d hd).pr
 rcases aBy.mp hx with hx|hx
 . obtain⟨d,hd,rfl⟩:=aBI.mp hx;have:=Ad h.bn (gi h.ow.ii d hd);rw[str_len];show 3+_<=200;omega
 . obtain⟨d,hd,rfl⟩:=aBI.mp hx;have:=Ad h.bn (gi h.ow.oo d hd);rw[str_len];show 4+_<=200;omega
def ant(h:nF c):∀x∈c.bs.map Zx,x.length<=100:=fun x hx=>by
 obtain⟨p,hp,rfl⟩:=aBI.mp hx;have a:=h.bk p hp;have d:=tM a.2;have e3:(" ":Str).length=1:=rfl;unfold Zx;rw[str_len,str_len,str_len];show 4+_+_+_<=100;omega
def SY(h:nF c)(m:Nat):(MP c m).length<=80:=by
 have gi:∀{l:Ch} {P:D->Prop},(∀x∈l,qK P 40 x)->(l.getD m []).length<=40:=fun {l P} hl=>by
   rw[aBs];cases e:l[m]? with
   | none=>exact aB0 _
   | some y=>exact(hl y (aBQ e)).l1
 have a:=gi h.ow.ii;have d:=gi h.ow.oo;unfold MP;rw[aBz,aBp,aBp];dsimp only at a d;omega
def EX(h:nF c)(l:EM)(hl:l.length<=40)(m:Nat):(lI c l m).length<=40:=by
 unfold lI;rw[aBp];exact aCa (List.length_filter_le _ _) hl
def tot(l:AT):Nat:=(l.map (·.length)).sum+l.length
def S6(l r:AT):tot (l++r)=tot l+tot r:=by
 unfold tot;rw[aBF,List.sum_append,aBz];omega
theorem S7{B:Nat}:∀(l:AT),(∀x∈l,x.length<=B)->tot l<=l.length*(B+1)
 | [],_=>aB0 _
 | x::l,h=>by
   have a:=h x aBr;have d:=S7 l fun y hy=>h y (aBt _ hy);unfold tot at d ⊢;rw[aBK,List.sum_cons,aBP,Nat.succ_mul];omega
def ai1(h:nF c)(m:Nat):tot (Jk c m)<=400000:=by
 have b:=adg h m;have md:=aiZ h m;have e3:(" ":Str).length=1:=rfl;have hio:∀x∈(MP c m).map (fun t=>Gz c m++" " ++ t),x.length<=251:=fun x hx=>by
   obtain⟨t,ht,rfl⟩:=aBI.mp hx;have:=ai0 h t ht;rw[str_len,str_len];omega
 have hwy:∀x∈(lI c c.ws m).map (fun t=>Gz c m++" " ++ t),x.length<=9377:=fun x hx=>by
   obtain⟨t,ht,rfl⟩:=aBI.mp hx;obtain⟨w,hw,rfl⟩:=aBI.mp ht;have:=adf h (h.ow.ww w (aCF.mp hw).1);rw[str_len,str_len];omega
 have t1:=S7 _ hio;have t2:=S7 _ hwy;have l1:=SY h m;have l2:=EX h c.ws h.ow.wl m;rw[aBp]at t1 t2;have t3:tot [Gz c m++Zw c m]<=151:=by
   show(Gz c m++Zw c m).length+0+1<=151;rw[str_len];omega
 have:Jk c m=[Gz c m++Zw c m]++((MP c m).map (fun t=>Gz c m++" " ++ t)++(lI c c.ws m).map (fun t=>Gz c m++" " ++ t)):=by
   rw[Jk,Dn,aBF];rfl
 rw[this,S6,S6];have m1:(MP c m).length*(251+1)<=80*252:=aDM _ l1;have m2:(lI c c.ws m).length*(9377+1)<=40*9378:=aDM _ l2;omega
theorem adh(h:nF c):∀n,tot (xZ c n)<=400+n*400000
 | 0=>by
   have a:=S7 _ (ant h);have d:=h.b3;rw[aBp]at a;unfold xZ;rw[List.range_zero,aDg,aBW];omega
 | n+1=>by
   have a:=adh h n;have d:=ai1 h n;rw[GY,S6];omega
def all_join(h:nF c):JoinOk "\n" (xZ c c.es.length)=true:=by
 have a:=adh h c.es.length;have d:=h.e1;unfold JoinOk;rw[aEe,aCB];have e:("\n":Str).length=1:=rfl;rw[e,Nat.mul_one];refine aBS ?_;rw[aB8];unfold tot at a;omega
def cV(a c:Str):(a++c).cps.toList=a.cps.toList++c.cps.toList:=PySem.W.KT.app_list a c
def tN{a c:Str}(h:a.cps.toList=c.cps.toList):a=c:=Str.ext' (Array.toList_inj.mp h)
theorem S8{c:Nat}:∀{p q r s:CU},c∉p->c∉q->p++c::r=q++c::s->p=q/\r=s
 | [],[],_,_,_,_,h=>⟨rfl,(aBT h).2⟩
 | [],y::q,_,_,_,hq,h=>absurd (aBT h).1 (fun e=>hq (e▸aBr))
 | x::p,[],_,_,hp,_,h=>absurd (aBT h).1 (fun e=>hp (e▸aBr))
 | x::p,y::q,r,s,hp,hq,h=>by
   obtain⟨e1,e2⟩:=aBT h;obtain⟨e3,e4⟩:=S8 (fun z=>hp (aBt _ z)) (fun z=>hq (aBt _ z)) e2;exact⟨by rw[e1,e3],e4⟩
def tO(c:Nat)(a e:Str)(l:AT):(Str.join ⟨#[c]⟩ (a::e::l)).cps.toList=a.cps.toList++c::(Str.join ⟨#[c]⟩ (e::l)).cps.toList:=by
 show((a++(⟨#[c]⟩:Str))++Str.join ⟨#[c]⟩ (e::l)).cps.toList=_;rw[cV,cV,aBA];rfl
theorem MQ{c:Nat}:∀{l m:AT},l≠[]->m≠[]->(∀p∈l,c∉p.cps.toList)->(∀p∈m,c∉p.cps.toList)->(Str.join ⟨#[c]⟩ l).cps.toList=(Str.join ⟨#[c]⟩ m).cps.toList->l=m
 | [],_,h,_,_,_,_=>absurd rfl h
 | _::_,[],_,h,_,_,_=>absurd rfl h
 | [a],[d],_,_,_,_,e=>by rw[show a=d from tN e]
 | [a],d::d2::m,_,_,hl,_,e=>absurd (show c∈a.cps.toList by
     rw[show a.cps.toList=_ from e,tO];exact aBw _ aBr) (hl a aBr)
 | a::a2::l,[d],_,_,_,hm,e=>absurd (show c∈d.cps.toList by
     rw[show d.cps.toList=_ from e.symm,tO];exact aBw _ aBr) (hm d aBr)
 | a::a2::l,d::d2::m,_,_,hl,hm,e=>by
   rw[tO,tO]at e;obtain⟨e1,e2⟩:=S8 (hl a aBr) (hm d aBr) e;have:=MQ (l:=a2::l) (m:=d2::m) (aCy _ _) (aCy _ _) (fun p hp=>hl p (aBt _ hp)) (fun p hp=>hm p (aBt _ hp)) e2;rw[this,show a=d from tN e1]
def ai2{x:Str}{c:Nat}(h:c∈x.cps.toList)(lim:Nat)(hl:1<=lim):∃i r,Builtin.Str.occurrences x ⟨#[c]⟩ 0 x.length lim=i::r/\x.cps.toList[i]? = some c/\∀k,k<i->x.cps.toList[k]? ≠ some c:=by
 rcases StrLaws.occ_head x ⟨#[c]⟩ lim hl with⟨_,h2⟩|⟨i,r,h1,h2,h3⟩
 . obtain⟨j,hj⟩:=List.getElem?_of_mem h;exact absurd ((aEf x c j).mpr hj) (h2 j)
 . exact⟨i,r,h1,(aEf x c i).mp h2,fun k hk e=>h3 k hk ((aEf x c k).mpr e)⟩
def arY{x:Str}{c:Nat}(h:c∉x.cps.toList)(lim:Nat)(hl:1<=lim):Builtin.Str.occurrences x ⟨#[c]⟩ 0 x.length lim=[]:=by
 rcases StrLaws.occ_head x ⟨#[c]⟩ lim hl with⟨h1,_⟩|⟨i,r,h1,h2,h3⟩
 . exact h1
 . exact absurd (aBQ ((aEf x c i).mp h2)) h
def Zy{c:Nat}(h2:2<=l.length)(hf:∀p∈l,c∉p.cps.toList):BJ (Str.join ⟨#[c]⟩ l) ⟨#[c]⟩=true/\splitM (Str.join ⟨#[c]⟩ l) ⟨#[c]⟩=l:=by
 have hc:c∈(Str.join ⟨#[c]⟩ l).cps.toList:=by
   match l,h2 with
   | a::d::l,_=>
     rw[tO];exact aBw _ aBr
 have hj:=StrLaws.join_split (Str.join ⟨#[c]⟩ l) ⟨#[c]⟩;have hs:=StrLaws.split_free (Str.join ⟨#[c]⟩ l) c;have hlen:(⟨#[c]⟩:Str).length=1:=rfl;generalize hx:Str.join ⟨#[c]⟩ l=x at hc hj hs ⊢;obtain⟨i,r,ho,_,_⟩:=ai2 hc (x.length+1) (aDU _ _);have k1:¬ x.length<(⟨#[c]⟩:Str).length:=fun z=>by
   have:x.cps.toList=[]:=aCI (by rw[aCT];show x.length=0;omega);rw[this]at hc;cases hc
 have k2:¬ Builtin.Str.strKind x<Builtin.Str.strKind ⟨#[c]⟩:=fun z=>StrLaws.kind_free x c z hc;have k3:(decide (x.length<(⟨#[c]⟩:Str).length) || decide (Builtin.Str.strKind x<Builtin.Str.strKind ⟨#[c]⟩))=false:=by
   rw[aBS k1,aBS k2];rfl
 have e:Txt.split x ⟨#[c]⟩=splitM x ⟨#[c]⟩:=by
   unfold Txt.split splitM;rw[aBx (by rw[k3];exact aBM),aBx (by rw[ho];exact aBM)]
 refine⟨?_,?_⟩
 . unfold BJ;rw[k3,ho];rfl
 . rw[e]at hj hs;refine MQ ?_ ?_ hs hf ?_
   . intro z;have:=length_partsBetween x (Builtin.Str.occurrences x ⟨#[c]⟩ 0 x.length (x.length+1)) (⟨#[c]⟩:Str).length;unfold splitM at z;rw[z]at this;cases this
   . intro z;rw[z]at h2;exact absurd h2 Q.c
   . rw[hj,hx]
def anu{x:Str}{c:Nat}(h:c∉x.cps.toList):part3 x ⟨#[c]⟩=[x,"",""]:=by
 unfold part3;rw[arY h 1 (aBD _)];rfl
def ai3{a r:Str}{c:Nat}(h:c∉a.cps.toList):part3 (a++⟨#[c]⟩++r) ⟨#[c]⟩=[a,⟨#[c]⟩,r]:=by
 have e:(a++⟨#[c]⟩++r).cps.toList=a.cps.toList++c::r.cps.toList:=by
   rw[cV,cV,aBA];rfl
 have hc:c∈(a++⟨#[c]⟩++r).cps.toList:=by
   rw[e];exact aBw _ aBr
 obtain⟨i,s,ho,h1,h2⟩:=ai2 hc 1 (aBD _);have hi:i=a.cps.toList.length:=by
   rcases Nat.lt_trichotomy i a.cps.toList.length with z|z|z
   . rw[e,aDq z]at h1;exact absurd (aBQ h1) h
   . exact z
   . refine absurd ?_ (h2 _ z);rw[e,aCA (aBD _),aDl];rfl
 unfold part3;rw[ho];subst hi;have x1:Builtin.Str.strSub (a++⟨#[c]⟩++r) 0 a.cps.toList.length=a:=tN (by
   rw[StrLaws.strSub_toList,e,List.drop_zero,Nat.sub_zero,List.take_left])
 have x2:Builtin.Str.strSub (a++⟨#[c]⟩++r) (a.cps.toList.length+(⟨#[c]⟩:Str).length) (a++⟨#[c]⟩++r).length=r:=tN (by
   have hl:(a++⟨#[c]⟩++r).length=a.cps.toList.length+1+r.cps.toList.length:=by
     rw[str_len,str_len];show a.length+1+r.length=_;rw[aCT,aCT];rfl
   have hd:(a.cps.toList++c::r.cps.toList).drop (a.cps.toList.length+1)=r.cps.toList:=by
     rw[List.drop_append];simp
   rw[StrLaws.strSub_toList,e,hl];show List.take (a.cps.toList.length+1+r.cps.toList.length-(a.cps.toList.length+1)) (List.drop (a.cps.toList.length+1) _)=_;rw[hd,aD7,aCv])
 show [Builtin.Str.strSub (a++⟨#[c]⟩++r) 0 a.cps.toList.length,⟨#[c]⟩,Builtin.Str.strSub (a++⟨#[c]⟩++r) (a.cps.toList.length+(⟨#[c]⟩:Str).length) (a++⟨#[c]⟩++r).length]=_;rw[x1,x2]
def VX{x:Str}(h:x.cps.toList.takeWhile (fun c=>(" ":Str).cps.contains c)=x.cps.toList.take n)(hn:n<=x.cps.toList.length):(Txt.lstripChars x " ").cps.toList=x.cps.toList.drop n:=by
 have e:(x.cps.toList.takeWhile (fun c=>(" ":Str).cps.contains c)).length=n:=by rw[h,aCe];omega
 unfold Txt.lstripChars;rw[PySem.W.stripBy_eq];show(Builtin.Str.strSub x (x.cps.toList.takeWhile (fun c=>(" ":Str).cps.contains c)).length x.length).cps.toList=_;rw[e,StrLaws.strSub_toList];exact List.take_of_length_le (by rw[List.length_drop,aCT];exact aBD _)
def zb(x:Str):Bool:=decide (1<=x.length)&&(decide (x.length<=30)&&(!decide (x.cps.toList.getD 0 0=48)&&x.cps.toList.all qf))
def vY(x:Str):Str:=if x.cps.toList.head? = some 45 then⟨(x.cps.toList.drop 1).toArray⟩ else x
def Q5(x:Str):Bool:=decide (x="0") || zb (vY x)
def adi(c:Nat):uL ⟨#[c]⟩ "0123456789" = qf c:=by
 unfold uL;rw[aDx];have e:("0123456789":Str).cps.toList=(List.range 10).map (· + 48):=Q.f;rw[e];apply aDo.mpr;simp only[qf,aCG,aB6,aBI,aB5];constructor
 . rintro⟨a,h,rfl⟩;omega
 . intro h;exact⟨c-48,We,We⟩
def MR(m:Nat):(sI (m:Int)).cps.toList=(Nat.toDigits 10 m).map Char.toNat:=PySem.W.KIN.signs_num m
def Dp(m:Nat):PySem.NumText.AllDigits (sI (m:Int)).cps.toList:=fun c hc=>by
 rw[MR]at hc;obtain⟨ch,hch,e⟩:=aBI.mp hc;have r:=PyProof.Rows.digit_range (Nat.isDigit_of_mem_toDigits Q.c Q.c hch);rw[← e];exact r
def adj(m:Nat):(sI (m:Int)).cps.toList≠[]:=by
 rw[MR];intro e;have h:=PySem.toDigits_len_ge 10 m;rw[aDt.mp e]at h;exact absurd h Q.c
def ai4:∀m:Nat,0<m->(sI (m:Int)).cps.toList.getD 0 0≠48:=by
 intro m;rw[MR]
 induction m using Nat.strongRecOn with
 | ind m ih=>
   intro h0;by_cases hm:m<10
   . rw[Nat.toDigits_of_lt_base hm];have:∀k:Nat,k<10->0<k->([Nat.digitChar k].map Char.toNat).getD 0 0≠48:=by decide
     exact this m hm h0
   . have t:Nat.toDigits 10 (m / 10)++Nat.toDigits 10 (m % 10)=Nat.toDigits 10 (10*(m / 10)+m % 10):=Nat.toDigits_append_toDigits Q.c Q.a Q.a;rw[Nat.div_add_mod]at t;have:=ih (m / 10) Q.a Q.a;have hl:1<=(Nat.toDigits 10 (m / 10)).length:=PySem.toDigits_len_ge 10 (m / 10);rw[← t,aBF];cases e:(Nat.toDigits 10 (m / 10)).map Char.toNat with
     | nil=>
       rw[aDt.mp e]at hl;exact absurd hl Q.c
     | cons c l=>
       rw[e]at this;exact this
def ai5(h:m<10 ^ 30):(sI (m:Int)).length<=30:=by
 unfold sI;exact PyProof.Rows.toString_length_le Q.a Q.c (by
   have:((m:Nat):Int)<((10 ^ 30:Nat):Int):=Int.ofNat_lt.mpr h;exact this)
def j9(x:Str):x.cps.toList.length=x.length:=aCT
def Zz(h0:0<m)(h:m<10 ^ 30):zb (sI (m:Int))=true:=by
 unfold zb;have h1:1<=(sI (m:Int)).length:=by
   rw[← j9];exact aCJ.mpr (adj m)
 rw[aBH h1,aBH (ai5 h),aBS (ai4 m h0),aCO.mpr fun c hc=>?_]
 . rfl
 . have:=Dp m c hc;unfold qf;rw[aBH this.1,aBH this.2];rfl
theorem anv(m:Nat):(sI (m:Int)).cps.toList.head? ≠ some 45:=by
 have hd:=Dp m;cases e:(sI (m:Int)).cps.toList with
 | nil=>exact fun z=>nomatch z
 | cons c l=>
   intro z;have:c=45:=aBX z;have:=hd c (by rw[e];exact aBr);omega
def Lz(h:i<0):(sI i).cps.toList=45::(sI (i.natAbs:Int)).cps.toList:=by
 rw[aiS h,cV];rfl
def ai6(h:i.natAbs<10 ^ 30):Q5 (sI i)=true:=by
 unfold Q5 vY;by_cases h0:i<0
 . rw[Lz h0,aBE (show(45::(sI (i.natAbs:Int)).cps.toList).head? = some 45 from rfl)];have e:(⟨((45::(sI (i.natAbs:Int)).cps.toList).drop 1).toArray⟩:Str)=sI (i.natAbs:Int):=tN rfl;rw[e,Zz Q.a h,Bool.or_true]
 . obtain⟨m,rfl⟩:=aDy (show 0<=i by omega);have h:m<10 ^ 30:=h;rw[aBx (anv m)];by_cases hm:m=0
   . subst hm;rw[aBH (show sI ((0:Nat):Int)="0" by decide +kernel)];rfl
   . rw[Zz Q.a h,Bool.or_true]
def MS(h:i.natAbs<10 ^ 30):intText? (sI i)=some i:=by
 have hl:=tM h;by_cases h0:i<0
 . have:=PySem.intText_neg (Lz h0) (Dp _) (adj _) Q.a;rw[this,MR,PySem.W.KIN.val_back];congr 1;omega
 . obtain⟨m,rfl⟩:=aDy (show 0<=i by omega);have:=PySem.intText_digits (Dp m) (adj m) Q.a;rw[this,MR,PySem.W.KIN.val_back]
def EY(i:Int):∀c∈(sI i).cps.toList,c=45\/(48<=c/\c<=57):=by
 intro c hc;by_cases h0:i<0
 . rw[Lz h0]at hc;rcases aBq.mp hc with h|h
   . exact .inl h
   . exact .inr (Dp _ c h)
 . obtain⟨m,rfl⟩:=aDy (show 0<=i by omega);exact .inr (Dp m c hc)
def kg{x:Str}(h:dN x=true):1<=x.length/\x.length<=12/\(97<=x.cps.toList.getD 0 0/\x.cps.toList.getD 0 0<=122)/\∀c∈x.cps.toList,(97<=c/\c<=122)\/(48<=c/\c<=57):=by
 unfold dN isLt qf at h;simp only[aB6,aCG,aCO,aDp]at h;exact⟨h.1,h.2.1,h.2.2.2.1,h.2.2.2.2⟩
theorem anw{x:Str}(h:dN x=true):∃c l,x.cps.toList=c::l/\97<=c/\c<=122:=by
 obtain⟨h1,_,h3,_⟩:=kg h;cases e:x.cps.toList with
 | nil=>
   rw[← j9,e]at h1;exact absurd h1 Q.c
 | cons c l=>
   rw[e]at h3;exact⟨c,l,rfl,h3⟩
def MT{x:Str}{c:Nat}{l:CU}(e:x.cps.toList=c::l)(hc:97<=c):Q5 x=false:=by
 unfold Q5 vY;have h1:¬ x="0":=fun z=>by
   subst z;have:("0":Str).cps.toList=[48]:=Q.f;rw[this]at e;have:=(aBT e).1;omega
 rw[aBS h1,e,aBx (by intro z;have:c=45:=aBX z;omega)];unfold zb;rw[e,aDz];have:qf c=false:=by
   unfold qf;rw[aBS (show ¬ c<=57 by omega),aCx]
 rw[this];simp
def ixC(c:Nat):Nat:=if 97<=c then c-97 else c-22
def anx:CU->Nat
 | []=>0
 | c::l=>ixC c+36*anx l
def ai7:∀k:Nat,k<36->(isLt (GR.getD k 0) || qf (GR.getD k 0))=true/\ixC (GR.getD k 0)=k/\(k<26->isLt (GR.getD k 0)=true):=by
 decide +kernel
theorem adk:∀(n:Nat) (r:Int) (x:Str),0<=r->r<36 ^ n->∃t,(tlF n r x).cps.toList=x.cps.toList++t/\(anx t:Int)=r/\(∀c∈t,(isLt c || qf c)=true)/\∀k:Nat,r<36 ^ k->t.length<=k
 | 0,r,x,h0,h1=>⟨[],by rw[tlF,aBW],by
     have:r<1:=h1;show((0:Nat):Int)=r;omega,fun c hc=>by(cases hc),fun k _=>aB0 _⟩
 | n+1,r,x,h0,h1=>by
   rw[tlF];split
   . rename_i hp;have b1:=aB2 r (show(36:Int)≠0 by decide);have b2:=aBZ r (show(0:Int)<36 by decide);obtain⟨t,e1,e2,e3,e4⟩:=adk n (r / 36) (x++EH (r % 36)) (Int.ediv_nonneg h0 Q.c) (Int.ediv_lt_of_lt_mul Q.c (by rw[← Int.pow_succ];exact h1));obtain⟨c1,c2,_⟩:=ai7 (r % 36).toNat Q.a;refine⟨GR.getD (r % 36).toNat 0::t,?_,?_,fun c hc=>?_,fun k hk=>?_⟩
     . rw[e1,cV,aBA];rfl
     . show((ixC (GR.getD (r % 36).toNat 0)+36*anx t:Nat):Int)=r;rw[c2];omega
     . rcases aBq.mp hc with rfl|hc
       . exact c1
       . exact e3 c hc
     . cases k with
       | zero=>
         have:r<1:=hk;omega
       | succ k=>
         have:=e4 k (Int.ediv_lt_of_lt_mul Q.c (by rw[← Int.pow_succ];exact hk));rw[aBP];omega
   . exact⟨[],by rw[aBW],by
       show((0:Nat):Int)=r;omega,fun c hc=>by(cases hc),fun k _=>aB0 _⟩
def p20:(36:Int) ^ 20=13367494538843734067838845976576:=Q.f
def p11:(36:Int) ^ 11=131621703842267136:=Q.f
def MV{m:Int}(h0:0<=m)(h1:m<26*131621703842267136):∃c t,(xY m).cps.toList=c::t/\isLt c=true/\((ixC c+26*anx t:Nat):Int)=m/\(∀c∈t,(isLt c || qf c)=true)/\t.length<=11:=by
 have b1:=aB2 m (show(26:Int)≠0 by decide);have b2:=aBZ m (show(0:Int)<26 by decide);obtain⟨t,e1,e2,e3,e4⟩:=adk 20 (m / 26) (EH (m % 26)) Q.a (by rw[p20];omega);obtain⟨_,c2,c3⟩:=ai7 (m % 26).toNat Q.a;refine⟨GR.getD (m % 26).toNat 0,t,e1,c3 Q.a,?_,e3,e4 11 (by rw[p11];omega)⟩;rw[c2];omega
def ai8{m n:Int}(h0:0<=m)(h1:m<26*131621703842267136)(k0:0<=n)(k1:n<26*131621703842267136)(h:xY m=xY n):m=n:=by
 obtain⟨c,t,e1,_,e2,_⟩:=MV h0 h1;obtain⟨d,u,g1,_,g2,_⟩:=MV k0 k1;rw[h,g1]at e1;obtain⟨rfl,rfl⟩:=aBT e1;rw[← e2,← g2]
theorem Q6{α β:Type}{f:α->β}:∀{l:List α},(∀x∈l,∀y∈l,f x=f y->x=y)->l.Nodup->(l.map f).Nodup
 | [],_,_=>.nil
 | a::l,h,n=>by
   obtain⟨n1,n2⟩:=aCu.mp n;refine aCu.mpr ⟨fun hm=>?_,Q6 (fun x hx y hy=>h x (aBt _ hx) y (aBt _ hy)) n2⟩;obtain⟨y,hy,e⟩:=aBI.mp hm;exact n1 (h y (aBt _ hy) a aBr e▸hy)
def anz{m:Int}(h0:0<=m)(h1:m<26*131621703842267136)(h:xY m∉w19):dN (xY m)=true:=by
 obtain⟨c,t,e1,e2,_,e3,e4⟩:=MV h0 h1;have hl:(xY m).length=t.length+1:=by rw[← j9,e1];rfl
 unfold dN;rw[aBH (show 1<=(xY m).length by omega),aBH (show(xY m).length<=12 by omega),aBS (show xY m∉Lv from h),e1];show(true&&(true&&(!false&&(isLt c&&(c::t).all fun c=>isLt c || qf c))))=true;rw[e2,aCO.mpr fun d hd=>?_]
 . rfl
 . rcases aBq.mp hd with rfl|hd
   . rw[e2];rfl
   . exact e3 d hd
def VY{m:Int}(h0:0<=m)(h1:m+us.length+20<26*131621703842267136):dN (oV m us)=true:=by
 unfold oV;split
 . rename_i j e;obtain⟨h2,h3,_⟩:=aD3.mp e;have hj:=aB5.mp h3;unfold okB at h2;simp only[aB6,aCB,aC1]at h2;exact anz Q.a Q.a h2.2
 . rename_i e;exfalso;have hno:=aD4.mp e;have hs:(List.range (us.length+20)).map (fun j:Nat=>xY (m+j)) ⊆ us++w19:=fun x hx=>by
     obtain⟨j,hj,rfl⟩:=aBI.mp hx;have:=hno j hj;unfold okB at this;simp only[aB6,aCB,aC1,not_and,Classical.not_not]at this;by_cases z:xY (m+j)∈us
     . exact aBN _ z
     . exact aBw _ (this z)
   have hn:((List.range (us.length+20)).map (fun j:Nat=>xY (m+j))).Nodup:=Q6 (fun x hx y hy e=>by
     have:=aB5.mp hx;have:=aB5.mp hy;have:=ai8 (m:=m+x) (n:=m+y) Q.a Q.a Q.a Q.a e;omega) List.nodup_range
   have:=hn.length_le_of_subset hs;rw[aBp,aBO,aBz]at this;have e:w19.length=19:=rfl;omega
structure LT where
 n0:Str
 md:Str
 n2:Str
 f:Int
 a:Int
 c:Int
structure S9(p:LT):Prop where
 n0:dN p.n0=true
 md:dN p.md=true
 n2:dN p.n2=true
 f:p.f.natAbs<10 ^ 30
 a:p.a=-1\/p.a=0
 c:p.c.natAbs<10 ^ 30
def trL(n:Str)(a c:Int):Str:=if a=-1 then sI c else if c=0 then n else n++EV c++sI (c.natAbs:Int)
def LT.tt(p:LT):Str:=trL p.n0 p.a p.c
def LT.tn(p:LT):Str:=if p.a=-1 then "" else p.n0
def LT.ws(p:LT):Nat->AT
 | 0=>["box",p.n0,sI p.f]
 | 1=>["leaf",p.md]
 | 2=>["in","put",p.n0,p.tt]
 | _=>["out","call",p.n2]
def x6(k:Int):EV k=⟨#[if 0<k then 43 else 45]⟩:=by
 unfold EV;split<;>decide +kernel
variable{p:LT}
def VZ(h:S9 p):∀c∈p.tt.cps.toList,33<=c:=by
 intro c hc;have hn:=(kg h.n0).2.2.2;have hs:=EY;unfold LT.tt trL at hc;split at hc
 . have:=hs p.c c hc;omega
 split at hc
 . have:=hn c hc;omega
 . rw[x6,cV,cV]at hc;rcases aBy.mp hc with hc|hc
   . rcases aBy.mp hc with hc|hc
     . have:=hn c hc;omega
     . have:c=(if 0<p.c then 43 else 45):=aBB.mp hc;split at this<;>omega
   . have:=hs _ c hc;omega
def auB(h:S9 p):∀i,∀w∈p.ws i,∀c∈w.cps.toList,33<=c:=by
 have lit:∀w∈(["box","leaf","in","put","out","call"]:AT),∀c∈w.cps.toList,33<=c:=Q.f;have nm:∀{x:Str},dN x=true->∀c∈x.cps.toList,33<=c:=fun hx c hc=>by
   have:=(kg hx).2.2.2 c hc;omega
 have nu:∀c∈(sI p.f).cps.toList,33<=c:=fun c hc=>by
   have:=EY p.f c hc;omega
 intro i
 match i with
 | 0=>
   intro w hw;simp only[LT.ws,aBq,aBJ,aCg]at hw;rcases hw with rfl|rfl|rfl
   . exact lit _ Q.b
   . exact nm h.n0
   . exact nu
 | 1=>
   intro w hw;simp only[LT.ws,aBq,aBJ,aCg]at hw;rcases hw with rfl|rfl
   . exact lit _ Q.b
   . exact nm h.md
 | 2=>
   intro w hw;simp only[LT.ws,aBq,aBJ,aCg]at hw;rcases hw with rfl|rfl|rfl|rfl
   . exact lit _ Q.b
   . exact lit _ Q.b
   . exact nm h.n0
   . exact VZ h
 | _+3=>
   intro w hw;simp only[LT.ws,aBq,aBJ,aCg]at hw;rcases hw with rfl|rfl|rfl
   . exact lit _ Q.b
   . exact lit _ Q.b
   . exact nm h.n2
def w9:(" ":Str)=⟨#[32]⟩:=Q.f
def ai9:("\n":Str)=⟨#[10]⟩:=Q.f
theorem MX{c:Nat}:∀{l:AT} {d:Nat},d∈(Str.join ⟨#[c]⟩ l).cps.toList->d=c\/∃w∈l,d∈w.cps.toList
 | [],d,h=>by
   have:(Str.join ⟨#[c]⟩ []).cps.toList=[]:=rfl;rw[this]at h;cases h
 | [a],d,h=>.inr ⟨a,aBr,h⟩
 | a::e::l,d,h=>by
   rw[tO]at h;rcases aBy.mp h with h|h
   . exact .inr ⟨a,aBr,h⟩
   . rcases aBq.mp h with h|h
     . exact .inl h
     . rcases MX h with h|⟨w,hw,hd⟩
       . exact .inl h
       . exact .inr ⟨w,aBt _ hw,hd⟩
def aja(h:S9 p):p.tt.length<=53:=by
 have h1:=(kg h.n0).2.1;have h2:=tM h.c;have h3:=tM (i:=(p.c.natAbs:Int)) (by rw[aDm];exact h.c);unfold LT.tt trL;split
 . omega
 split
 . omega
 . rw[str_len,str_len];have:=Ly p.c;omega
theorem V0{c:Nat}{n:Nat}:∀{l:AT},(∀w∈l,w.length<=n)->(Str.join ⟨#[c]⟩ l).length<=l.length*(n+1)
 | [],_=>aB0 _
 | [a],h=>by
   have:=h a aBr;show a.length<=1*(n+1);omega
 | a::e::l,h=>by
   have h1:=h a aBr;have h2:=V0 (c:=c) (l:=e::l) fun w hw=>h w (aBt _ hw);have e3:(Str.join ⟨#[c]⟩ (a::e::l)).length=a.length+1+(Str.join ⟨#[c]⟩ (e::l)).length:=by
     show((a++(⟨#[c]⟩:Str))++Str.join ⟨#[c]⟩ (e::l)).length=_;rw[str_len,str_len];rfl
   rw[e3,aBP,Nat.succ_mul];omega
def sz(h:n<=10000):n<=sizeLine:=by rw[aB8];omega
def V1{x:Str}(h:dN x=true):¬ x="":=fun z=>by
 subst z;exact absurd (kg h).1 Q.c
def ZC(h:S9 p):Q5 p.tt=decide (p.a=-1):=by
 unfold LT.tt trL;by_cases ha:p.a=-1
 . rw[aBE ha,aBH ha];exact ai6 h.c
 . rw[aBx ha,aBS ha];obtain⟨c,l,e,h1,h2⟩:=anw h.n0;split
   . exact MT e h1
   . have e2:(p.n0++EV p.c++sI (p.c.natAbs:Int)).cps.toList=c::(l++((EV p.c).cps.toList++(sI (p.c.natAbs:Int)).cps.toList)):=by
       rw[cV,cV,e,aBA,aB3]
     exact MT e2 h1
def Jl{x:Str}(h:dN x=true){c:Nat}(hc:c<48):c∉x.cps.toList:=fun z=>by
 have:=(kg h).2.2.2 c z;omega
def ajb(m:Nat){c:Nat}(hc:c<48):c∉(sI (m:Int)).cps.toList:=fun z=>by
 have:=Dp m c z;omega
def fM:AT:=["leaf","one","all"]
def join_one(y a:Str):Str.join y [a]=a:=rfl
def xg(y a c:Str)(l:AT):Str.join y (a::c::l)=a++y++Str.join y (c::l):=rfl
theorem EZ(y:Str):∀(l m:AT),l≠[]->m≠[]->Str.join y (l++m)=Str.join y l++y++Str.join y m
 | [],_,h,_=>absurd rfl h
 | _::_,[],_,h=>absurd rfl h
 | [a],c::m,_,_=>rfl
 | a::d::l,c::m,_,_=>by
   have:=EZ y (d::l) (c::m) (aCy _ _) (aCy _ _);show a++y++Str.join y ((d::l)++(c::m))=a++y++Str.join y (d::l)++y++Str.join y (c::m);rw[this];simp only[aC7]
abbrev _root_.DO:=List AT
theorem Q7(y:Str):∀(l:DO),(∀x∈l,x≠[])->Str.join y l.flatten=Str.join y (l.map (Str.join y))
 | [],_=>rfl
 | [x],_=>by
   rw[aCQ,List.flatten_nil,aBW];rfl
 | x::z::l,h=>by
   have ih:=Q7 y (z::l) fun x hx=>h x (aBt _ hx);have hz:=h z (aBt _ aBr);rw[aCQ,EZ y x _ (h x aBr) (by
     rw[aCQ];exact fun e=>hz (aDC.mp e).1),ih]
   rfl
def BZ(n:Nat):(Txt.mul " " (n:Int)).cps.toList=List.replicate n 32:=by
 have:∀(k:Nat) (a:Array Nat),((List.replicate k (" ":Str).cps).foldl (· ++ ·) a).toList=a.toList++List.replicate k 32:=fun k=>by
   induction k with
   | zero=>intro a;rw[aDS,aDS,aBW];rfl
   | succ k ih=>
     intro a;rw[aDR,aCf,ih,Array.toList_append,aDR,aBA];rfl
 unfold Txt.mul;split
 . rename_i h;have:n=0:=by omega
   subst this;rfl
 split
 . rename_i h;have:n=1:=by
     rw[show((" ":Str).length==0)=false from rfl,Bool.or_false,aDh]at h;omega
   subst this;decide +kernel
 . show((List.replicate (n:Int).toNat (" ":Str).cps).foldl (· ++ ·) #[]).toList=_;rw[this,aCl];rfl
def ajc(n:Nat):Txt.mul " " (n:Int)++" " = Txt.mul " " ((n+1:Nat):Int):=tN (by
 rw[cV,BZ,BZ,List.replicate_succ',w9])
def ajd{l:CU}(h:l.head? ≠ some 32):(List.replicate n 32++l).takeWhile (fun c=>(" ":Str).cps.contains c)=List.replicate n 32:=by
 have e:(" ":Str).cps=#[32]:=Q.f
 induction n with
 | zero=>
   rw[aDS,aDa];cases l with
   | nil=>rfl
   | cons c l=>
     have hc:c≠32:=fun z=>h (by rw[z];rfl);rw[List.takeWhile_cons_of_neg (by rw[e];simp[hc])]
 | succ n ih=>
   rw[aDR,aB3,List.takeWhile_cons_of_pos (by rw[e];simp),ih]
def afg{x:Str}(h:x.cps.toList.head? ≠ some 32):Txt.lstripChars (Txt.mul " " (n:Int)++x) " " = x:=tN (by
 have ec:(Txt.mul " " (n:Int)++x).cps.toList=List.replicate n 32++x.cps.toList:=by rw[cV,BZ]
 refine(VX (n:=n) ?_ ?_).trans ?_
 . rw[ec,ajd h,List.take_left' aCD]
 . rw[ec,aBz,aCD];omega
 . rw[ec,List.drop_left' aCD])
def dW(bn:AT)(d:D):AT:=if (bT d 0).toS="call" then ["call",(bT d 1).toS] else [(bT d 0).toS,if (bT d 0).toS="put" then bn.getD (bT d 1).Gv.toNat Str.empty else(bT d 1).toS,dO bn (bT d 2)]
def aW(bn ns:AT)(d:D):AT:=if d.cnt=2 then [(bT d 0).toS,ns.getD (bT d 1).Gv.toNat Str.empty] else [dO bn (bT d 1),(bT d 0).toS,dO bn (bT d 2)]
def tC(bn:AT)(d:D):D:=.tup [.str (if (bT d 0).Gv=-1 then "" else bn.getD (bT d 0).Gv.toNat Str.empty),bT d 1]
def dC(bn:AT)(d:D):D:=if (bT d 0).toS="call" then d else .tup [bT d 0,.str (if (bT d 0).toS="put" then bn.getD (bT d 1).Gv.toNat Str.empty else(bT d 1).toS),tC bn (bT d 2)]
def aC(bn ns:AT)(d:D):D:=if d.cnt=2 then .tup [bT d 0,.str (ns.getD (bT d 1).Gv.toNat Str.empty)] else .tup [bT d 0,tC bn (bT d 1),tC bn (bT d 2)]
def adl(bn:AT)(d:D):f7 bn d=Str.join " " (dW bn d):=by
 unfold f7 dW;split
 . refine tN ?_;show(("call ":Str)++(bT d 1).toS).cps.toList=(("call":Str)++" " ++ (bT d 1).toS).cps.toList;have l1:("call ":Str).cps.toList=("call":Str).cps.toList++(" ":Str).cps.toList:=Q.f;rw[cV,cV,cV,l1]
 . rw[xg,xg,join_one];simp only[aC7]
def anA(bn ns:AT)(d:D):vX bn ns d=Str.join " " (aW bn ns d):=by
 unfold vX aW;split
 . rfl
 . rw[xg,xg,join_one];simp only[aC7]
def lk(f g:Str):DO->DO
 | []=>[]
 | t::r=>(f::t)::r.map (g::·)
def YK(ns:AT)(w:WY):DO:=if w.tg=-1 then [] else [("to":Str)::ns.getD w.tg.toNat Str.empty::Ql w]
def wP(bn ns:AT)(w:WY):DO:=["on",w.sg]::(lk "if" "and" (w.qs.map (aW bn ns))++lk "do" "then" (w.ds.map (dW bn))++YK ns w)
theorem aje(f g:Str):∀(l:DO),(∀x∈l,x≠[])->Gy f g (l.map (Str.join " "))≠[]->Str.join " " (Gy f g (l.map (Str.join " ")))=Str.join " " (lk f g l).flatten
 | [],_,h=>absurd rfl h
 | t::r,hl,hne=>by
   clear hne;have two:∀(f:Str) (t:AT),t≠[]->Str.join " " [f,Str.join " " t]=Str.join " " (f::t):=fun f t ht=>by
     cases t with
     | nil=>exact absurd rfl ht
     | cons a t=>rfl
   have ev:∀(r:DO),(∀x∈r,x≠[])->(r.map (Str.join " ")).flatMap (fun x=>[g,x])=(r.flatMap fun x=>[[g],x]).map (Str.join " "):=fun r hr=>by
     induction r with
     | nil=>rfl
     | cons x r ih=>
       rw[aBK,aCz,aCz,aBF,ih fun y hy=>hr y (aBt _ hy)];rfl
   have e1:Gy f g ((t::r).map (Str.join " "))=(([f]::t::r.flatMap fun x=>[[g],x])).map (Str.join " "):=by
     show f::Str.join " " t::(r.map (Str.join " ")).flatMap _=_;rw[ev r fun y hy=>hl y (aBt _ hy)];rfl
   rw[e1,← Q7]
   . congr 1;show [f]++(t++(r.flatMap fun x=>[[g],x]).flatten)=(f::t)++(r.map (g::·)).flatten;have e2:(r.flatMap fun x=>[[g],x]).flatten=(r.map (g::·)).flatten:=by
       clear hl e1 ev two
       induction r with
       | nil=>rfl
       | cons x r ih=>
         rw[aCz,List.flatten_append,ih,aBK,aCQ];simp
     rw[e2];rfl
   . intro x hx;rcases aBq.mp hx with rfl|hx
     . exact aCy _ _
     rcases aBq.mp hx with rfl|hx
     . exact hl _ aBr
     . obtain⟨y,hy,hx⟩:=List.mem_flatMap.mp hx;rcases aBq.mp hx with rfl|hx
       . exact aCy _ _
       . cases aBB.mp hx;exact hl _ (aBt _ hy)
def JE(a l:AT):Prop:=Str.join " " a=Str.join " " l/\(a=[]↔l=[])
theorem JE.same(a:AT):JE a a:=⟨rfl,.rfl⟩
theorem JE.cat{a c m:AT}(h1:JE a l)(h2:JE c m):JE (a++c) (l++m):=by
 refine⟨?_,by rw[aDC,aDC,h1.2,h2.2]⟩;by_cases ha:a=[]
 . rw[ha,h1.2.mp ha];exact h2.1
 by_cases hc:c=[]
 . rw[hc,h2.2.mp hc,aBW,aBW];exact h1.1
 rw[EZ " " _ _ ha hc,EZ " " _ _ (fun z=>ha (h1.2.mpr z)) (fun z=>hc (h2.2.mpr z)),h1.1,h2.1]
def auC(bn ns:AT)(d:D):aW bn ns d≠[]:=by
 unfold aW;split<;>exact aCy _ _
def ajf(bn:AT)(d:D):dW bn d≠[]:=by
 unfold dW;split<;>exact aCy _ _
theorem V2(f g:Str)(l:DO)(h:∀x∈l,x≠[]):JE (Gy f g (l.map (Str.join " "))) (lk f g l).flatten:=by
 cases l with
 | nil=>exact⟨rfl,⟨fun _=>rfl,fun _=>rfl⟩⟩
 | cons t r=>exact⟨aje f g (t::r) h (aCy _ _),⟨fun z=>by(cases z),fun z=>by(cases z)⟩⟩
def ajg(bn ns:AT)(h:w.tg=-1->w.md="new"):Qm bn ns w=Str.join " " (wP bn ns w).flatten:=by
 unfold Qm;rw[← BX,join_eq];have ea:w.qs.map (vX bn ns)=(w.qs.map (aW bn ns)).map (Str.join " "):=by
   rw[aBL];exact aCp fun d _=>anA bn ns d
 have ed:w.ds.map (f7 bn)=(w.ds.map (dW bn)).map (Str.join " "):=by
   rw[aBL];exact aCp fun d _=>adl bn d
 have a1:=V2 "if" "and" (w.qs.map (aW bn ns)) fun x hx=>by
   obtain⟨d,_,rfl⟩:=aBI.mp hx;exact auC bn ns d
 have a2:=V2 "do" "then" (w.ds.map (dW bn)) fun x hx=>by
   obtain⟨d,_,rfl⟩:=aBI.mp hx;exact ajf bn d
 have et:YJ ns w++Ql w=(YK ns w).flatten:=by
   unfold YJ YK;split
   . rename_i hz;rw[Ql,aBE (h hz)];rfl
   . rw[aCQ,List.flatten_nil,aBW];rfl
 unfold wyL wP;rw[ea,ed,et,aCQ,List.flatten_append,List.flatten_append];exact((JE.same ["on",w.sg]).cat ((a1.cat a2).cat (.same _))).1
inductive RW
 | bx (n:Str) (k:Int)
 | md (n:Nat) (k x st:Str) (z:Int)
 | io (n:Nat) (w:Str) (d:D)
 | wy (n:Nat) (w:WY)
def RW.bl:RW->Nat
 | .bx _ _=>0
 | .md n _ _ _ _=>n
 | .io n _ _=>n+1
 | .wy n _=>n+1
def RW.word:RW->Str
 | .bx _ _=>"box"
 | .md _ k _ _ _=>k
 | .io _ w _=>w
 | .wy _ _=>"on"
def RW.ws(bn ns:AT):RW->AT
 | .bx n k=>["box",n,sI k]
 | .md _ k x st _=>k::x::if st="" then [] else [st]
 | .io _ w d=>w::dW bn d
 | .wy _ w=>(wP bn ns w).flatten
def RW.rest(bn ns:AT)(r:RW):Str:=Str.join " " (r.ws bn ns)
def RW.line(bn ns:AT)(r:RW):Str:=Txt.mul " " (r.bl:Nat)++r.rest bn ns
def tgC(ns:AT)(w:WY):Str:=if w.tg=-1 then "" else ns.getD w.tg.toNat Str.empty
def RW.ct(bn ns:AT):RW->T
 | .bx n k=>.sh (.tup [.str n,.int k])
 | .md _ _ x st _=>.sh (.tup [.str x,.str st])
 | .io _ _ d=>.sh (dC bn d)
 | .wy _ w=>.tup [.sh (.str w.sg),.lst ((w.qs.map (aC bn ns)).map T.sh),.lst ((w.ds.map (dC bn)).map T.sh),.sh (.str (tgC ns w)),.sh (.str w.md)]
def RW.cn:RW->D
 | .bx n k=>.tup [.str n,.int k]
 | .md _ _ x _ z=>.tup [.str x,.int z]
 | .io _ _ d=>d
 | .wy _ w=>.tup [.str w.sg,.tup w.qs,.tup w.ds,.int w.tg,.str w.md]
def RW.fm(bn ns:AT)(i:Int)(r:RW):T:=.tup [.sh (.int i),.sh (.int r.bl),.sh (.str r.word),r.ct bn ns]
def RW.nf(i:Int)(r:RW):D:=.tup [.int i,.int r.bl,.str r.word,r.cn]
abbrev _root_.Dx:=List RW
def CH.mr(c:CH)(m:Nat):Dx:=.md (eY c.es m).length (c.ks.getD m Str.empty) (c.ns.getD m Str.empty) (if c.ks.getD m Str.empty="one" then c.ns.getD (c.ss.getD m 0).toNat Str.empty else "") (c.ss.getD m 0) ::
 ((c.is.getD m []).map (.io (eY c.es m).length "in")++(c.os.getD m []).map (.io (eY c.es m).length "out")++(c.ws.filter fun w=>decide (w.src=(m:Int))).map (.wy (eY c.es m).length))
def CH.br(c:CH):Dx:=c.bs.map fun p=>.bx p.1 p.2
def CH.rows(c:CH):Dx:=c.br++(List.range c.es.length).flatMap c.mr
theorem anB{β γ:Type}{l:List α}{f:α->List β}{g:α->List γ}{h:γ->β}(e:∀a∈l,f a=(g a).map h):l.flatMap f=(l.flatMap g).map h:=by
 induction l with
 | nil=>rfl
 | cons a l ih=>rw[aCz,aCz,aBF,e a aBr,ih fun b hb=>e b (aBt _ hb)]
def anC(h:nF c)(hn:∀x∈c.ns,dN x=true)(hm:m<c.es.length):c.ks.getD m Str.empty="one"->¬ c.ns.getD (c.ss.getD m 0).toNat Str.empty="":=fun e z=>by
 have:=((h.one m hm).1 e);have hk:(c.ss.getD m 0).toNat<c.ns.length:=by rw[h.nl];omega
 have:=hn _ (GX hk);rw[z]at this;exact V1 this rfl
def all_rows(h:nF c)(hn:∀x∈c.ns,dN x=true):xZ c c.es.length=c.rows.map (RW.line c.bn c.ns):=by
 unfold xZ CH.rows CH.br;rw[aBF,aBL];refine congr (congrArg _ (aCp fun p _=>?_)) (anB fun m hm=>?_)
 . refine tN ?_;show(Zx p).cps.toList=(Txt.mul " " ((0:Nat):Int)++(("box":Str)++" " ++ (p.1++" " ++ sI p.2))).cps.toList;have l1:("box ":Str).cps.toList=("box":Str).cps.toList++(" ":Str).cps.toList:=Q.f;unfold Zx;simp only[cV,l1,BZ,aBA,aDS,aDa]
 . have hm:=aB5.mp hm;have hl:∀x:Str,Gz c m++" " ++ x=Txt.mul " " (((eY c.es m).length+1:Nat):Int)++x:=fun x=>by
     rw[← ajc];rfl
   have hi:∀(w lit:Str) (d:D),lit=w++" "->Gz c m++" " ++ (lit++f7 c.bn d)=RW.line c.bn c.ns (.io (eY c.es m).length w d):=fun w lit d e=>by
     rw[hl,e,adl];show _=_++Str.join " " (w::dW c.bn d);cases hd:dW c.bn d with
     | nil=>exact absurd hd (ajf _ _)
     | cons a l=>rfl
   unfold Jk CH.mr;rw[aBK,aBF,aBF];refine congr (congrArg _ ?_) ?_
   . show Txt.mul " " _++Zw c m=Txt.mul " " _++Str.join " " (_::_::_);unfold Zw;rw[← BX,join_eq];by_cases e:c.ks.getD m Str.empty="one"
     . rw[aBE e,aBE e,aBx (anC h hn hm e)];rfl
     . rw[aBx e,aBx e,aBE rfl];rfl
   . unfold Dn MP lI;rw[aBF,aBF,aBL,aBL,aBL,aBL,aBL,aBL];refine congr (congrArg _ (congr (congrArg _ (aCp fun d _=>hi "in" "in " d Q.b)) (aCp fun d _=>hi "out" "out " d Q.b))) (aCp fun w hw=>?_);have hw:=(aCF.mp hw).1;show Gz c m++" " ++ Qm c.bn c.ns w=_;rw[hl,ajg c.bn c.ns (fun z=>?_)]
     . rfl
     . rcases(h.ow.ww w hw).fin.tg with⟨_,e⟩|⟨e,_⟩
       . exact e
       . omega
def uF(l:AT):Prop:=∀x∈l,dN x=true
def J8(nb:Nat)(d:D):Prop:=(∃n:Str,d=.tup [.str "call",.str n]/\dN n=true)\/(∃(k:Int) (t:D),d=.tup [.str "put",.int k,t]/\(0<=k/\k<nb)/\iF nb t)\/(∃(n:Str) (t:D),d=.tup [.str "say",.str n,t]/\dN n=true/\iF nb t)
structure WyN(nb nm:Nat)(w:WY):Prop where
 l:w.qs.length+w.ds.length<=40
 q:∀d∈w.qs,tL nb nm d
 d:∀d∈w.ds,J8 nb d
 s:dN w.sg=true
 t:w.tg=-1/\w.md="new" \/ (0<=w.tg/\w.tg<nm)/\w.md∈(["new","near","far"]:AT)
def RW.Ok(bn ns:AT):RW->Prop
 | .bx n k=>dN n=true/\k.natAbs<10 ^ 30
 | .md n k x st z=>n<=50/\k∈fM/\dN x=true/\((k="one" /\ (0<=z/\z<ns.length)/\st=ns.getD z.toNat Str.empty)\/(k≠"one" /\ st="" /\ z=-1))
 | .io n w d=>n<=50/\w∈(["in","out"]:AT)/\J8 bn.length d
 | .wy n w=>n<=50/\WyN bn.length ns.length w
def Wd(x:Str):Prop:=x.length<=53/\∀c∈x.cps.toList,33<=c
def E1{x:Str}(h:dN x=true):Wd x:=by
 obtain⟨_,h2,_,h4⟩:=kg h;refine⟨We,fun c hc=>?_⟩;have:=h4 c hc;omega
def ajh{k:Int}(h:k.natAbs<10 ^ 30):Wd (sI k):=by
 refine⟨aCa (tM h) Q.c,fun c hc=>?_⟩;have:=EY k c hc;omega
def kh(h:uF l){k:Int}(h0:0<=k)(h1:k<l.length):dN (l.getD k.toNat Str.empty)=true:=h _ (GX Q.a)
variable{bn:AT}{d:D}
def GZ(hb:uF bn)(h:iF bn.length d):∃a k:Int,d=.tup [.int a,.int k]/\k.natAbs<10 ^ 30/\((a=-1/\dO bn d=sI k)\/(¬ a=-1/\dN (bn.getD a.toNat Str.empty)=true/\dO bn d=trL (bn.getD a.toNat Str.empty) 0 k)):=by
 obtain⟨a,k,rfl,ha,hk⟩:=h;refine⟨a,k,rfl,hk,?_⟩;rw[EW];by_cases e:a=-1
 . exact .inl ⟨e,aBE e⟩
 . have:0<=a/\a<bn.length:=by omega
   refine .inr ⟨e,kh hb this.1 this.2,?_⟩;rw[aBx e,trL,aBx (show ¬ (0:Int)=-1 by decide)]
def Tc(hb:uF bn)(h:iF bn.length d):Wd (dO bn d):=by
 obtain⟨a,k,rfl,hk,⟨_,e⟩|⟨_,hn,e⟩⟩:=GZ hb h
 . rw[e];exact ajh hk
 . rw[e];have hp:S9 ⟨bn.getD a.toNat Str.empty,bn.getD a.toNat Str.empty,bn.getD a.toNat Str.empty,0,0,k⟩:=⟨hn,hn,hn,show(0:Int).natAbs<10 ^ 30 by decide,.inr rfl,hk⟩;exact⟨aja hp,VZ hp⟩
def qM{x:Str}(h:x∈(["box","leaf","one","all","in","out","on","if","and","do","then","to","new","near","far","put","call","say","open","shut","<","<=","=","!="]:AT)):Wd x:=by
 have:∀y∈(["box","leaf","one","all","in","out","on","if","and","do","then","to","new","near","far","put","call","say","open","shut","<","<=","=","!="]:AT),y.length<=53/\∀c∈y.cps.toList,33<=c:=Q.f;exact this x h
def adn(bn:AT)(n:Str):dW bn (.tup [.str "call",.str n])=[("call":Str),n]:=aBE rfl
def aji(bn:AT)(k:Int)(t:D):dW bn (.tup [.str "put",.int k,t])=[("put":Str),bn.getD k.toNat Str.empty,dO bn t]:=by
 show(if ("put":Str)="call" then _ else [("put":Str),if ("put":Str)="put" then bn.getD k.toNat Str.empty else _,dO bn t])=_;rw[aBx Q.b,aBE rfl]
def ajj(bn:AT)(n:Str)(t:D):dW bn (.tup [.str "say",.str n,t])=[("say":Str),n,dO bn t]:=by
 show(if ("say":Str)="call" then _ else [("say":Str),if ("say":Str)="put" then _ else n,dO bn t])=_;rw[aBx Q.b,aBx Q.b]
def ado(hb:uF bn)(h:J8 bn.length d):(∀x∈dW bn d,Wd x)/\(dW bn d).length<=3:=by
 rcases h with⟨n,rfl,hn⟩|⟨k,t,rfl,hk,ht⟩|⟨n,t,rfl,hn,ht⟩
 . rw[adn];refine⟨fun x hx=>?_,aBu rfl⟩;simp only[aBq,aBJ,aCg]at hx;rcases hx with rfl|rfl
   . exact qM Q.b
   . exact E1 hn
 . rw[aji];refine⟨fun x hx=>?_,aBu rfl⟩;simp only[aBq,aBJ,aCg]at hx;rcases hx with rfl|rfl|rfl
   . exact qM Q.b
   . exact E1 (kh hb hk.1 hk.2)
   . exact Tc hb ht
 . rw[ajj];refine⟨fun x hx=>?_,aBu rfl⟩;simp only[aBq,aBJ,aCg]at hx;rcases hx with rfl|rfl|rfl
   . exact qM Q.b
   . exact E1 hn
   . exact Tc hb ht
def arZ(hb:uF bn)(hn:uF ns)(h:tL bn.length ns.length d):(∀x∈aW bn ns d,Wd x)/\(aW bn ns d).length<=3:=by
 rcases h with⟨w,k,rfl,hw,hk⟩|⟨w,s,t,rfl,hw,hs,ht⟩
 . refine⟨fun x hx=>?_,aBu rfl⟩;have hx:x∈[w,ns.getD k.toNat Str.empty]:=hx;simp only[aBq,aBJ,aCg]at hx;rcases hx with rfl|rfl
   . rcases hw with rfl|rfl<;>exact qM Q.b
   . exact E1 (kh hn hk.1 hk.2)
 . refine⟨fun x hx=>?_,aBu rfl⟩;have hx:x∈[dO bn s,w,dO bn t]:=hx;simp only[aBq,aBJ,aCg]at hx;rcases hx with rfl|rfl|rfl
   . exact Tc hb hs
   . refine qM ?_;simp only[aBq,aBJ,aCg]at hw;rcases hw with rfl|rfl|rfl|rfl<;>decide +kernel
   . exact Tc hb ht
theorem Ae{l:DO}{p:AT}(h:p∈lk f g l):∃x∈l,p=f::x\/p=g::x:=by
 cases l with
 | nil=>cases h
 | cons t r=>
   rcases aBq.mp h with rfl|h
   . exact⟨t,aBr,.inl rfl⟩
   . obtain⟨x,hx,rfl⟩:=aBI.mp h;exact⟨x,aBt _ hx,.inr rfl⟩
theorem ajk(f g:Str)(l:DO):(lk f g l).length=l.length:=by
 cases l with
 | nil=>rfl
 | cons t r=>rw[lk,aBP,aBp,aBP]
def apk(hb:uF bn)(hn:uF ns)(h:WyN bn.length ns.length w):(wP bn ns w).length<=42/\∀p∈wP bn ns w,p.length<=4/\∀x∈p,Wd x:=by
 have hl:∀{f:Str} {x:AT},f∈(["if","and","do","then"]:AT)->(∀y∈x,Wd y)/\x.length<=3->(f::x).length<=4/\∀y∈f::x,Wd y:=fun hf hx=>by
   refine⟨by rw[aBP];omega,fun y hy=>?_⟩;rcases aBq.mp hy with rfl|hy
   . simp only[aBq,aBJ,aCg]at hf;rcases hf with rfl|rfl|rfl|rfl<;>exact qM Q.b
   . exact hx.1 y hy
 have ht:(YK ns w).length<=1:=by
   unfold YK;split<;>exact aBu rfl
 have h3:=h.l;refine⟨?_,fun p hp=>?_⟩
 . unfold wP;rw[aBP,aBz,aBz,ajk,ajk,aBp,aBp];omega
 . rcases aBq.mp hp with rfl|hp
   . refine⟨aBu rfl,fun x hx=>?_⟩;rcases aBq.mp hx with rfl|hx
     . exact qM Q.b
     . cases aBB.mp hx;exact E1 h.s
   rcases aBy.mp hp with hp|hp
   . rcases aBy.mp hp with hp|hp
     . obtain⟨x,hx,e⟩:=Ae hp;obtain⟨d,hd,rfl⟩:=aBI.mp hx;have:=arZ hb hn (h.q d hd);rcases e with rfl|rfl
       . exact hl Q.b this
       . exact hl Q.b this
     . obtain⟨x,hx,e⟩:=Ae hp;obtain⟨d,hd,rfl⟩:=aBI.mp hx;have:=ado hb (h.d d hd);rcases e with rfl|rfl
       . exact hl Q.b this
       . exact hl Q.b this
   . unfold YK at hp;split at hp
     . cases hp
     . rename_i hz;cases aBB.mp hp;rcases h.t with⟨z,_⟩|⟨ht,hm⟩
       . exact absurd z hz
       refine⟨?_,fun x hx=>?_⟩
       . unfold Ql;split<;>exact aBu rfl
       rcases aBq.mp hx with rfl|hx
       . exact qM Q.b
       rcases aBq.mp hx with rfl|hx
       . exact E1 (kh hn ht.1 ht.2)
       . unfold Ql at hx;split at hx
         . cases hx
         . cases aBB.mp hx;refine qM ?_;simp only[aBq,aBJ,aCg]at hm;rcases hm with e|e|e<;>rw[e]<;>decide +kernel
theorem V3{l:DO}(h:∀p∈l,p.length<=4):l.flatten.length<=l.length*4:=by
 induction l with
 | nil=>exact aB0 _
 | cons p l ih=>
   have a:=h p aBr;have c:=ih fun q hq=>h q (aBt _ hq);rw[aCQ,aBz,aBP,Nat.succ_mul];omega
variable{r:RW}
theorem G0(hb:uF bn)(hn:uF ns)(h:r.Ok bn ns):(∀x∈r.ws bn ns,Wd x)/\(r.ws bn ns).length<=168/\∃x l,r.ws bn ns=r.word::x::l:=by
 cases r with
 | bx n k=>
   refine⟨fun x hx=>?_,aBu rfl,_,_,rfl⟩;have hx:x∈[("box":Str),n,sI k]:=hx;simp only[aBq,aBJ,aCg]at hx;rcases hx with rfl|rfl|rfl
   . exact qM Q.b
   . exact E1 h.1
   . exact ajh h.2
 | md n k x st z=>
   obtain⟨_,h1,h2,h3⟩:=h;refine⟨fun y hy=>?_,?_,_,_,rfl⟩
   . rcases aBq.mp hy with rfl|hy
     . refine qM ?_;simp only[fM,aBq,aBJ,aCg]at h1;rcases h1 with e|e|e<;>rw[e]<;>decide +kernel
     rcases aBq.mp hy with rfl|hy
     . exact E1 h2
     . split at hy
       . cases hy
       . rename_i hz;cases aBB.mp hy;rcases h3 with⟨_,hk,e⟩|⟨_,e,_⟩
         . rw[e];exact E1 (kh hn hk.1 hk.2)
         . exact absurd e hz
   . show(if st="" then [] else [st]).length+1+1<=168;split<;>exact aBu rfl
 | io n w d=>
   obtain⟨_,h1,h2⟩:=h;have:=ado hb h2;refine⟨fun y hy=>?_,?_,?_⟩
   . rcases aBq.mp hy with rfl|hy
     . simp only[aBq,aBJ,aCg]at h1;rcases h1 with rfl|rfl<;>exact qM Q.b
     . exact this.1 y hy
   . show(dW bn d).length+1<=168;omega
   . cases e:dW bn d with
     | nil=>exact absurd e (ajf _ _)
     | cons a l=>exact⟨a,l,by show w::dW bn d=_;rw[e];rfl⟩
 | wy n w=>
   obtain⟨h1,h2⟩:=apk hb hn h.2;refine⟨fun y hy=>?_,?_,_,_,rfl⟩
   . obtain⟨p,hp,hy⟩:=List.mem_flatten.mp hy;exact(h2 p hp).2 y hy
   . have:=V3 fun p hp=>(h2 p hp).1;show(wP bn ns w).flatten.length<=168;omega
theorem anD(h:r.Ok bn ns):r.word∈(["box","leaf","one","all","in","out","on"]:AT):=by
 cases r with
 | bx n k=>exact aBr
 | md n k x st z=>
   have:=h.2.1;simp only[fM,aBq,aBJ,aCg]at this;show k∈_;rcases this with e|e|e<;>rw[e]<;>decide +kernel
 | io n w d=>
   have:=h.2.1;simp only[aBq,aBJ,aCg]at this;show w∈_;rcases this with e|e<;>rw[e]<;>decide +kernel
 | wy n w=>exact(by decide +kernel:("on":Str)∈(["box","leaf","one","all","in","out","on"]:AT))
section
variable(hb:uF bn)(hn:uF ns)(h:r.Ok bn ns)
include hb hn h
def afh:BJ (r.rest bn ns) " " = true/\splitM (r.rest bn ns) " " = r.ws bn ns:=by
 obtain⟨h1,_,x,l,e⟩:=G0 hb hn h;unfold RW.rest;rw[w9];exact Zy (by rw[e];exact aDU _ _) fun w hw z=>by
   have:=(h1 w hw).2 32 z;omega
theorem ajl:(r.rest bn ns).cps.toList.head? ≠ some 32:=by
 obtain⟨_,_,x,l,e⟩:=G0 hb hn h;have hw:=anD h;have:∀w∈(["box","leaf","one","all","in","out","on"]:AT),w.cps.toList.head? ≠ some 32/\w.cps.toList≠[]:=Q.f;obtain⟨h1,h2⟩:=this _ hw;unfold RW.rest;rw[e,w9,tO];cases e2:r.word.cps.toList with
 | nil=>exact absurd e2 h2
 | cons c m=>
   rw[e2]at h1;exact h1
def afi:Txt.lstripChars (r.line bn ns) " " = r.rest bn ns:=afg (ajl hb hn h)
def ar0:(r.rest bn ns).length<=9072/\(r.line bn ns).length=r.bl+(r.rest bn ns).length/\r.bl<=51:=by
 obtain⟨h1,h2,_⟩:=G0 hb hn h;have h3:=V0 (c:=32) (n:=53) fun w hw=>(h1 w hw).1;rw[← w9]at h3;refine⟨aCa h3 (aDM 54 h2),?_,?_⟩
 . unfold RW.line;rw[str_len];have:(Txt.mul " " (r.bl:Int)).length=r.bl:=by rw[← j9,BZ,aCD]
   rw[this]
 . cases r with
   | bx n k=>exact aB0 _
   | md n k x st z=>exact aCa h.1 Q.c
   | io n w d=>exact aDL h.1
   | wy n w=>exact aDL h.1
def ajm:∀c∈(r.line bn ns).cps.toList,32<=c:=fun c hc=>by
 obtain⟨h1,_⟩:=G0 hb hn h;unfold RW.line at hc;rw[cV,BZ]at hc;rcases aBy.mp hc with hc|hc
 . have:=List.eq_of_mem_replicate hc;omega
 . unfold RW.rest at hc;rw[w9]at hc;rcases MX hc with z|⟨w,hw,hd⟩
   . omega
   . have:=(h1 w hw).2 c hd;omega
end
def afj{c:Nat}(h:l≠[])(hf:∀p∈l,c∉p.cps.toList):Txt.split (Str.join ⟨#[c]⟩ l) ⟨#[c]⟩=l:=by
 refine MQ ?_ h (StrLaws.split_free _ c) hf (by rw[StrLaws.join_split]);unfold Txt.split;split
 . exact aCy _ _
 split
 . exact aCy _ _
 . intro z;have:=length_partsBetween (Str.join ⟨#[c]⟩ l) (Builtin.Str.occurrences (Str.join ⟨#[c]⟩ l) ⟨#[c]⟩ 0 (Str.join ⟨#[c]⟩ l).length ((Str.join ⟨#[c]⟩ l).length+1)) (⟨#[c]⟩:Str).length;rw[z]at this;cases this
def V4(hb:uF bn)(hn:uF ns){l:Dx}(h:∀r∈l,r.Ok bn ns)(h2:l≠[]):Txt.split (Str.join "\n" (l.map (RW.line bn ns))) "\n" = l.map (RW.line bn ns):=by
 rw[ai9];refine afj (fun z=>h2 (aDt.mp z)) fun w hw z=>?_;obtain⟨r,hr,rfl⟩:=aBI.mp hw;have:=ajm hb hn (h r hr) 10 z;omega
def Jm(l:AT):List (Key×D):=(List.range l.length).map fun(i:Nat)=>((.inr (l.getD i Str.empty):Key),D.int i)
def ajn(h:l.Nodup){i:Nat}(hi:i<l.length)(hj:j<l.length)(e:l.getD i Str.empty=l.getD j Str.empty):i=j:=by
 rw[aBs,aBs,aBC hi,aBC hj]at e;exact(List.getElem_inj h).mp e
theorem find_key{α:Type}{f:α->Key}{g:α->D}{k:Key}:∀{l:List α} {a:α},a∈l->f a=k->(∀b∈l,f b=k->g b=g a)->zH (l.map fun a=>(f a,g a)) k=some (g a)
 | c::l,a,ha,e,hu=>by
   unfold zH;rw[aBK];by_cases hc:f c=k
   . rw[List.find?_cons_of_pos (p:=fun kv:Key×D=>decide (kv.1=k)) (aBH hc)];exact congrArg some (hu c aBr hc)
   . rw[List.find?_cons_of_neg (p:=fun kv:Key×D=>decide (kv.1=k)) (show ¬ decide (f c=k)=true from fun z=>hc (aBv z))];have ha:a∈l:=by
       rcases aBq.mp ha with rfl|ha
       . exact absurd e hc
       . exact ha
     exact find_key ha e fun b hb=>hu b (aBt _ hb)
def ar3(h:l.Nodup){k:Int}(h0:0<=k)(h1:k<l.length):zH (Jm l) (.inr (l.getD k.toNat Str.empty))=some (.int k):=by
 have:=find_key (f:=fun i:Nat=>(.inr (l.getD i Str.empty):Key)) (g:=fun i:Nat=>D.int i) (l:=List.range l.length) (a:=k.toNat) (aB5.mpr Q.a) rfl fun b hb e=>by
   rw[ajn h (aB5.mp hb) Q.a (Sum.inr.inj e)]
 unfold Jm;rw[this];congr 1;show D.int ((k.toNat:Nat):Int)=.int k;congr 1;omega
def LC(l:AT)(z:Int):Str:=if z=-1 then "" else l.getD z.toNat Str.empty
structure Q8(l:AT):Prop where
 n:uF l
 d:l.Nodup
def MY(hb:uF bn)(h:iF bn.length d):∃p:LT,S9 p/\p.tt=dO bn d/\D.tup [.str p.tn,.int p.c]=tC bn d:=by
 have ea:dN "a" = true:=Q.f;obtain⟨a,k,rfl,hk,⟨h1,e⟩|⟨h1,hn,e⟩⟩:=GZ hb h
 . refine⟨⟨"a","a","a",0,-1,k⟩,⟨ea,ea,ea,show(0:Int).natAbs<10 ^ 30 by decide,.inl rfl,hk⟩,?_,?_⟩
   . rw[e];unfold LT.tt trL;rw[aBE rfl]
   . show _=D.tup [.str (if a=-1 then "" else _),.int k];rw[aBE h1];rfl
 . refine⟨⟨bn.getD a.toNat Str.empty,"a","a",0,0,k⟩,⟨hn,ea,ea,show(0:Int).natAbs<10 ^ 30 by decide,.inr rfl,hk⟩,?_,?_⟩
   . rw[e];rfl
   . show D.tup [.str (if (0:Int)=-1 then "" else _),.int k]=D.tup [.str (if a=-1 then "" else _),.int k];rw[aBx h1,aBx Q.c];rfl
def x8(bn:AT)(n:Str):dC bn (.tup [.str "call",.str n])=.tup [.str "call",.str n]:=aBE rfl
def Dq(bn:AT)(k:Int)(t:D):dC bn (.tup [.str "put",.int k,t])=.tup [.str "put",.str (bn.getD k.toNat Str.empty),tC bn t]:=by
 show(if ("put":Str)="call" then _ else D.tup [.str "put",.str (if ("put":Str)="put" then bn.getD k.toNat Str.empty else _),tC bn t])=_;rw[aBx Q.b,aBE rfl]
def Dr(bn:AT)(n:Str)(t:D):dC bn (.tup [.str "say",.str n,t])=.tup [.str "say",.str n,tC bn t]:=by
 show(if ("say":Str)="call" then _ else D.tup [.str "say",.str (if ("say":Str)="put" then _ else n),tC bn t])=_;rw[aBx Q.b,aBx Q.b]
def Td(bn:AT)(h:iF nb d):(tC bn d).kK=true:=by
 obtain⟨a,k,rfl,_⟩:=h;rfl
def Te(bn:AT)(h:J8 nb d):(dC bn d).kK=true:=by
 rcases h with⟨n,rfl,_⟩|⟨k,t,rfl,_,ht⟩|⟨n,t,rfl,_,ht⟩
 . rw[x8];rfl
 . rw[Dq];show(true&&(true&&((tC bn t).kK&&true)))=true;rw[Td bn ht];rfl
 . rw[Dr];show(true&&(true&&((tC bn t).kK&&true)))=true;rw[Td bn ht];rfl
def ajo(bn ns:AT)(h:tL nb nm d):(aC bn ns d).kK=true:=by
 rcases h with⟨w,k,rfl,_⟩|⟨w,s,t,rfl,_,hs,ht⟩
 . rfl
 . show(true&&((tC bn s).kK&&((tC bn t).kK&&true)))=true;rw[Td bn hs,Td bn ht];rfl
def Af(hb:uF bn)(h:J8 bn.length d):(∃n,dN n=true/\dW bn d=[("call":Str),n]/\dC bn d=.tup [.str "call",.str n])\/∃w n t,w∈(["put","say"]:AT)/\dN n=true/\iF bn.length t/\dW bn d=[w,n,dO bn t]/\dC bn d=.tup [.str w,.str n,tC bn t]:=by
 rcases h with⟨n,rfl,hn⟩|⟨k,t,rfl,hk,ht⟩|⟨n,t,rfl,hn,ht⟩
 . exact .inl ⟨n,hn,adn _ _,x8 _ _⟩
 . exact .inr ⟨"put",_,t,Wl,kh hb hk.1 hk.2,ht,aji _ _ _,Dq _ _ _⟩
 . exact .inr ⟨"say",n,t,Wl,hn,ht,ajj _ _ _,Dr _ _ _⟩
variable{C:D->D}
def zZ{l:Ap}(h:∀d∈l,(C d).kK=true):D.bY (l.map C)=true:=mh fun d hd=>by
 obtain⟨x,hx,rfl⟩:=aBI.mp hd;exact h x hx
theorem MZ(hb:uF bn)(hn:uF ns)(h:r.Ok bn ns):(r.ct bn ns).clean=true:=by
 cases r with
 | bx n k=>rfl
 | md n k x st z=>rfl
 | io n w d=>exact Te bn h.2.2
 | wy n w=>
   have a:=b5 (zZ fun d hd=>ajo bn ns (h.2.q d hd));have c:=b5 (zZ fun d hd=>Te bn (h.2.d d hd));show(true&&((T.lst ((w.qs.map (aC bn ns)).map T.sh)).clean&&((T.lst ((w.ds.map (dC bn)).map T.sh)).clean&&(true&&(true&&true)))))=true;rw[a,c];rfl
def Tf(h:Q8 l){y z:Int}(hy:y=-1\/(0<=y/\y<l.length))(hz:z=-1\/(0<=z/\z<l.length))(e:LC l y=LC l z):y=z:=by
 unfold LC at e;by_cases y1:y=-1
 . by_cases z1:z=-1
   . rw[y1,z1]
   . have hz:=hz.resolve_left z1;rw[aBE y1,aBx z1]at e;exact absurd e.symm (V1 (kh h.n hz.1 hz.2))
 . have hy:=hy.resolve_left y1;by_cases z1:z=-1
   . rw[aBx y1,aBE z1]at e;exact absurd e (V1 (kh h.n hy.1 hy.2))
   . have hz:=hz.resolve_left z1;rw[aBx y1,aBx z1]at e;have:=ajn h.d Q.a Q.a e;omega
def M0{z:Int}(h:0<=z):l.getD z.toNat Str.empty=LC l z:=(aBx Q.a).symm
def apl(bn:AT)(a k:Int):tC bn (.tup [.int a,.int k])=.tup [.str (LC bn a),.int k]:=rfl
variable{e:D}
def adp(h:Q8 bn)(hd:iF bn.length d)(he:iF bn.length e)(q:tC bn d=tC bn e):d=e:=by
 obtain⟨a,k,rfl,ha,_⟩:=hd;obtain⟨c,j,rfl,hc,_⟩:=he;rw[apl,apl]at q;injection q with q;obtain⟨q1,q2⟩:=aBT q;injection q1 with q1;injection (aBT q2).1 with q3;rw[Tf h ha hc q1,q3]
def auD(h:Q8 bn)(hd:J8 bn.length d)(he:J8 bn.length e)(q:dC bn d=dC bn e):d=e:=by
 have hd0:(bT (dC bn d) 0).toS=(bT d 0).toS:=by
   rcases hd with⟨n,rfl,_⟩|⟨k,t,rfl,_⟩|⟨n,t,rfl,_⟩
   . rw[x8]
   . rw[Dq];rfl
   . rw[Dr];rfl
 have he0:(bT (dC bn e) 0).toS=(bT e 0).toS:=by
   rcases he with⟨n,rfl,_⟩|⟨k,t,rfl,_⟩|⟨n,t,rfl,_⟩
   . rw[x8]
   . rw[Dq];rfl
   . rw[Dr];rfl
 rw[q,he0]at hd0;rcases hd with⟨n,rfl,_⟩|⟨k,t,rfl,hk,ht⟩|⟨n,t,rfl,_,ht⟩<;>rcases he with⟨m,rfl,_⟩|⟨j,s,rfl,hj,hs⟩|⟨m,s,rfl,_,hs⟩
 . rwa [x8,x8]at q
 . exact absurd (show("put":Str)="call" from hd0) Q.b
 . exact absurd (show("say":Str)="call" from hd0) Q.b
 . exact absurd (show("call":Str)="put" from hd0) Q.b
 . rw[Dq,Dq,M0 hk.1,M0 hj.1]at q;injection q with q;obtain⟨q1,q2⟩:=aBT (aBT q).2;injection q1 with q1;rw[Tf h (.inr hk) (.inr hj) q1,adp h ht hs (aBT q2).1]
 . exact absurd (show("say":Str)="put" from hd0) Q.b
 . exact absurd (show("call":Str)="say" from hd0) Q.b
 . exact absurd (show("put":Str)="say" from hd0) Q.b
 . rw[Dr,Dr]at q;injection q with q;obtain⟨q1,q2⟩:=aBT (aBT q).2;injection q1 with q1;rw[q1,adp h ht hs (aBT q2).1]
def auE(h:Q8 bn)(hn:Q8 ns)(hd:tL bn.length ns.length d)(he:tL bn.length ns.length e)(q:aC bn ns d=aC bn ns e):d=e:=by
 rcases hd with⟨w,k,rfl,_,hk⟩|⟨w,s,t,rfl,_,hs,ht⟩<;>rcases he with⟨v,j,rfl,_,hj⟩|⟨v,x,y,rfl,_,hx,hy⟩
 . have q:D.tup [.str w,.str (ns.getD k.toNat Str.empty)]=.tup [.str v,.str (ns.getD j.toNat Str.empty)]:=q;rw[M0 hk.1,M0 hj.1]at q;injection q with q;obtain⟨q1,q2⟩:=aBT q;injection q1 with q1;injection (aBT q2).1 with q3;rw[q1,Tf hn (.inr hk) (.inr hj) q3]
 . have q:D.tup [.str w,.str (ns.getD k.toNat Str.empty)]=.tup [.str v,tC bn x,tC bn y]:=q;injection q with q;cases (aBT (aBT q).2).2
 . have q:D.tup [.str w,tC bn s,tC bn t]=.tup [.str v,.str (ns.getD j.toNat Str.empty)]:=q;injection q with q;cases (aBT (aBT q).2).2
 . have q:D.tup [.str w,tC bn s,tC bn t]=.tup [.str v,tC bn x,tC bn y]:=q;injection q with q;obtain⟨q1,q2⟩:=aBT q;obtain⟨q3,q4⟩:=aBT q2;injection q1 with q1;rw[q1,adp h hs hx q3,adp h ht hy (aBT q4).1]
open Classical in
def unC(C:D->D)(qs:Ap)(d:D):D:=if h:∃q,q∈qs/\C q=d then Classical.choose h else .non
variable{qs:Ap}
def ZD(hi:∀q∈qs,∀q'∈qs,C q'=C q->q'=q){q:D}(hq:q∈qs):unC C qs (C q)=q:=by
 have h:∃q',q'∈qs/\C q'=C q:=⟨q,hq,rfl⟩;exact(dif_pos h).trans (hi q hq _ (aDG h).1 (aDG h).2)
def adq(hi:∀q∈qs,∀q'∈qs,C q'=C q->q'=q):T.lst (((qs.map C).filter fun _=>true).map fun d=>T.sh (unC C qs d))=.lst (qs.map T.sh):=by
 rw[dJ,aBL];exact congrArg T.lst (aCp fun q hq=>congrArg T.sh (ZD hi hq))
theorem B3(h:r.Ok bn ns):r.cn.kK=true:=by
 cases r with
 | bx n k=>rfl
 | md n k x st z=>rfl
 | io n w d=>
   rcases h.2.2 with⟨x,rfl,_⟩|⟨k,t,rfl,_,⟨_,_,rfl,_⟩⟩|⟨x,t,rfl,_,⟨_,_,rfl,_⟩⟩<;>rfl
 | wy n w=>
   have a:D.bY w.qs=true:=mh fun q hq=>by
     rcases h.2.q q hq with⟨x,k,rfl,_⟩|⟨x,s,t,rfl,_,⟨_,_,rfl,_⟩,⟨_,_,rfl,_⟩⟩<;>rfl
   have c:D.bY w.ds=true:=mh fun q hq=>by
     rcases h.2.d q hq with⟨x,rfl,_⟩|⟨k,t,rfl,_,⟨_,_,rfl,_⟩⟩|⟨x,t,rfl,_,⟨_,_,rfl,_⟩⟩<;>rfl
   show(true&&(D.bY w.qs&&(D.bY w.ds&&(true&&(true&&true)))))=true;rw[a,c];rfl
def RW.cd(bn ns:AT):RW->D
 | .bx n k=>.tup [.str n,.int k]
 | .md _ _ x st _=>.tup [.str x,.str st]
 | .io _ _ d=>dC bn d
 | .wy _ w=>.tup [.str w.sg,.lst (w.qs.map (aC bn ns)),.lst (w.ds.map (dC bn)),.str (LC ns w.tg),.str w.md]
theorem ar5(bn ns:AT)(r:RW):(r.ct bn ns).fj=r.cd bn ns:=by
 cases r with
 | bx n k=>rfl
 | md n k x st z=>rfl
 | io n w d=>rfl
 | wy n w=>
   show D.tup [_,(T.lst ((w.qs.map (aC bn ns)).map T.sh)).fj,(T.lst ((w.ds.map (dC bn)).map T.sh)).fj,_,_]=_;rw[di,di];rfl
def G3(bn ns:AT)(i:Int)(r:RW):(r.fm bn ns i).fj=.tup [.int i,.int r.bl,.str r.word,r.cd bn ns]:=by
 show D.tup [_,_,_,(r.ct bn ns).fj]=_;rw[ar5];rfl
def V5(hb:uF bn)(hn:uF ns)(h:r.Ok bn ns):(r.fm bn ns i).clean=true:=by
 show(true&&(true&&(true&&((r.ct bn ns).clean&&true))))=true;rw[MZ hb hn h];rfl
def V6{n:Str}{c:Int}(hn:dN n=true)(hc:¬ c=0):45∈(n++EV c++sI (c.natAbs:Int)).cps.toList↔c<0:=by
 rw[cV,cV,aBy,aBy,x6];constructor
 . intro q;rcases q with(q|q)|q
   . exact absurd q (Jl hn Q.c)
   . have:45=(if 0<c then 43 else 45):=aBB.mp q;split at this<;>omega
   . exact absurd q (ajb _ Q.c)
 . intro q;refine .inl (.inr (aBB.mpr ?_));rw[aBx Q.a]
def ajp{a c:Int}(ha:a.natAbs<10 ^ 30)(hc:c.natAbs<10 ^ 30)(h:sI a=sI c):a=c:=by
 have e:=MS ha;rw[h,MS hc]at e;exact(aBX e).symm
def ar6{q:LT}(hp:S9 p)(hq:S9 q)(h:p.tt=q.tt):p.tn=q.tn/\p.c=q.c:=by
 have ea:decide (p.a=-1)=decide (q.a=-1):=by rw[← ZC hp,← ZC hq,h]
 unfold LT.tn;by_cases h1:p.a=-1
 . have h2:q.a=-1:=aBv (ea▸aBH h1);rw[aBE h1,aBE h2];unfold LT.tt trL at h;rw[aBE h1,aBE h2]at h;exact⟨rfl,ajp hp.c hq.c h⟩
 . have h2:¬ q.a=-1:=aBG (ea▸aBS h1);rw[aBx h1,aBx h2];unfold LT.tt trL at h;rw[aBx h1,aBx h2]at h;have sg:∀{n m:Str} {c:Int},dN n=true->¬ c=0->n++EV c++sI (c.natAbs:Int)=m->dN m=true->False:=fun {n m c} hn hc e hm=>by
     have:(if 0<c then 43 else 45)∈m.cps.toList:=by
       rw[← e,cV,cV,x6];exact aBN _ (aBw _ (aBB.mpr rfl))
     exact absurd this (Jl hm (by split<;>decide))
   by_cases c1:p.c=0
   . rw[aBE c1]at h;by_cases c2:q.c=0
     . rw[aBE c2]at h;exact⟨h,by rw[c1,c2]⟩
     . rw[aBx c2]at h;exact(sg hq.n0 c2 h.symm hp.n0).elim
   . rw[aBx c1]at h;by_cases c2:q.c=0
     . rw[aBE c2]at h;exact(sg hp.n0 c1 h hq.n0).elim
     . rw[aBx c2]at h;have m1:=V6 hp.n0 c1;have m2:=V6 hq.n0 c2;rw[h,m2]at m1;have es:(if 0<p.c then 43 else 45)=(if 0<q.c then 43 else 45):=by
         by_cases z:p.c<0
         . have:=m1.mpr z;rw[aBx Q.a,aBx Q.a]
         . have:¬ q.c<0:=fun y=>z (m1.mp y);rw[aBE Q.a,aBE Q.a]
       have hl:=congrArg (fun s:Str=>s.cps.toList) h;simp only[cV,x6,es,aBA]at hl;obtain⟨e1,e2⟩:=S8 (Jl hp.n0 (by split<;>decide)) (Jl hq.n0 (by split<;>decide)) hl;have ec:=ajp (by rw[aDm];exact hp.c) (by rw[aDm];exact hq.c) (tN e2);refine⟨tN e1,?_⟩;omega
def Tg(hb:uF bn)(hd:iF bn.length d)(he:iF bn.length e)(h:dO bn d=dO bn e):tC bn d=tC bn e:=by
 obtain⟨p,hp,p1,p2⟩:=MY hb hd;obtain⟨q,hq,q1,q2⟩:=MY hb he;obtain⟨e1,e2⟩:=ar6 hp hq (by rw[p1,q1,h]);rw[← p2,← q2,e1,e2]
def ar7(hb:uF bn)(hd:J8 bn.length d)(he:J8 bn.length e)(h:dW bn d=dW bn e):dC bn d=dC bn e:=by
 rcases Af hb hd with⟨n,_,w1,c1⟩|⟨w,n,t,_,_,ht,w1,c1⟩
 . rcases Af hb he with⟨m,_,w2,c2⟩|⟨v,m,s,_,_,hs,w2,c2⟩
   . rw[w1,w2]at h;have:=(aBT (aBT h).2).1;rw[c1,c2,this]
   . rw[w1,w2]at h;cases (aBT (aBT h).2).2
 . rcases Af hb he with⟨m,_,w2,c2⟩|⟨v,m,s,_,_,hs,w2,c2⟩
   . rw[w1,w2]at h;cases (aBT (aBT h).2).2
   . rw[w1,w2]at h;obtain⟨e1,h⟩:=aBT h;obtain⟨e2,h⟩:=aBT h;rw[c1,c2,e1,e2,Tg hb ht hs (aBT h).1]
def ar8(hb:uF bn)(hd:tL bn.length nm d)(he:tL bn.length nm e)(h:aW bn ns d=aW bn ns e):aC bn ns d=aC bn ns e:=by
 rcases hd with⟨w,k,rfl,_⟩|⟨w,s,t,rfl,_,hs,ht⟩
 . rcases he with⟨v,j,rfl,_⟩|⟨v,x,y,rfl,_,hx,hy⟩
   . have h:[w,ns.getD k.toNat Str.empty]=[v,ns.getD j.toNat Str.empty]:=h;obtain⟨e1,h⟩:=aBT h;show D.tup [.str w,.str (ns.getD k.toNat Str.empty)]=.tup [.str v,.str (ns.getD j.toNat Str.empty)];rw[e1,(aBT h).1]
   . cases (aBT (aBT h).2).2
 . rcases he with⟨v,j,rfl,_⟩|⟨v,x,y,rfl,_,hx,hy⟩
   . cases (aBT (aBT h).2).2
   . have h:[dO bn s,w,dO bn t]=[dO bn x,v,dO bn y]:=h;obtain⟨e1,h⟩:=aBT h;obtain⟨e2,h⟩:=aBT h;show D.tup [.str w,tC bn s,tC bn t]=.tup [.str v,tC bn x,tC bn y];rw[e2,Tg hb hs hx e1,Tg hb ht hy (aBT h).1]
def ZE:List (Str×AT):=[("on",["if","do","to"]),("if",["and","do","to"]),("and",["and","do","to"]),("do",["then","to"]),("then",["then","to"]),("to",[])]
def fk:AT:=["on","if","and","do","then","to"]
theorem ads{x:Str}:∀(l:List (Str×AT)),(l.lookup x).isSome=decide (x∈l.map (·.1))
 | []=>rfl
 | (y,v)::l=>by
   rw[aCd,aBK];by_cases h:x=y
   . subst h;rw[aDe,aBH (aBr)];rfl
   . rw[aCR.mpr h];show(l.lookup x).isSome=_;rw[ads l];apply decide_eq_decide.mpr;rw[aBq];exact⟨.inr,fun z=>z.resolve_left h⟩
def ajq(x:Str):(ZE.lookup x).isSome=decide (x∈fk):=ads ZE
def pS(l:DO)(x:Str):DO:=if x∈fk then l++[[x]] else l.set (l.length-1) (l.getD (l.length-1) []++[x])
def Prt(p:AT):Prop:=∃f l,p=f::l/\f∈fk/\∀x∈l,x∉fk
theorem adt:∀(l:AT) (ps:DO) (a:AT),(∀x∈l,x∉fk)->l.foldl pS (ps++[a])=ps++[a++l]
 | [],ps,a,_=>by rw[aBW];rfl
 | x::l,ps,a,h=>by
   have e:pS (ps++[a]) x=ps++[a++[x]]:=by
     unfold pS;rw[aBx (h x aBr)];have hl:(ps++[a]).length-1=ps.length:=by rw[aBz,aBV];omega
     rw[hl,aBs,aCA (aBD _),aDl,List.set_append_right _ _ (aBD _),aDl];rfl
   rw[aCf,e,adt l ps (a++[x]) fun y hy=>h y (aBt _ hy),aBA];rfl
theorem ajr:∀(ps qs:DO),(∀p∈ps,Prt p)->ps.flatten.foldl pS qs=qs++ps
 | [],qs,_=>by rw[aBW];rfl
 | p::ps,qs,h=>by
   obtain⟨f,l,rfl,hf,hl⟩:=h p aBr;rw[aCQ,aCt,aCf];have e:pS qs f=qs++[[f]]:=aBE hf;rw[e,adt l qs [f] hl,ajr ps _ fun q hq=>h q (aBt _ hq),aBA];rfl
def ar9(l:DO)(x:Str):l.length<=(pS l x).length/\(pS l x).length<=l.length+1:=by
 unfold pS;split
 . rw[aBz,aBV];omega
 . rw[aCU];omega
theorem ZF:∀(ws:AT) (l:DO),l.length<=(ws.foldl pS l).length/\(ws.foldl pS l).length<=l.length+ws.length
 | [],l=>⟨aBD _,aBD _⟩
 | x::ws,l=>by
   have a:=ar9 l x;have c:=ZF ws (pS l x);rw[aCf,aBP];omega
theorem ajs:∀(ws:AT) (l:DO) (n:Nat),(∀p∈l,p.length<=n)->∀p∈ws.foldl pS l,p.length<=n+ws.length
 | [],l,n,h=>h
 | x::ws,l,n,h=>fun p hp=>by
   rw[aCf]at hp;have:=ajs ws (pS l x) (n+1) (fun q hq=>by
     unfold pS at hq;split at hq
     . rcases aBy.mp hq with hq|hq
       . exact aCk (h q hq)
       . cases aBB.mp hq;exact aDU _ _
     . rcases aCX hq with hq|rfl
       . exact aCk (h q hq)
       . rw[aBz,aBV,aBs];cases e:l[l.length-1]? with
         | none=>exact aDU _ _
         | some y=>exact aDL (h y (aBQ e))) p hp
   rw[aBP];omega
def apm{x:Str}{c:Nat}(h:c∈x.cps.toList)(hc:c<97):x∉fk:=fun z=>by
 have:∀y∈fk,∀c∈y.cps.toList,97<=c:=Q.f;have:=this x z c h;omega
def Q9{x:Str}(h:dN x=true):x∉fk:=fun z=>by
 have e:∀y∈fk,dN y=false:=Q.f;rw[e x z]at h;cases h
def ZG(hb:uF bn)(h:iF bn.length d):dO bn d∉fk:=by
 have num:∀k:Int,sI k∉fk:=fun k=>by
   have hs:=EY k;have hne:(sI k).cps.toList≠[]:=by
     by_cases h0:k<0
     . rw[Lz h0];exact aCy _ _
     . obtain⟨m,rfl⟩:=aDy (show 0<=k by omega);exact adj m
   cases e:(sI k).cps.toList with
   | nil=>exact absurd e hne
   | cons c l=>
     have hc:c∈(sI k).cps.toList:=by rw[e];exact aBr
     have:=hs c hc;exact apm hc Q.a
 obtain⟨a,k,rfl,hk,⟨_,e⟩|⟨_,hn,e⟩⟩:=GZ hb h
 . rw[e];exact num k
 . rw[e];unfold trL;rw[aBx (show ¬ (0:Int)=-1 by decide)];split
   . exact Q9 hn
   . refine apm (c:=if 0<k then 43 else 45) ?_ (by split<;>decide);rw[cV,cV,x6];exact aBN _ (aBw _ (aBB.mpr rfl))
def ajt(hb:uF bn)(h:J8 bn.length d):∀x∈dW bn d,x∉fk:=by
 intro x hx;rcases Af hb h with⟨n,hn,e,_⟩|⟨w,n,t,hw,hn,ht,e,_⟩
 . rw[e]at hx;simp only[aBq,aBJ,aCg]at hx;rcases hx with rfl|rfl
   . decide +kernel
   . exact Q9 hn
 . rw[e]at hx;simp only[aBq,aBJ,aCg]at hx hw;rcases hx with rfl|rfl|rfl
   . rcases hw with rfl|rfl<;>decide +kernel
   . exact Q9 hn
   . exact ZG hb ht
def anE(hb:uF bn)(hn:uF ns)(h:tL bn.length ns.length d):∀x∈aW bn ns d,x∉fk:=by
 intro x hx;rcases h with⟨w,k,rfl,hw,hk⟩|⟨w,s,t,rfl,hw,hs,ht⟩
 . have hx:x∈[w,ns.getD k.toNat Str.empty]:=hx;simp only[aBq,aBJ,aCg]at hx;rcases hx with rfl|rfl
   . rcases hw with rfl|rfl<;>decide +kernel
   . exact Q9 (kh hn hk.1 hk.2)
 . have hx:x∈[dO bn s,w,dO bn t]:=hx;simp only[aBq,aBJ,aCg]at hx hw;rcases hx with rfl|rfl|rfl
   . exact ZG hb hs
   . rcases hw with rfl|rfl|rfl|rfl<;>decide +kernel
   . exact ZG hb ht
section
variable(hb:uF bn)(hn:uF ns)(h:WyN bn.length ns.length w)
include hb hn h
def aju:∀p∈wP bn ns w,Prt p:=by
 intro p hp;rcases aBq.mp hp with rfl|hp
 . refine⟨_,_,rfl,Wl,fun x hx=>?_⟩;cases aBB.mp hx;exact Q9 h.s
 rcases aBy.mp hp with hp|hp
 . rcases aBy.mp hp with hp|hp
   . obtain⟨x,hx,e⟩:=Ae hp;obtain⟨d,hd,rfl⟩:=aBI.mp hx;have:=anE hb hn (h.q d hd);rcases e with rfl|rfl
     . exact⟨_,_,rfl,Wl,this⟩
     . exact⟨_,_,rfl,Wl,this⟩
   . obtain⟨x,hx,e⟩:=Ae hp;obtain⟨d,hd,rfl⟩:=aBI.mp hx;have:=ajt hb (h.d d hd);rcases e with rfl|rfl
     . exact⟨_,_,rfl,Wl,this⟩
     . exact⟨_,_,rfl,Wl,this⟩
 . unfold YK at hp;split at hp
   . cases hp
   . rename_i hz;cases aBB.mp hp;rcases h.t with⟨z,_⟩|⟨ht,hm⟩
     . exact absurd z hz
     refine⟨_,_,rfl,Wl,fun x hx=>?_⟩;rcases aBq.mp hx with rfl|hx
     . exact Q9 (kh hn ht.1 ht.2)
     . unfold Ql at hx;split at hx
       . cases hx
       . cases aBB.mp hx;simp only[aBq,aBJ,aCg]at hm;rcases hm with e|e|e<;>rw[e]<;>decide +kernel
end
def Cr(p:AT):Str:=p.getD 0 Str.empty
def M3(x:Str):AT:=(ZE.lookup x).getD []
def Qn:Str->AT->Prop
 | _,[]=>True
 | x,y::l=>y∈M3 x/\Qn y l
theorem ajv:∀{l:AT} {x:Str},Qn x l->∀j y,l[j]? = some y->y∈M3 ((x::l).getD j Str.empty)
 | z::l,x,h,0,y,e=>by
   cases e;exact h.1
 | z::l,x,h,j+1,y,e=>ajv (l:=l) h.2 j y e
theorem adu{f g:Str}{t:AT}(hf:g∈M3 f)(hg:g∈M3 g)(ht:∀x∈([f,g]:AT),Qn x t):∀k,Qn f (List.replicate k g++t)
 | 0=>ht f Uf
 | k+1=>⟨hf,adu hg hg (fun x hx=>ht x (by
     simp only[aBq,aBJ,aCg]at hx ⊢;rcases hx with rfl|rfl<;>exact .inr rfl)) k⟩
theorem ajw(f g:Str)(l:DO):(lk f g l).map Cr=if l=[] then [] else f::List.replicate (l.length-1) g:=by
 cases l with
 | nil=>rfl
 | cons t r=>
   rw[aBx (aCy _ _),lk,aBK,aBL];show f::r.map (fun _=>g)=_;rw[List.map_const'];rfl
def ajx{l:DO}{t:AT}{x:Str}(h0:Qn x t)(hx:f∈M3 x)(hf:g∈M3 f)(hg:g∈M3 g)(ht:∀y∈([f,g]:AT),Qn y t):Qn x ((lk f g l).map Cr++t):=by
 rw[ajw];split
 . exact h0
 . exact⟨hx,adu hf hg ht _⟩
def asa(bn ns:AT)(w:WY):Qn "on" ((lk "if" "and" (w.qs.map (aW bn ns))++lk "do" "then" (w.ds.map (dW bn))++YK ns w).map Cr):=by
 have ht:∀x∈(["on","if","and","do","then"]:AT),Qn x ((YK ns w).map Cr):=fun x hx=>by
   have e:∀x∈(["on","if","and","do","then"]:AT),("to":Str)∈M3 x:=Q.f;unfold YK;split
   . trivial
   . exact⟨e x hx,trivial⟩
 have hd:∀x∈(["on","if","and"]:AT),Qn x ((lk "do" "then" (w.ds.map (dW bn))).map Cr++(YK ns w).map Cr):=fun x hx=>by
   have e:∀x∈(["on","if","and"]:AT),("do":Str)∈M3 x/\x∈(["on","if","and","do","then"]:AT):=Q.f;exact ajx (ht x (e x hx).2) (e x hx).1 Q.b Q.b fun y hy=>ht y (by
     simp only[aBq,aBJ,aCg]at hy;rcases hy with rfl|rfl<;>decide +kernel)
 rw[aBF,aBF,aBA];exact ajx (hd _ Q.b) Q.b Q.b Q.b fun y hy=>hd y (by
   simp only[aBq,aBJ,aCg]at hy;rcases hy with rfl|rfl<;>decide +kernel)
def Ra{q:Str->Bool}{z:Bool}(hf:q f=z)(hg:q g=z)(l:DO):(lk f g l).filter (fun p=>q (Cr p))=if z then lk f g l else []:=by
 have:∀p∈lk f g l,q (Cr p)=z:=fun p hp=>by
   obtain⟨x,_,rfl|rfl⟩:=Ae hp
   . exact hf
   . exact hg
 cases z with
 | true=>exact List.filter_eq_self.mpr this
 | false=>exact aDk.mpr fun p hp=>by rw[this p hp];exact aBM
def ajy(bn ns:AT)(w:WY){q:Str->Bool}{z y:Bool}(h1:q "on" = false)(h2:q "to" = false)(h3:q "if" = z)(h4:q "and" = z)(h5:q "do" = y)(h6:q "then" = y):(wP bn ns w).filter (fun p=>q (Cr p))=(if z then lk "if" "and" (w.qs.map (aW bn ns)) else [])++if y then lk "do" "then" (w.ds.map (dW bn)) else []:=by
 have no:∀{p:AT} (l:DO),q (Cr p)=false->(p::l).filter (fun p=>q (Cr p))=l.filter (fun p=>q (Cr p)):=fun l h=>aD8 (p:=fun p=>q (Cr p)) (by rw[h];exact aBM);have t:(YK ns w).filter (fun p=>q (Cr p))=[]:=by
   unfold YK;split
   . rfl
   . exact no [] h2
 unfold wP;rw[no (p:=[("on":Str),w.sg]) _ h1,aCM,aCM,Ra h3 h4,Ra h5 h6,t,aBW]
def apn(bn ns:AT)(w:WY):(wP bn ns w).filter (fun p=>decide (Cr p∈(["if","and"]:AT)))=lk "if" "and" (w.qs.map (aW bn ns)):=by
 rw[ajy bn ns w (q:=fun x=>decide (x∈(["if","and"]:AT))) (z:=true) (y:=false) Q.b Q.b Q.b Q.b Q.b Q.b];exact aBW _
def apo(bn ns:AT)(w:WY):(wP bn ns w).filter (fun p=>decide (Cr p∈(["do","then"]:AT)))=lk "do" "then" (w.ds.map (dW bn)):=by
 rw[ajy bn ns w (q:=fun x=>decide (x∈(["do","then"]:AT))) (z:=false) (y:=true) Q.b Q.b Q.b Q.b Q.b Q.b];rfl
def CH.text(c:CH):Str:=Str.join "\n" (c.rows.map (RW.line c.bn c.ns))
structure xh(c:CH):Prop where
 ok:nF c
 n:Q8 c.ns
 b:Q8 c.bn
 pre:uO c.es
 deep:∀m:Int,0<=m->m<c.es.length->(eY c.es m).length<=12
 kinds:∀m:Nat,m<c.es.length->c.ks.getD m Str.empty∈(["leaf","one","all"]:AT)/\decide (c.ks.getD m Str.empty="leaf")=!decide ((m:Int)∈c.es)
 starts:∀m:Nat,m<c.es.length->(c.ks.getD m Str.empty≠"one" /\ c.ss.getD m 0=-1)\/(c.ks.getD m Str.empty="one" /\ MJ (c.ss.getD m 0) c.es.length=true/\c.es.getD (c.ss.getD m 0).toNat 0=m)
 is:∀l∈c.is,∀d∈l,J8 c.bn.length d
 os:∀l∈c.os,∀d∈l,J8 c.bn.length d
 wn:∀w∈c.ws,WyN c.bn.length c.ns.length w
 ws:c.ws.Pairwise fun a c=>a.src<=c.src
 tl:c.text.length<=sizeLine
 rl:c.rows.length<=4964
def CH.V7(c:CH):CI:=(List.range c.rows.length).map fun i=>(c.rows.getD i (.bx "" 0)).fm c.bn c.ns ((i:Nat)+1:Int)
def CH.fmD(c:CH):Ap:=(List.range c.rows.length).map fun i=>((c.rows.getD i (.bx "" 0)).fm c.bn c.ns ((i:Nat)+1:Int)).fj
def CH.M4(c:CH):Ap:=(List.range c.rows.length).map fun i=>(c.rows.getD i (.bx "" 0)).nf ((i:Nat)+1:Int)
def G4(es:BB):BB:=(List.range es.length).map fun(m:Nat)=>((eY es m).length:Int)
def zc:Cf:=[("leaf",0),("one",0),("all",0),("in",1),("out",2),("on",3)]
def stP(pw:Str)(mb:Int):RW->Prop
 | .bx _ _=>mb=-1
 | .md n k _ _ _=>k∈fM/\((mb=-1/\n=0)\/(mb ≠ -1/\1<=n/\(n:Int)<=mb+1))
 | .io n w _=>w∈(["in","out"]:AT)/\mb ≠ -1/\(n:Int)=mb/\∃a c,zc.lookup pw=some a/\zc.lookup w=some c/\a<=c
 | .wy n _=>mb ≠ -1/\(n:Int)=mb/\∃a,zc.lookup pw=some a/\a<=3
def rN(h:xh c):∀r∈c.rows,r.Ok c.bn c.ns:=by
 intro r hr;have hns:c.ns.length=c.es.length:=h.ok.nl;rcases aBy.mp hr with hr|hr
 . obtain⟨p,hp,rfl⟩:=aBI.mp hr;exact⟨h.b.n _ (aBI.mpr ⟨p,hp,rfl⟩),(h.ok.bk p hp).2⟩
 . obtain⟨m,hm,hr⟩:=List.mem_flatMap.mp hr;have hm:=aB5.mp hm;have hd:=h.deep m Q.a Q.a;have Jo:∀{l:Ch},c.is.length=c.es.length->∀d,d∈l.getD m []->∃x∈l,d∈x:=fun {l} _ d hd=>by
     rw[aBs]at hd;cases e:l[m]? with
     | none=>rw[e]at hd;cases hd
     | some x=>rw[e]at hd;exact⟨x,aBQ e,hd⟩
   rcases aBq.mp hr with rfl|hr
   . refine⟨We,(h.kinds m hm).1,h.n.n _ (GX Q.a),?_⟩;rcases h.starts m hm with⟨h1,h2⟩|⟨h1,h2,_⟩
     . exact .inr ⟨h1,aBx h1,h2⟩
     . refine .inl ⟨h1,?_,aBE h1⟩;unfold MJ at h2;rw[aB6,aCG,aCG]at h2;omega
   rcases aBy.mp hr with hr|hr
   . rcases aBy.mp hr with hr|hr
     . obtain⟨d,hdm,rfl⟩:=aBI.mp hr;obtain⟨x,hx,hd2⟩:=Jo h.ok.il d hdm;exact⟨We,Wl,h.is x hx d hd2⟩
     . obtain⟨d,hdm,rfl⟩:=aBI.mp hr;obtain⟨x,hx,hd2⟩:=Jo h.ok.il d hdm;exact⟨We,Wl,h.os x hx d hd2⟩
   . obtain⟨w,hw,rfl⟩:=aBI.mp hr;exact⟨We,h.wn w (aCF.mp hw).1⟩
def anF(h:nF c):c.rows≠[]:=fun z=>by
 have e0:=h.e0;have:=(aDC.mp z).2;rw[List.flatMap_eq_nil_iff]at this;cases this 0 (aB5.mpr e0)
def mbS(m:Int):RW->Int
 | .md n _ _ _ _=>n
 | _=>m
def U4:Str->Int->Dx->Prop
 | _,_,[]=>True
 | pw,mb,r::l=>stP pw mb r/\U4 r.word (mbS mb r) l
theorem ZH:∀{l:Dx} {pw:Str} {mb:Int},U4 pw mb l->∀j r,l[j]? = some r->stP (if j=0 then pw else(l.getD (j-1) (.bx "" 0)).word) ((l.take j).foldl mbS mb) r
 | r0::l,pw,mb,h,0,r,e=>by
   cases e;exact h.1
 | r0::l,pw,mb,h,j+1,r,e=>by
   have:=ZH h.2 j r e;rw[aBx (aCY j),aCE,List.take_succ_cons,aCf];cases j with
   | zero=>exact this
   | succ j=>
     rw[aBx (aCY j),aCE]at this;exact this
theorem ajz:∀{l:Cf} {pw:Str} {t:Dx},(∀x,U4 x (-1) t)->U4 pw (-1) (l.map (fun p=>.bx p.1 p.2)++t)
 | [],pw,t,h=>h pw
 | p::l,pw,t,h=>⟨rfl,ajz h⟩
theorem adv{n:Nat}{w:Str}{mb:Int}{c:Int}(hw:w∈(["in","out"]:AT))(hm:mb ≠ -1)(hn:(n:Int)=mb)(hc:zc.lookup w=some c):∀{l:Ap} {t:Dx},U4 w mb t->U4 w mb (l.map (RW.io n w)++t)
 | [],t,h=>h
 | d::l,t,h=>⟨⟨hw,hm,hn,c,c,hc,hc,Int.le_refl _⟩,adv hw hm hn hc h⟩
variable{mb:Int}
theorem ajA{w:Str}{a c:Int}(hw:w∈(["in","out"]:AT))(hm:mb ≠ -1)(hn:(n:Int)=mb)(hc:zc.lookup w=some c){l:Ap}{pw:Str}{t:Dx}(ha:zc.lookup pw=some a)(hac:a<=c)(h1:U4 pw mb t)(h2:U4 w mb t):U4 pw mb (l.map (RW.io n w)++t):=by
 cases l with
 | nil=>exact h1
 | cons d l=>exact⟨⟨hw,hm,hn,a,c,ha,hc,hac⟩,adv hw hm hn hc h2⟩
theorem ajB{n:Nat}{mb:Int}(hm:mb ≠ -1)(hn:(n:Int)=mb):∀{l:EM} {pw:Str} {t:Dx},(∃a,zc.lookup pw=some a/\a<=3)->(∀x,U4 x mb t)->U4 pw mb (l.map (RW.wy n)++t)
 | [],pw,t,_,h=>h pw
 | w::l,pw,t,ha,h=>⟨⟨hm,hn,ha⟩,ajB hm hn ⟨3,show zc.lookup ("on":Str)=some 3 by decide +kernel,Int.le_refl _⟩ h⟩
def asb(h:xh c)(hm:m<c.es.length){pw:Str}{t:Dx}(h1:(mb=-1/\(eY c.es m).length=0)\/(mb ≠ -1/\1<=(eY c.es m).length/\((eY c.es m).length:Int)<=mb+1))(ht:∀x,U4 x ((eY c.es m).length:Int) t):U4 pw mb (c.mr m++t):=by
 have hk:=(h.kinds m hm).1;have hk0:zc.lookup (c.ks.getD m Str.empty)=some 0:=by
   simp only[aBq,aBJ,aCg]at hk;rcases hk with e|e|e<;>rw[e]<;>decide +kernel
 have hm1:((eY c.es m).length:Int) ≠ -1:=by omega
 unfold CH.mr;rw[aB3,aBA,aBA];refine⟨⟨hk,h1⟩,?_⟩;show U4 (c.ks.getD m Str.empty) ((eY c.es m).length:Int) _;have hw:∀{pw:Str} {a:Int},zc.lookup pw=some a->a<=3->U4 pw ((eY c.es m).length:Int) ((c.ws.filter fun w=>decide (w.src=(m:Int))).map (RW.wy (eY c.es m).length)++t):=fun ha h3=>ajB hm1 rfl ⟨_,ha,h3⟩ ht;have ho:∀{pw:Str} {a:Int},zc.lookup pw=some a->a<=2->U4 pw ((eY c.es m).length:Int) ((c.os.getD m []).map (RW.io (eY c.es m).length "out")++((c.ws.filter fun w=>decide (w.src=(m:Int))).map (RW.wy (eY c.es m).length)++t)):=fun ha h2=>ajA (c:=2) Q.b hm1 rfl Q.b ha h2 (hw ha Q.a) (hw (a:=2) Q.b Q.c);exact ajA (c:=1) Q.b hm1 rfl Q.b hk0 Q.c (ho hk0 Q.c) (ho (a:=1) Q.b Q.c)
def ajC(h:uO es)(hm:m+1<es.length):1<=(eY es ((m+1:Nat):Int)).length/\(eY es ((m+1:Nat):Int)).length<=(eY es m).length+1:=by
 have hp:=h.2 m hm;have e:=MB h.1 (m:=((m+1:Nat):Int)) Q.a Q.a;rw[aCl]at e;generalize es.getD (m+1) 0=x at hp e;have hx:0<=x:=by
   rcases hp with z|z
   . omega
   . exact(Ls h.1 Q.a Q.a z).1
 rw[e,aBx Q.a,aBP];rcases hp with z|z
 . rw[z];omega
 . obtain⟨pre,ep,_⟩:=BL h.1 (m+1) (m:=(m:Int)) Q.a Q.a Q.a z;rw[ep,aBz,aBP];omega
def ch0(h:qe es)(h0:0<es.length):es.getD 0 0=-1/\eY es ((0:Nat):Int)=[]:=by
 have a:=h.at (k:=((0:Nat):Int)) Q.a Q.a;rw[aCl]at a;have e:es.getD 0 0=-1:=by omega
 have:=MB h (m:=((0:Nat):Int)) Q.a Q.a;rw[aCl,aBE e]at this;exact⟨e,this⟩
theorem V8{c:CH}(h:xh c):∀(k m:Nat),m+k=c.es.length->∀x,U4 x (if m=0 then -1 else((eY c.es ((m-1:Nat):Int)).length:Int)) ((List.range' m k).flatMap c.mr)
 | 0,m,e,x=>trivial
 | k+1,m,e,x=>by
   rw[List.range'_succ,aCz];refine asb h Q.a ?_ fun y=>?_
   . cases m with
     | zero=>exact .inl ⟨rfl,by rw[(ch0 h.pre.1 Q.a).2];rfl⟩
     | succ m=>
       rw[aBx (aCY m),aCE];have:=ajC h.pre (m:=m) Q.a;exact .inr ⟨We,this.1,We⟩
   . have:=V8 h k (m+1) Q.a y;rw[aBx (aCY m),aCE]at this;exact this
def V9(h:xh c):U4 "" (-1) c.rows:=by
 have:=V8 h c.es.length 0 (Nat.zero_add _);rw[aBE rfl,← List.range_eq_range']at this;exact ajz this
def z0:RW:=.bx "" 0
def idx(F:Nat->RW->D)(l:Dx):Ap:=(List.range l.length).map fun i=>F i (l.getD i (.bx "" 0))
def ajD(F:Nat->RW->D)(r:RW)(l:Dx):idx F (r::l)=F 0 r::idx (fun i=>F (i+1)) l:=by
 unfold idx;rw[aBP,List.range_succ_eq_map,aBK,aBL];rfl
theorem E2{p:D->Bool}{p':RW->Bool}{g:D->T}{g':RW->T}:∀(l:Dx) (F:Nat->RW->D),(∀i,∀r∈l,p (F i r)=p' r)->(∀i,∀r∈l,p' r=true->g (F i r)=g' r)->((idx F l).filter p).map g=(l.filter p').map g'
 | [],F,_,_=>rfl
 | r::l,F,h1,h2=>by
   have ih:=E2 l (fun i=>F (i+1)) (fun i q hq=>h1 (i+1) q (aBt _ hq)) (fun i q hq=>h2 (i+1) q (aBt _ hq));have a:=h1 0 r aBr;have c:=h2 0 r aBr;rw[ajD,List.filter_cons,List.filter_cons,a];cases e:p' r with
   | true=>rw[aBE rfl,aBE rfl,aBK,aBK,ih,c e]
   | false=>rw[aBx aBM,aBx aBM,ih]
def x9{F:Nat->RW->D}{l:Dx}(h:d∈idx F l):∃i r,i<l.length/\r∈l/\r=l.getD i (.bx "" 0)/\d=F i r:=by
 obtain⟨i,hi,rfl⟩:=aBI.mp h;have hi:=aB5.mp hi;refine⟨i,_,hi,?_,rfl,rfl⟩;rw[aBs,aBC hi];exact aDf _
def RW.isB:RW->Bool
 | .bx _ _=>true
 | _=>false
def RW.isM:RW->Bool
 | .md _ _ _ _ _=>true
 | _=>false
theorem ZI(h:r.Ok bn ns):decide (r.word="box")=r.isB:=by
 cases r with
 | bx n k=>exact aBH rfl
 | md n k x st z=>
   refine aBS fun e=>?_;have e:k="box":=e;have:=h.2.1;rw[e]at this;exact absurd this Q.b
 | io n w d=>
   refine aBS fun e=>?_;have e:w="box":=e;have:=h.2.1;rw[e]at this;exact absurd this Q.b
 | wy n w=>exact aBS (show ¬ ("on":Str)="box" by decide +kernel)
theorem G5(h:r.Ok bn ns):decide (r.word∈fM)=r.isM:=by
 cases r with
 | bx n k=>exact aBS (show ¬ ("box":Str)∈fM by decide +kernel)
 | md n k x st z=>exact aBH h.2.1
 | io n w d=>
   refine aBS fun e=>?_;have e:w∈fM:=e;have:=h.2.1;simp only[aBq,aBJ,aCg]at this;rcases this with rfl|rfl<;>exact absurd e Q.b
 | wy n w=>exact aBS (show ¬ ("on":Str)∈fM by decide +kernel)
def CH.md(c:CH)(m:Nat):RW:=.md (eY c.es m).length (c.ks.getD m Str.empty) (c.ns.getD m Str.empty) (if c.ks.getD m Str.empty="one" then c.ns.getD (c.ss.getD m 0).toNat Str.empty else "") (c.ss.getD m 0)
def ajE(c:CH):c.rows.filter RW.isB=c.br:=by
 unfold CH.rows;rw[aCM,List.filter_eq_self.mpr,aDk.mpr,aBW]
 . intro r hr;obtain⟨m,_,hr⟩:=List.mem_flatMap.mp hr;rcases aBq.mp hr with rfl|hr
   . exact aBM
   rcases aBy.mp hr with hr|hr
   . rcases aBy.mp hr with hr|hr
     . obtain⟨d,_,rfl⟩:=aBI.mp hr;exact aBM
     . obtain⟨d,_,rfl⟩:=aBI.mp hr;exact aBM
   . obtain⟨d,_,rfl⟩:=aBI.mp hr;exact aBM
 . intro r hr;obtain⟨p,_,rfl⟩:=aBI.mp hr;rfl
def LD{f:α->RW}{p:RW->Bool}(h:∀a,p (f a)=false)(l:List α):(l.map f).filter p=[]:=by
 rw[aDk];intro r hr;obtain⟨a,_,rfl⟩:=aBI.mp hr;rw[h];exact aBM
def ajF(c:CH):c.rows.filter RW.isM=(List.range c.es.length).map c.md:=by
 unfold CH.rows;have e:c.br.filter RW.isM=[]:=LD (fun _=>rfl) _;rw[aCM,e,aDa,List.filter_flatMap];have:∀m,(c.mr m).filter RW.isM=[c.md m]:=fun m=>by
   unfold CH.mr;rw[aD9 rfl,aCM,aCM,LD (fun _=>rfl),LD (fun _=>rfl),LD (fun _=>rfl)];rfl
 generalize List.range c.es.length=l
 induction l with
 | nil=>rfl
 | cons m l ih=>rw[aCz,ih,this,aBK];rfl
def G6{f:Str->α}(l:AT):(List.range l.length).map (fun m=>f (l.getD m Str.empty))=l.map f:=by
 refine aCP fun i=>?_;rw[aBR,aBR];by_cases h:i<l.length
 . rw[aB9 h,aBC h];show some (f (l.getD i Str.empty))=some (f l[i]);rw[aBs,aBC h];rfl
 . rw[aCs (by rw[aBO];omega),aCs Q.a];rfl
def adw(h:r.Ok bn ns):(r.nf i).kK=true:=by
 show(true&&(true&&(true&&(r.cn.kK&&true))))=true;rw[B3 h];rfl
def Rb(l:AT):(T.mz (Jm l)).clean=true:=by
 rw[T.clean];refine mh fun d hd=>?_;obtain⟨kv,hkv,rfl⟩:=aBI.mp hd;obtain⟨i,_,rfl⟩:=aBI.mp hkv;rfl
def gD(w:Str)(st:Ch):RW->Ch
 | .md _ _ _ _ _=>st++[[]]
 | .io _ v d=>if v=w then st.set (st.length-1) (st.getD (st.length-1) []++[d]) else st
 | _=>st
theorem ajG{w:Str}{n:Nat}:∀(l:Ap) (st:Ch) (a:Ap),(l.map (RW.io n w)).foldl (gD w) (st++[a])=st++[a++l]
 | [],st,a=>by rw[aBW];rfl
 | d::l,st,a=>by
   have e:gD w (st++[a]) (.io n w d)=st++[a++[d]]:=by
     show(if w=w then _ else _)=_;have hl:(st++[a]).length-1=st.length:=by rw[aBz,aBV];omega
     rw[aBE rfl,hl,aBs,aCA (aBD _),aDl,List.set_append_right _ _ (aBD _),aDl];rfl
   rw[aBK,aCf,e,ajG l st (a++[d]),aBA];rfl
theorem ajH{w v:Str}{n:Nat}(h:v≠w):∀(l:Ap) (st:Ch),(l.map (RW.io n v)).foldl (gD w) st=st
 | [],st=>rfl
 | d::l,st=>by
   rw[aBK,aCf];show(l.map (RW.io n v)).foldl (gD w) (if v=w then _ else st)=st;rw[aBx h];exact ajH h l st
theorem ajI{w:Str}{n:Nat}:∀(l:EM) (st:Ch),(l.map (RW.wy n)).foldl (gD w) st=st
 | [],st=>rfl
 | d::l,st=>ajI l st
theorem aps{w:Str}:∀(l:Cf) (st:Ch),(l.map fun p=>RW.bx p.1 p.2).foldl (gD w) st=st
 | [],st=>rfl
 | d::l,st=>aps l st
def CH.dl(c:CH)(b:Bool):Ch:=if b then c.is else c.os
theorem auH(c:CH)(b:Bool)(m:Nat)(st:Ch):(c.mr m).foldl (gD (if b then "in" else "out")) st=st++[(c.dl b).getD m []]:=by
 unfold CH.mr;rw[aCf,aCt,aCt];show((c.ws.filter _).map _).foldl _ (((c.os.getD m []).map _).foldl _ (((c.is.getD m []).map _).foldl _ (st++[[]])))=_;cases b with
 | true=>
   rw[aBE rfl,ajG,ajH (v:="out") Q.b,ajI];rfl
 | false=>
   rw[aBx aBM,ajH (v:="in") Q.b,ajG,ajI];rfl
theorem ajJ(c:CH)(b:Bool):∀n,((List.range n).flatMap c.mr).foldl (gD (if b then "in" else "out")) []=(List.range n).map fun m=>(c.dl b).getD m []
 | 0=>rfl
 | n+1=>by
   rw[aDb,aDd,aCt,ajJ c b n,aBF];rw[aCz,aDg,aBW,auH];rfl
def anG(h:nF c)(b:Bool):c.rows.foldl (gD (if b then "in" else "out")) []=c.dl b:=by
 unfold CH.rows CH.br;rw[aCt,aps,ajJ];have hl:(c.dl b).length=c.es.length:=by
   have a:=h.il;have d:=h.ow.n2;cases b with
   | true=>exact a
   | false=>exact d.trans a
 refine aCP fun i=>?_;rw[aBR];by_cases hi:i<c.es.length
 . rw[aB9 hi,aBC Q.a];show some ((c.dl b).getD i [])=_;rw[aBs,aBC Q.a];rfl
 . rw[aCs (by rw[aBO];omega),aCs Q.a];rfl
def gW(st:Ap×Int):RW->Ap×Int
 | .md _ _ _ _ _=>(st.1,st.2+1)
 | .wy _ w=>(st.1++[.tup [.int st.2,.str w.sg,.tup w.qs,.tup w.ds,.int w.tg,.str w.md]],st.2)
 | _=>st
theorem ajK{v:Str}{n:Nat}:∀(l:Ap) (st:Ap×Int),(l.map (RW.io n v)).foldl gW st=st
 | [],st=>rfl
 | d::l,st=>ajK l st
theorem apt:∀(l:Cf) (st:Ap×Int),(l.map fun p=>RW.bx p.1 p.2).foldl gW st=st
 | [],st=>rfl
 | d::l,st=>apt l st
theorem apu{n:Nat}{m:Int}:∀(l:EM) (st:Ap),(∀w∈l,w.src=m)->(l.map (RW.wy n)).foldl gW (st,m)=(st++l.map WY.d,m)
 | [],st,_=>by simp
 | w::l,st,h=>by
   rw[aBK,aCf];show(l.map (RW.wy n)).foldl gW (st++[.tup [.int m,.str w.sg,.tup w.qs,.tup w.ds,.int w.tg,.str w.md]],m)=_;rw[apu l _ fun x hx=>h x (aBt _ hx),aBK,aBA,← h w aBr];rfl
theorem ajL(c:CH):∀n:Nat,((List.range n).flatMap c.mr).foldl gW ([],-1)=(((List.range n).flatMap fun(m:Nat)=>c.ws.filter fun w=>decide (w.src=(m:Int))).map WY.d,(n:Int)-1)
 | 0=>rfl
 | n+1=>by
   rw[aDb,aDd,aCt,ajL c n,aDd,aBF];rw[aCz,aDg,aBW,aCz,aDg,aBW];unfold CH.mr;rw[aCf,aCt,aCt];show((c.ws.filter _).map _).foldl _ (((c.os.getD n []).map _).foldl _ (((c.is.getD n []).map _).foldl _ (_,(n:Int)-1+1)))=_;rw[ajK,ajK,show(n:Int)-1+1=(n:Int) by omega,apu _ _ (fun w hw=>aBv (aCF.mp hw).2)];congr 1;omega
theorem adx:∀(l:EM) (n:Int),(l.Pairwise fun a c=>a.src<=c.src)->(∀w∈l,w.src<=n)->l=(l.filter fun w=>decide (w.src<n))++l.filter fun w=>decide (w.src=n)
 | [],_,_,_=>rfl
 | w::l,n,hp,hb=>by
   obtain⟨h1,h2⟩:=List.pairwise_cons.mp hp;have hw:=hb w aBr;by_cases h:w.src<n
   . rw[aD9 (p:=fun w:WY=>decide (w.src<n)) (aBH h),aD8 (p:=fun w:WY=>decide (w.src=n)) (show ¬ decide (w.src=n)=true by rw[aBS Q.a];exact aBM),aB3,← adx l n h2 fun x hx=>hb x (aBt _ hx)]
   . have e:w.src=n:=by omega
     have a:(w::l).filter (fun w=>decide (w.src<n))=[]:=aDk.mpr fun x hx z=>by
       have z:=aBv z;rcases aBq.mp hx with rfl|hx
       . exact h z
       . have:=h1 x hx;omega
     have c:(w::l).filter (fun w=>decide (w.src=n))=w::l:=List.filter_eq_self.mpr fun x hx=>aBH (by
       rcases aBq.mp hx with rfl|hx
       . exact e
       . have:=h1 x hx;have:=hb x (aBt _ hx);omega)
     rw[a,c];rfl
theorem Wa:∀(n:Nat) (l:EM),(l.Pairwise fun a c=>a.src<=c.src)->(∀w∈l,0<=w.src/\w.src<n)->((List.range n).flatMap fun(m:Nat)=>l.filter fun w=>decide (w.src=(m:Int)))=l
 | 0,l,_,hb=>by
   cases l with
   | nil=>rfl
   | cons w l=>
     have:=hb w aBr;omega
 | n+1,l,hp,hb=>by
   have e:=adx l n hp fun w hw=>by
     have:=hb w hw;omega
   have ih:=Wa n (l.filter fun w=>decide (w.src<(n:Int))) (hp.filter _) fun w hw=>by
     obtain⟨h1,h2⟩:=aCF.mp hw;exact⟨(hb w h1).1,aBv h2⟩
   rw[aDb,aDd,aCz,aDg,aBW];refine Eq.trans (congrArg (· ++ _) ?_) e.symm;refine Eq.trans ?_ ih;have go:∀r:CU,(∀m∈r,m<n)->(r.flatMap fun(m:Nat)=>l.filter fun w=>decide (w.src=(m:Int)))=r.flatMap fun(m:Nat)=>(l.filter fun w=>decide (w.src<(n:Int))).filter fun w=>decide (w.src=(m:Int)):=fun r hr=>by
     induction r with
     | nil=>rfl
     | cons m r ih2=>
       rw[aCz,aCz,ih2 fun x hx=>hr x (aBt _ hx),List.filter_filter];congr 1;refine List.filter_congr fun w _=>?_;have:=hr m aBr;by_cases z:w.src=(m:Int)
       . rw[aBH z,aBH Q.a];rfl
       . rw[aBS z];rfl
   exact go _ fun m hm=>aB5.mp hm
def anH(h:xh c):(c.rows.foldl gW ([],-1)).1=c.ws.map WY.d:=by
 unfold CH.rows CH.br;rw[aCt,apt,ajL];show List.map WY.d _=_;rw[Wa _ _ h.ws fun w hw=>?_];have:=(h.ok.ow.ww w hw).sr;have:=h.ok.il;show 0<=w.src/\w.src<c.es.length;rw[← h.ok.il];exact(h.ok.ow.ww w hw).sr
theorem ajM{w:Str}:∀(l:Dx) (mb:Int) (st:Ch),(mb ≠ -1->0<st.length)->l.foldl mbS mb ≠ -1->0<(l.foldl (gD w) st).length
 | [],mb,st,h,z=>h z
 | r::l,mb,st,h,z=>by
   rw[aCf]at z ⊢;refine ajM l (mbS mb r) (gD w st r) ?_ z;cases r with
   | md n k x st2 y=>
     intro _;show 0<(st++[[]]).length;rw[aBz];exact Nat.succ_pos _
   | bx n k=>exact h
   | wy n v=>exact h
   | io n v d=>
     intro q;have:=h q;show 0<(if v=w then _ else st).length;split
     . rw[aCU];exact this
     . exact this
theorem ZJ{w:Str}:∀(l:Dx) (st:Ch),(l.foldl (gD w) st).length<=st.length+l.length
 | [],st=>aBD _
 | r::l,st=>by
   have:=ZJ (w:=w) l (gD w st r);have e:(gD w st r).length<=st.length+1:=by
     cases r with
     | md n k x st2 y=>
       show(st++[[]]).length<=_;rw[aBz];exact aBD _
     | bx n k=>exact aDi _
     | wy n v=>exact aDi _
     | io n v d=>
       show(if v=w then _ else st).length<=_;split
       . rw[aCU];exact aDi _
       . exact aDi _
   rw[aCf,aBP];omega
theorem ajN{w:Str}:∀(l:Dx) (st:Ch) (n:Nat),(∀p∈st,p.length<=n)->∀p∈l.foldl (gD w) st,p.length<=n+l.length
 | [],st,n,h=>h
 | r::l,st,n,h=>fun p hp=>by
   rw[aCf]at hp;have:=ajN l (gD w st r) (n+1) (fun q hq=>by
     cases r with
     | bx _ _=>exact aCk (h q hq)
     | wy _ _=>exact aCk (h q hq)
     | md _ _ _ _ _=>
       rcases aBy.mp hq with hq|hq
       . exact aCk (h q hq)
       . cases aBB.mp hq;exact aB0 _
     | io _ v d=>
       have hq:q∈(if v=w then st.set (st.length-1) (st.getD (st.length-1) []++[d]) else st):=hq;split at hq
       . rcases aCX hq with hq|rfl
         . exact aCk (h q hq)
         . rw[aBz,aBV,aBs];cases e:st[st.length-1]? with
           | none=>exact aDU _ _
           | some y=>exact aDL (h y (aBQ e))
       . exact aCk (h q hq)) p hp
   rw[aBP];omega
def tT(l:Ap):T:=.lst (l.map T.sh)
def anI(l:Ch):T.fj (.lst (l.map tT))=.lst (l.map .lst):=by
 rw[T.fj];congr 1
 induction l with
 | nil=>rfl
 | cons p l ih=>
   rw[aBK,T.ni,ih,aBK];congr 1;exact di _
def axN:D->Ap
 | .lst ds=>ds
 | _=>[]
def ajO(h:J8 nb d):d.kK=true:=by
 rcases h with⟨x,rfl,_⟩|⟨k,t,rfl,_,⟨_,_,rfl,_⟩⟩|⟨x,t,rfl,_,⟨_,_,rfl,_⟩⟩<;>rfl
theorem ajP:∀(l:Dx) (st:Ap×Int),(l.foldl gW st).1.length<=st.1.length+l.length
 | [],st=>aBD _
 | r::l,st=>by
   have:=ajP l (gW st r);have e:(gW st r).1.length<=st.1.length+1:=by
     cases r with
     | md n k x st2 y=>exact aDi _
     | bx n k=>exact aDi _
     | io n v d=>exact aDi _
     | wy n v=>
       show(st.1++[_]).length<=_;rw[aBz];exact aBD _
   rw[aCf,aBP];omega
seal L3.gw L3.TSv L3.bU L3.cL L3.xO L3.Vm L3.BAv
abbrev G7:=top 93
abbrev G8:=BB×Int
abbrev Rc:AT:=["script","k"]
def qh:G8->Ap:=fun(ns,j)=>[.lst (ns.map .int),.int j]
def qj:G8->Prop:=fun(ns,j)=>0<=j
def qk:G8->T:=fun(ns,j)=>(.sh (.int (ju ns j)):T)
structure afl(X:Cx)(CL:BA):Prop extends bB X where
 iW:Ln X 0 "script"
 l_k:Ln X 1 "k"
 bf:Gl X "len"
 bq:X.mg "len" = none
variable{X:Cx}{CL:BA}{b:Bx}
def afm(E:afl X CL) :
   lA X CL b G7 Rc qh qj qk:=by
 rintro⟨ns,j⟩ h;dsimp only [qj,qh,qk]at h ⊢;refine aS (Vo (aq E.l_k) (ak (Ez E.bq (aq E.iW) E.bf))).1 (fun hp=>?_) (fun hp=>?_)
 . have e:j<ns.length:=by simpa using of_decide_eq_true hp
   refine aH (aG (aI (aq E.iW) (aq E.l_k) (lF h e)) rfl) ?_;show T.sh _=T.sh (.int (ju ns j));rw[ju,aBE e]
 . have e:¬ j<ns.length:=by simpa using of_decide_eq_false hp
   refine aj (aH GF ?_);show T.sh _=T.sh (.int (ju ns j));rw[ju,aBx e]
def yb:FG Rc ["script","k"] ["len"] (au G7):=fG
abbrev Ti:=top 94
abbrev Tj:=BB×Int
abbrev ady:AT:=["elders","mood","found","at"]
def B4:Tj->Ap:=fun(es,m)=>[.lst (es.map .int),.int m]
def B5:Tj->Prop:=fun(es,m)=>qe es/\0<=m/\m<es.length/\es.length<=1000
def B6:Tj->T:=fun(es,m)=>(.lst (((eY es m).map .int).map T.sh):T)
structure anJ(X:Cx)(CL:BA):Prop extends bB X where
 bR:Ln X 0 "elders"
 bM:Ln X 1 "mood"
 aX:Ln X 2 "found"
 ajQ:Ln X 3 "at"
def anK(E:anJ X CL) :
   lA X CL b Ti ady B4 B5 B6:=by
 rintro⟨es,m⟩ h;dsimp only [B5,B4,B6]at h ⊢;obtain⟨ht,h0,h1,hlen⟩:=h;refine aD E.g E.aX (dM cj (aB0 _)) ?_;refine aD E.g E.ajQ (aG (aI (aq E.bR) (aq E.bM) (lF h0 h1)) rfl) ?_;have hm:=ht.at h0 h1;refine Si E.g (fun n δ=>∃(k:Int) (l:BB),δ=[some (.sh (.lst (es.map .int))),some (.sh (.int m)),some (.lst ((l.map .int).map T.sh)),some (.sh (.int k))] /\ -1<=k/\k<n/\k<es.length/\l++Gw n es k=eY es m/\l.length+n<=es.length+1) (es.length+1)
   ⟨es.getD m.toNat 0,[],rfl,hm.1,We,We,rfl,Uf⟩ ?_
 rintro n δ ⟨k,l,rfl,k0,k1,k2,k3,k4⟩;refine⟨_,_,(lC (aq E.ajQ) (ak (cS ai))).1,fun hp=>?_,fun hp=>?_⟩
 . have hk:¬ k=-1:=by simpa using hp
   have ha:=ht.at (k:=k) Q.a k2;cases n with
   | zero=>omega
   | succ n=>
     refine lz E.aX.1 rfl (v_ E.ajQ.1) rfl (by simp;omega) ?_;refine aD E.g E.ajQ (aG (aI (aq E.bR) (aq E.ajQ) (lF Q.a k2)) rfl) ?_;refine aj ⟨n,aC6 _,es.getD k.toNat 0,l++[k],?_,ha.1,We,We,?_,by simp;omega⟩
     . show [_,_,some (T.lst (((l.map D.int).map T.sh)++[T.sh (.int k)])),_]=_;simp
     . rw[← k3,Gw,aBx hk,aBA];rfl
 . have hk:k=-1:=by simpa using hp
   subst hk;have e:l=eY es m:=by
     rw[← k3];cases n with
     | zero=>rw[Gw,aBW]
     | succ n=>rw[Gw,aBE rfl,aBW]
   subst e;exact aH (vM E.aX.1) rfl
def Ag:FG ady ["elders","mood"] [] (au Ti):=fG
abbrev Ah:=top 98
abbrev Ai:=CC
abbrev Jp:AT:=["items","elders","item","last","roads"]
def pO:Ai->Ap:=fun l=>[.lst (l.map itD)]
def pP:Ai->Prop:=fun l=>l.length<=100
def pQ:Ai->T:=fun l=>(.lst (((aiF l).map .int).map T.sh):T)
structure Wb(X:Cx)(CL:BA):Prop extends bB X where
 uR:Ln X 0 "items"
 bR:Ln X 1 "elders"
 dR:Ln X 2 "item"
 nG:Ln X 3 "last"
 B7:Ln X 4 "roads"
 bf:Gl X "len"
 Tp:Gl X "_law_chain"
 bq:X.mg "len" = none
 anL:Fc X CL "_law_chain" 1 2 B4 B5 B6
def Wc(E:Wb X CL) :
   lA X CL b Ah Jp pO pP pQ:=by
 intro l h;dsimp only [pP,pO,pQ]at h ⊢;refine aD E.g E.bR (dM (bE (cS ai) cj) aK) ?_;refine j4 E.g E.dR (fun j δ=>∃o4 o5 o6,δ=[some (.sh (.lst (l.map itD))),some (.lst ((((l.take j).foldl tK [-1]).map .int).map T.sh)),o4,o5,o6])
   (cY (v_ E.uR.1)) ⟨_,_,_,rfl⟩ (fun j δ ⟨_,_,_,e⟩=>by subst e;exact aBu rfl) ?turn ?fin
 case turn=>
   rintro j d δ hj ⟨o4,o5,o6,rfl⟩;obtain⟨p,hp,rfl⟩:=ac4 hj;obtain⟨ht,hl⟩:=SG (l.take j) [-1] MK (aC6 0);have hm:=BR (l.take j);have htl:=List.length_take_le j l;have aAq:(l.take j).length<=l.length:=by rw[aCe];omega
   rw[aBV]at hl;show gw X CL b _ _ {nx:=fun δ=>∃o4 o5 o6,δ=[_,some (.lst ((((l.take (j+1)).foldl tK [-1]).map .int).map T.sh)),o4,o5,o6],rt:=_,bk:=_,ct:=_};rw[wZ hp,aCt];generalize (l.take j).foldl tK [-1]=es at ht hl ⊢;show gw X CL b _ _ {nx:=fun δ=>∃o4 o5 o6,δ=[_,some (.lst (((tK es p).map .int).map T.sh)),o4,o5,o6],rt:=_,bk:=_,ct:=_};refine aS (Vo (ak (dz (ay (aq E.dR) ai rfl) ai Q.c)) ai).1 (fun hq=>?_) (fun hq=>?_)
   . have hq:p.1 % 8<3:=aBv hq;obtain⟨k,hk⟩:∃k:Nat,es.length=k+1:=⟨es.length-1,We⟩;obtain⟨r1,r2,r3⟩:=z9 (k:=k) ht hk.symm;refine aD E.g E.nG (aF (tu (ak (bF (aBp ..) E.bq (vL E.bR.1) E.bf)) ai) (t2:=.sh (.int (k:Int))) (by rw[hk];congr 2;omega)) ?_;have hcl:(eY es (k:Int)).length<=es.length+1:=BO _ _ _;refine aD E.g E.B7 (EB (ds:=[.int (k:Int)]) (Dc:=(eY es (k:Int)).map .int) (bZ (ds:=[.int (k:Int)]) (dM (bE (v_ E.nG.1) cj) aK))
       (bZ (c_ (es,(k:Int)) E.anL E.Tp (ah (vL E.bR.1) (ah (aq E.nG) av)) (show qe es/\(0:Int)<=k/\(k:Int)<es.length/\es.length<=1000 from⟨ht,We,We,We⟩) (pA _))) rfl (j5 _) (aCj (bz (by rw[aBp,aBV];omega)))) ?_
     have er:([D.int (k:Int)]++(eY es (k:Int)).map D.int)=([(k:Int)]++eY es k).map D.int:=rfl;rw[er];refine Vu (fun δ=>δ=[some (.sh (.lst (l.map itD))),some (.lst ((es.map .int).map T.sh)),some (.sh (itD p)),some (.sh (.int k)),some (.lst (((cI es k).map .int).map T.sh))])
       (Ey (ak (bF (aBp ..) E.bq (vL E.B7.1) E.bf)) ai).1 (fun hp=>?_) (fun hp=>?_) ?_
     . have e:(12:Int)<(([(k:Int)]++eY es k).length:Nat):=aBv hp;refine aD E.g E.B7 (wW (vL E.B7.1) (j5 _) (nA ai) ny) (aj ?_);rw[Vw];unfold cI;rw[aBE e];rfl
     . have e:¬ (12:Int)<(([(k:Int)]++eY es k).length:Nat):=aBG hp;refine aj ?_;unfold cI;rw[aBx e];rfl
     rintro δ rfl;have est:((es.map D.int).map T.sh)++[T.sh (.int ((cI es k).getD (p.1 / 8 % ((cI es k).length:Nat)).toNat 0))]=((tK es p).map D.int).map T.sh:=by
       unfold tK;rw[aBE hq,hk,aCE,aBF,aBF];rfl
     generalize cI es k=rs at r1 r2 est ⊢;have b1:=aB2 (p.1 / 8) (b:=(rs.length:Nat)) Q.a;have b2:=aBZ (p.1 / 8) (b:=(rs.length:Nat)) Q.a;refine lz E.bR.1 rfl (aG (aI (vL E.B7.1) (ak (dz (ak (gu (ay (aq E.dR) ai rfl) ai ⟨Wp,Wp⟩)) (ak (bF (aBp ..) E.bq (vL E.B7.1) E.bf)) Q.a)) (lF b1 b2)) rfl) rfl (by rw[aBp,aBp];omega) (aj (aj ?_));rw[est];exact⟨_,_,_,rfl⟩
   . have hq:¬ p.1 % 8<3:=aBG hq;rw[tK,aBx hq];exact aj (aj ⟨_,_,_,rfl⟩)
 case fin=>
   rintro δ ⟨o4,o5,o6,rfl⟩;refine aH (vM E.bR.1) ?_;rw[aBp,aCv];rfl
def gI:FG Jp ["items"] ["len","_law_chain"] (au Ah):=fG
abbrev G9:=top 95
abbrev Hf:=Int×AT
abbrev Rf:AT:=["number","used","letters","words","more","name","rest"]
def uS:Hf->Ap:=fun(m,us)=>[.int m,.lst (us.map .str)]
def ql:Hf->Prop:=fun(m,us)=>0<=m/\m<100000000000000000000/\us.length<=100
def uT:Hf->T:=fun(m,us)=>(.sh (.str (oV m us)):T)
structure afn(X:Cx)(CL:BA):Prop extends bB X where
 xj:Ln X 0 "number"
 ajR:Ln X 1 "used"
 Hg:Ln X 2 "letters"
 aN:Ln X 3 "words"
 mG:Ln X 4 "more"
 cJ:Ln X 5 "name"
 yc:Ln X 6 "rest"
 jO:Gl X "range"
 bf:Gl X "len"
 jP:X.mg "range" = none
 bq:X.mg "len" = none
def afo(E:afn X CL) :
   lA X CL b G9 Rf uS ql uT:=by
 rintro⟨m,us⟩ h;dsimp only [ql,uS,uT]at h ⊢;obtain⟨h0,h1,h2⟩:=h;have auI:GR.length=36:=Q.f;refine aD E.g E.Hg b9 ?_;refine aD E.g E.aN (VF (l:=w19) az az Q.b (by rw[aB8];decide +kernel) Q.b aK) ?_;refine j4 E.g E.mG (fun j δ=>(∃o5 o6 o7,δ=[some (.sh (.int m)),some (.sh (.lst (us.map .str))),some (.sh (.str "abcdefghijklmnopqrstuvwxyz0123456789")),some (.lst ((w19.map .str).map T.sh)),o5,o6,o7])/\∀i,i<j->okB m us i=false)
   (tD E.jP (ak (mC (ak (bF (aBp ..) E.bq (aq E.ajR) E.bf)) ai)) Q.a E.jO) ⟨⟨_,_,_,rfl⟩,fun i hi=>absurd hi (Nat.not_lt_zero _)⟩ (fun j δ ⟨⟨_,_,_,e⟩,_⟩=>by subst e;exact aBu rfl) ?turn ?fin
 case turn=>
   rintro j d δ hj ⟨⟨o5,o6,o7,rfl⟩,hno⟩;obtain⟨rfl,E3⟩:=wV hj;rw[aDH];have E3:j<us.length+20:=by omega
   have b1:=aB2 (m+j) (show(26:Int)≠0 by decide);have b2:=aBZ (m+j) (show(0:Int)<26 by decide);refine aD E.g E.cJ (aF (R7 (aq E.Hg) (ak (dz (ak (mC (aq E.xj) (aq E.mG))) ai Q.c)) (by rw[aB8];decide +kernel) (by rw[aiv];exact Sh 0 b1 (by rw[auI];omega))) (t2:=.sh (.str (EH ((m+j) % 26)))) rfl) ?_;refine aD E.g E.yc (gu (ak (mC (aq E.xj) (aq E.mG))) ai ⟨Wp,Wp⟩) ?_;refine Si E.g (fun n δ=>∃(r:Int) (x:Str),δ=[some (.sh (.int m)),some (.sh (.lst (us.map .str))),some (.sh (.str "abcdefghijklmnopqrstuvwxyz0123456789")),some (.lst ((w19.map .str).map T.sh)),some (.sh (.int j)),some (.sh (.str x)),some (.sh (.int r))]/\0<=r/\r<36 ^ n/\x.length+n<=21/\tlF n r x=xY (m+j)) 20
     ⟨_,_,rfl,We,by rw[show(36:Int) ^ 20=13367494538843734067838845976576 by decide +kernel];omega,aBD _,rfl⟩ ?_
   rintro n δ ⟨r,x,rfl,r0,r1,x1,hx⟩;refine⟨_,_,(Ey (aq E.yc) ai).1,fun hp=>?_,fun hp=>?_⟩
   . have hp:0<r:=aBv hp;cases n with
     | zero=>
       have:r<1:=r1;omega
     | succ n=>
       have c1:=aB2 r (show(36:Int)≠0 by decide);have c2:=aBZ r (show(0:Int)<36 by decide);refine aD E.g E.cJ (oY (aq E.cJ) (ak (aF (R7 (aq E.Hg) (ak (dz (aq E.yc) ai Q.c)) (by rw[aB8];decide +kernel) (by rw[aiv];exact Sh 0 c1 (by rw[auI];omega))) (t2:=.sh (.str (EH (r % 36)))) rfl)) (by rw[aB8];show x.length+1<=_;omega)) ?_;refine aD E.g E.yc (gu (aq E.yc) ai ⟨Wp,Wp⟩) ?_;refine aj ⟨n,aC6 _,r / 36,x++EH (r % 36),rfl,Int.ediv_nonneg r0 Q.c,Int.ediv_lt_of_lt_mul Q.c (by rw[← Int.pow_succ];exact r1),?_,?_⟩
       . rw[str_len];show x.length+1+n<=21;omega
       . rw[← hx,tlF,aBE hp]
   . have hp:¬ 0<r:=aBG hp;rw[ani n x hp]at hx;subst hx;refine aS (jg (gy (EC (aq E.cJ) (aq E.ajR) rfl rfl).1 (fun hb=>(nj (EC (aq E.cJ) (vL E.aN.1) rfl rfl).1)))) (fun hq=>?_) (fun hq=>aj (aj ⟨⟨_,_,_,rfl⟩,fun i hi=>?_⟩))
     . refine aH (v_ E.cJ.1) ?_;show T.sh _=T.sh (.str (oV m us));rw[aiD E3 hno hq]
     . rcases Nat.lt_succ_iff_lt_or_eq.mp hi with h|rfl
       . exact hno i h
       . exact hq
 case fin=>
   rintro δ ⟨⟨o5,o6,o7,rfl⟩,hno⟩;refine aH b9 ?_;have e:(gH 0 ((us.length:Int)+20).toNat).length=us.length+20:=by
     rw[gH,aBp,aBO];omega
   rw[e]at hno;show T.sh _=T.sh (.str (oV m us));rw[aiE hno]
def iG:FG Rf ["number","used"] ["range","len"] (au G9):=fG
abbrev Ds:=top 96
abbrev Dt:=BB×Nat
abbrev M5:AT:=["script","many","base","step","found","k"]
def rO:Dt->Ap:=fun(s,n)=>[.lst (s.map .int),.int n]
def rP:Dt->Prop:=fun(s,n)=>n<=100
def rQ:Dt->T:=fun(s,n)=>(.lst (((anj s n).map .str).map T.sh):T)
structure ZK(X:Cx)(CL:BA):Prop extends bB X where
 iW:Ln X 0 "script"
 jI:Ln X 1 "many"
 ajS:Ln X 2 "base"
 ajT:Ln X 3 "step"
 aX:Ln X 4 "found"
 l_k:Ln X 5 "k"
 nI:Gl X "_law_cell_at"
 jO:Gl X "range"
 M6:Gl X "_law_name_by"
 sQ:Fc X CL "_law_cell_at" 1 2 qh qj qk
 jP:X.mg "range" = none
 afp:Fc X CL "_law_name_by" 1 2 uS ql uT
def ZL(E:ZK X CL) :
   lA X CL b Ds M5 rO rP rQ:=by
 rintro⟨s,n⟩ h;dsimp only [rP,rO,rQ]at h ⊢;have e0:=aB2 (ju s 1) (show(5:Int)≠0 by decide);have e1:=aBZ (ju s 1) (show(0:Int)<5 by decide);have b0:=aB2 (ju s 0) (show(26*36 ^ (10:Int).toNat:Int)≠0 by decide +kernel);have b1:=aBZ (ju s 0) (show(0:Int)<26*36 ^ (10:Int).toNat by decide +kernel);have b2:(26*36 ^ (10:Int).toNat:Int)<=100000000000000000:=Q.f;have st:=VN s;refine aD E.g E.ajS (dz (ak (c_ ((s,0)) E.sQ E.nI (ah (aq E.iW) (ah ai av)) (show(0:Int)<=0 by omega) rfl)) (ak (R5 ai (ak (R6 ai ai ⟨Wp,Wp,Wp⟩)) (.inl ⟨Wp,Wp⟩))) Q.b) ?_;refine aD E.g E.ajT (aF (aG (aI (ds:=([1,26,936,33696,1213056]:BB).map .int) (bZ (pN (acV rfl) aK)) (ak (dz (ak (c_ ((s,1)) E.sQ E.nI (ah (aq E.iW) (ah ai av)) (show(0:Int)<=1 by omega) rfl)) ai Q.c)) (lF e0 e1)) rfl) (t2:=.sh (.int (QZ s))) rfl) ?_;unfold anj;generalize ju s 0 % (26*36 ^ (10:Int).toNat)=c at b0 b1 ⊢;generalize QZ s=sp at st ⊢;refine aD E.g E.aX (dM cj (aB0 _)) ?_;refine j4 E.g E.l_k (fun j δ=>∃o,δ=[some (.sh (.lst (s.map .int))),some (.sh (.int n)),some (.sh (.int c)),some (.sh (.int sp)),some (.lst (((z8 c sp j).map .str).map T.sh)),o])
   (tD E.jP (aq E.jI) Q.a E.jO) ⟨_,rfl⟩ (fun j δ ⟨_,e⟩=>by subst e;exact aBu rfl) ?turn ?fin
 case turn=>
   rintro j d δ hj ⟨o,rfl⟩;obtain⟨rfl,E3⟩:=wV hj;rw[aDH];have hnl:=EJ c sp j;have hk:0<=(j:Int)*sp/\(j:Int)*sp<=1000*1213056:=⟨Int.mul_nonneg Q.a st.1,Int.mul_le_mul Q.a st.2 st.1 Q.c⟩;have en:((z8 c sp j).map D.str).map T.sh++[T.sh (.str (oV (c+j*sp) (z8 c sp j)))]=((z8 c sp (j+1)).map D.str).map T.sh:=by
     rw[z8,aBF,aBF];rfl
   refine lz E.aX.1 rfl (aF (c_ ((c+j*sp,z8 c sp j)) E.afp E.M6 (ah (ak (mC (aq E.ajS) (ak (R5 (aq E.l_k) (aq E.ajT) (.inl ⟨We,We⟩))))) (ah (vL E.aX.1) av)) (by dsimp only [ql];exact(⟨We,We,We⟩)) rfl) (t2:=.sh (.str (oV (c+j*sp) (z8 c sp j)))) rfl) rfl (by rw[List.length_map,List.length_map];omega) (aj ?_);rw[en];exact⟨_,rfl⟩
 case fin=>
   rintro δ ⟨o,rfl⟩;have e:(gH 0 (n:Int).toNat).length=n:=by
     rw[gH,aBp,aBO];omega
   rw[e];exact aH (vM E.aX.1) rfl
def fQ:FG M5 ["script","many"] ["_law_cell_at","range","_law_name_by"] (au Ds):=fG
abbrev yd:=top 103
abbrev Du:=BB×BB
abbrev M7:AT:=["elders","cells","kinds","starts","mood","near","start"]
def rR:Du->Ap:=fun(es,cs)=>[.lst (es.map .int),.lst (cs.map .int)]
def nJ:Du->Prop:=fun(es,cs)=>es.length<=100/\cs.length=es.length
def rS:Du->T:=fun(es,cs)=>(.lst [.lst (((iD es cs es.length).map .str).map T.sh),.lst (((iE es cs es.length).map .int).map T.sh)]:T)
structure ZM(X:Cx)(CL:BA):Prop extends bB X where
 bR:Ln X 0 "elders"
 ajU:X.env.kindOf "elders" = some .cell
 adz:Ln X 1 "cells"
 pR:Ln X 2 "kinds"
 qm:Ln X 3 "starts"
 bM:Ln X 4 "mood"
 ase:X.env.kindOf "mood" = some .cell
 Tq:Ln X 5 "near"
 uU:Ln X 6 "start"
 jO:Gl X "range"
 bf:Gl X "len"
 jP:X.mg "range" = none
 bq:X.mg "len" = none
def ZN(E:ZM X CL) :
   lA X CL b yd M7 rR nJ rS:=by
 rintro⟨es,cs⟩ h;dsimp only [nJ,rR,rS]at h ⊢;obtain⟨hl,hc⟩:=h;refine aD E.g E.pR (dM cj (aB0 _)) ?_;refine aD E.g E.qm (dM cj (aB0 _)) ?_;refine j4 E.g E.bM (fun j δ=>∃o4 o5 o6,δ=[some (.sh (.lst (es.map .int))),some (.sh (.lst (cs.map .int))),some (.lst (((iD es cs j).map .str).map T.sh)),some (.lst (((iE es cs j).map .int).map T.sh)),o4,o5,o6])
   (tD E.jP (ak (bF (aBp ..) E.bq (aq E.bR) E.bf)) Q.a E.jO) ⟨_,_,_,rfl⟩ (fun j δ ⟨_,_,_,e⟩=>by subst e;exact aBu rfl) ?turn ?fin
 case turn=>
   rintro j d δ hj ⟨o4,o5,o6,rfl⟩;obtain⟨rfl,E3⟩:=wV hj;have E3:j<es.length:=by omega
   rw[aDH];have kl:=Dj es cs j;have sl:=Dk es cs j;refine tF (p:=fun d=>decide (es.getD d.Gv.toNat 0=(j:Int))) (gg:=fun d=>T.sh d) E.g E.Tq (bC (.cons E.bR.1 (.inl E.ajU) (.cons E.bM.1 (.inl E.ase) .nil)) Q.b)
     (tD E.jP (ak (bF (aBp ..) E.bq (aq E.bR) E.bf)) Q.a E.jO) (.inr rfl) (fun C s0 H0 f0 b' d hd=>?Gz) (aCj (bz (by simp[gH];omega))) ?rest (by exact aBu rfl) (jt ⟨_,rfl⟩)
   case Gz=>
     obtain⟨i,hi,rfl⟩:=aBI.mp hd;have hi':i<es.length:=by simpa using hi
     exact⟨(cg (aI (mX 1) (eN 0) (lF (show(0:Int)<=0+(i:Int) by omega) (show 0+(i:Int)<es.length by omega))) (mX 2)).1,fun _=>v_ (arN 0)⟩
   case rest=>
   have eq:((gH 0 ((es.length:Nat):Int).toNat).filter fun d=>decide (es.getD d.Gv.toNat 0=(j:Int))).map (fun d=>T.sh d)=((BP es j).map .int).map T.sh:=by
     unfold gH BP;rw[List.filter_map,aBL,aBL,aBL,aCl];have e1:((fun d:D=>decide (es.getD d.Gv.toNat 0=(j:Int)))∘fun i:Nat=>D.int (0+(i:Int)))=fun i:Nat=>decide (es.getD i 0=(j:Int)):=by
       funext i;show decide (es.getD (0+(i:Int)).toNat 0=(j:Int))=_;rw[aDH,aCl]
     rw[e1];congr 1;funext i;show T.sh (.int (0+(i:Int)))=T.sh (.int i);rw[aDH]
   rw[eq];have hin:=ane es j;refine aD E.g E.uU (cS ai) ?_;refine Vu (fun δ=>δ=[some (.sh (.lst (es.map .int))),some (.sh (.lst (cs.map .int))),some (.lst (((iD es cs (j+1)).map .str).map T.sh)),some (.lst (((iE es cs j).map .int).map T.sh)),some (.sh (.int j)),some (.lst (((BP es j).map .int).map T.sh)),some (.sh (.int (w4 es cs j)))])
     (ahV E.u (vL E.Tq.1) (bZ (dM cj (aB0 _))) (MF _) (MF [])).1 (fun hp=>?_) (fun hp=>?_) ?_
   . have hz:BP es j=[]:=aBv ((ah4 (BP es j) []).symm.trans hp);refine lz E.pR.1 rfl b9 rfl (by rw[aBp,aBp];omega) (aj ?_);rw[Aa es cs j (by rw[kindB,aBE hz])];rw[show w4 es cs j=-1 by rw[w4,aBE hz]];rfl
   . have hz:¬ BP es j=[]:=fun z=>by
       rw[z]at hp;exact absurd hp Q.c
     have M8:0<(BP es j).length:=aCJ.mpr hz;refine Vu (fun δ=>δ=[some (.sh (.lst (es.map .int))),some (.sh (.lst (cs.map .int))),some (.lst (((iD es cs (j+1)).map .str).map T.sh)),some (.lst (((iE es cs j).map .int).map T.sh)),some (.sh (.int j)),some (.lst (((BP es j).map .int).map T.sh)),some (.sh (.int (w4 es cs j)))])
       (cg (ak (dz (aI (aq E.adz) (aq E.bM) (lF Q.a Q.a)) ai Q.c)) ai).1 (fun hq=>?_) (fun hq=>?_) (fun δ e=>aj e)
     . have hq:cs.getD (j:Int).toNat 0 % 2=1:=aBv hq;rw[aCl]at hq;refine lz E.pR.1 rfl b9 rfl (by rw[aBp,aBp];omega) (aj ?_);rw[Aa es cs j (by rw[kindB,aBx hz,aBE hq])];rw[show w4 es cs j=-1 by rw[w4,aBx hz,aBE hq]];rfl
     . have hq:¬ cs.getD (j:Int).toNat 0 % 2=1:=aBG hq;rw[aCl]at hq;have b1:=aB2 (cs.getD (j:Int).toNat 0 / 2) (b:=((BP es j).length:Nat)) Q.a;have b2:=aBZ (cs.getD (j:Int).toNat 0 / 2) (b:=((BP es j).length:Nat)) Q.a;refine lz E.pR.1 rfl b9 rfl (by rw[aBp,aBp];omega) ?_;refine aD E.g E.uU (aG (aI (vL E.Tq.1) (ak (dz (ak (gu (aI (aq E.adz) (aq E.bM) (lF Q.a Q.a)) ai ⟨Wp,Wp⟩)) (ak (bF (aBp ..) E.bq (vL E.Tq.1) E.bf)) Q.a)) (lF b1 b2)) rfl) (aj ?_);rw[Aa es cs j (by rw[kindB,aBx hz,aBx hq])];rw[show w4 es cs j=(BP es j).getD (cs.getD (j:Int).toNat 0 / 2 % ((BP es j).length:Nat)).toNat 0 by rw[w4,aBx hz,aBx hq,aCl]];rfl
   rintro δ rfl;refine lz E.qm.1 rfl (v_ E.uU.1) rfl (by rw[aBp,aBp];omega) (aj ?_);rw[VP es cs j rfl];exact⟨_,_,_,rfl⟩
 case fin=>
   rintro δ ⟨o4,o5,o6,rfl⟩;have e:(gH 0 (es.length:Int).toNat).length=es.length:=by
     rw[gH,aBp,aBO];omega
   rw[e];exact aH (dM (bE (vM E.pR.1) (bE (vM E.qm.1) cj)) aK) rfl
def eS:chk (au yd) ([("elders",.cell),("cells",fF),("kinds",fF),("starts",fF),("mood",.cell),("near",fF),("start",fF),("range",c6),("len",c6)])=true:=Q.f
def Wf:gF M7 ["elders","cells"] (au yd):=rL
abbrev Aj:=top 97
abbrev Ak:=Int
abbrev Jq:AT:=["cell","size"]
def jB:Ak->Ap:=fun c=>[.int c]
def jC:Ak->Prop:=fun c=>True
def jD:Ak->T:=fun c=>(.sh (.int (SM c)):T)
structure Wg(X:Cx)(CL:BA):Prop extends bB X where
 ajV:Ln X 0 "cell"
 ZO:Ln X 1 "size"
def Wh(E:Wg X CL) :
   lA X CL b Aj Jq jB jC jD:=by
 intro c h;dsimp only [jC,jB,jD]at h ⊢;refine aD E.g E.ZO (dz (ak (gu (aq E.ajV) ai ⟨Wp,Wp⟩)) (ak (R6 ai ai ⟨Wp,Wp,Wp⟩)) Q.c) ?_;refine aS (cg (ak (dz (aq E.ajV) ai Q.c)) ai).1 (fun hp=>?_) (fun hp=>aj ?_)
 . refine aH (tu ai (aq E.ZO)) ?_;show T.sh _=T.sh (.int (SM c));unfold SM;rw[aBE (aBv hp)]
 . refine aH (v_ E.ZO.1) ?_;show T.sh _=T.sh (.int (SM c));unfold SM;rw[aBx (aBG hp)]
def ye:FG Jq ["cell"] [] (au Aj):=fG
abbrev Hh:=top 99
abbrev Hi:=Int×Int×Nat×AT
abbrev Rg:AT:=["item","boxes","names","pick","name","term"]
def uV:Hi->Ap:=fun(a,c,n,ns)=>[.tup [.int a,.int c],.int n,.lst (ns.map .str)]
def ki:Hi->Prop:=fun(a,c,n,ns)=>n<=1000/\0<ns.length/\ns.length<=1000
def uW:Hi->T:=fun(a,c,n,ns)=>(.sh (rJ a c n ns):T)
structure afq(X:Cx)(CL:BA):Prop extends bB X where
 dR:Ln X 0 "item"
 bK:Ln X 1 "boxes"
 cO:Ln X 2 "names"
 vZ:Ln X 3 "pick"
 cJ:Ln X 4 "name"
 nK:Ln X 5 "term"
 bf:Gl X "len"
 kN:Gl X "_law_number_by"
 bq:X.mg "len" = none
 mY:Fc X CL "_law_number_by" 1 1 jB jC jD
def afr(E:afq X CL) :
   lA X CL b Hh Rg uV ki uW:=by
 rintro⟨a,c,n,ns⟩ h;dsimp only [ki,uV,uW]at h ⊢;obtain⟨h1,h2,h3⟩:=h;have e1:=aB2 c (show(ns.length:Int)≠0 by omega);have e2:=aBZ c (show 0<(ns.length:Int) by omega);refine aD E.g E.vZ (gu (ay (aq E.dR) ai rfl) ai ⟨Wp,Wp⟩) ?_;refine aD E.g E.cJ (aG (aI (aq E.cO) (ak (dz (ay (aq E.dR) ai rfl) (ak (bF (aBp _) E.bq (aq E.cO) E.bf)) Q.a)) (mE Str.empty e1 e2)) rfl) ?_;refine aD E.g E.nK (aU (ao (tu (ak (dz (aq E.vZ) (ak (mC (aq E.bK) ai)) Q.a)) ai) (ao (c_ (c / 3) E.mY E.kN (ah (ak (gu (ay (aq E.dR) ai rfl) ai ⟨Wp,Wp⟩)) av) (trivial) rfl) aZ)) aK) ?_;refine aS (cg (ak (dz (ak (gu (ay (aq E.dR) ai rfl) ai ⟨Wp,Wp⟩)) ai Q.c)) ai).1 (fun hp=>?_) (fun hp=>aj ?_)
 . have hp':a / 8 % 3=0:=aBv hp;refine aH (aU (ao b9 (ao (v_ E.cJ.1) aZ)) aK) ?_;show T.sh _=T.sh (rJ a c n ns);rw[rJ,aBE hp']
 have hp':¬ a / 8 % 3=0:=aBG hp;refine aS (jg (gy (cg (ak (dz (ak (gu (ay (aq E.dR) ai rfl) ai ⟨Wp,Wp⟩)) ai Q.c)) ai).1 (fun _=>nj (Ey (aq E.bK) ai).1))) (fun hq=>?_) (fun hq=>aj ?_)
 . have Ve:a / 8 % 3=1/\0<n:=by
     simp at hq;omega
   refine aH (aU (ao b9 (ao (dz (ak (gu (aq E.vZ) ai ⟨Wp,Wp⟩)) (aq E.bK) Q.a) (ao (v_ E.nK.1) aZ))) aK) ?_;show T.sh _=T.sh (rJ a c n ns);rw[rJ,aBx hp',aBE Ve];rfl
 . have Ve:¬ (a / 8 % 3=1/\0<n):=by
     simp at hq;omega
   refine aH (aU (ao b9 (ao (v_ E.cJ.1) (ao (v_ E.nK.1) aZ))) aK) ?_;show T.sh _=T.sh (rJ a c n ns);rw[rJ,aBx hp',aBx Ve];rfl
def jj:FG Rg ["item","boxes","names"] ["len","_law_number_by"] (au Hh):=fG
abbrev M9:=top 100
abbrev Nb:=Int×Int×Int×Nat×AT
abbrev Wi:AT:=["item","source","many","names","target","mode"]
def yf:Nb->Ap:=fun(a,c,src,n,ns)=>[.tup [.int a,.int c],.int src,.int n,.lst (ns.map .str)]
def tP:Nb->Prop:=fun(a,c,src,n,ns)=>n<=1000/\0<ns.length/\ns.length<=1000
def yg:Nb->T:=fun(a,c,src,n,ns)=>(.sh (aiI a c src n ns):T)
structure ajW(X:Cx)(CL:BA):Prop extends bB X where
 dR:Ln X 0 "item"
 Wj:Ln X 1 "source"
 jI:Ln X 2 "many"
 cO:Ln X 3 "names"
 nL:Ln X 4 "target"
 Al:Ln X 5 "mode"
 bf:Gl X "len"
 bq:X.mg "len" = none
def ajX(E:ajW X CL) :
   lA X CL b M9 Wi yf tP yg:=by
 rintro⟨a,c,src,n,ns⟩ h;dsimp only [tP,yf,yg]at h ⊢;obtain⟨h1,h2,h3⟩:=h;have e1:=aB2 (a / 24) (show(ns.length:Int)≠0 by omega);have e2:=aBZ (a / 24) (show 0<(ns.length:Int) by omega);refine aD E.g E.nL (tu (ak (dz (ay (aq E.dR) ai rfl) (ak (mC (aq E.jI) ai)) Q.a)) ai) ?_;refine aD E.g E.Al b9 ?_;refine aS (lC (aq E.nL) (ak (cS ai))).1 (fun hp=>?_) (fun hp=>aj ?_)
 . refine aD E.g E.Al (aG (aI (bZ (pN (ao b9 (ao b9 (ao b9 aZ))) aK)) (ak (dz (ak (gu (ay (aq E.dR) ai rfl) ai ⟨Wp,Wp⟩)) ai Q.c)) (mE (f:=D.str) (l:=["new","near","far"]) Str.empty (aB2 _ Q.c) (aBZ _ Q.c))) rfl) (aj ?_);have hm:mdB a c n=(["new","near","far"]:AT).getD (a / 8 % 3).toNat Str.empty:=by
     unfold mdB;rw[if_neg (by simpa [tgB] using hp)]
   refine aH (aU (ao (v_ E.Wj.1) (ao (aG (aI (aq E.cO) (ak (dz (ak (gu (ay (aq E.dR) ai rfl) ai ⟨Wp,Wp⟩)) (ak (bF (aBp _) E.bq (aq E.cO) E.bf)) Q.a)) (mE Str.empty e1 e2)) rfl) (ao (aU aZ aK) (ao (aU aZ aK) (ao (v_ E.nL.1) (ao (v_ E.Al.1) aZ)))))) aK) ?_;show T.sh _=T.sh (aiI a c src n ns);rw[aiI,hm];rfl
 . have hm:mdB a c n="new":=by
     unfold mdB;rw[if_pos (by simpa [tgB] using hp)]
   refine aH (aU (ao (v_ E.Wj.1) (ao (aG (aI (aq E.cO) (ak (dz (ak (gu (ay (aq E.dR) ai rfl) ai ⟨Wp,Wp⟩)) (ak (bF (aBp _) E.bq (aq E.cO) E.bf)) Q.a)) (mE Str.empty e1 e2)) rfl) (ao (aU aZ aK) (ao (aU aZ aK) (ao (v_ E.nL.1) (ao (v_ E.Al.1) aZ)))))) aK) ?_;show T.sh _=T.sh (aiI a c src n ns);rw[aiI,hm];rfl
def mZ:FG Wi ["item","source","many","names"] ["len"] (au M9):=fG
abbrev Nf:=top 101
abbrev Ng:=Int×Int×Nat×Nat
abbrev Wk:AT:=["item","boxes","many","pick","one","other"]
def yh:Ng->Ap:=fun(a,c,n,m)=>[.tup [.int a,.int c],.int n,.int m]
def tQ:Ng->Prop:=fun(a,c,n,m)=>n<=1000/\0<m/\m<=1000
def yi:Ng->T:=fun(a,c,n,m)=>(.sh (SN a c n m):T)
structure ajY(X:Cx)(CL:BA):Prop extends bB X where
 dR:Ln X 0 "item"
 bK:Ln X 1 "boxes"
 jI:Ln X 2 "many"
 vZ:Ln X 3 "pick"
 apx:Ln X 4 "one"
 adA:Ln X 5 "other"
 kN:Gl X "_law_number_by"
 mY:Fc X CL "_law_number_by" 1 1 jB jC jD
def ajZ(E:ajY X CL) :
   lA X CL b Nf Wk yh tQ yi:=by
 rintro⟨a,c,n,m⟩ h;dsimp only [tQ,yh,yi]at h ⊢;obtain⟨h1,h2,h3⟩:=h;have q1:=aB2 (a / 8) (show(6:Int)≠0 by decide);have q2:=aBZ (a / 8) (show 0<(6:Int) by decide);refine aD E.g E.vZ (gu (ay (aq E.dR) ai rfl) ai ⟨Wp,Wp⟩) ?_;refine aS (Ey (ak (dz (aq E.vZ) ai Q.c)) ai).1 (fun hp=>?_) (fun hp=>aj ?_)
 . have hp':a / 8 % 6 > 3:=aBv hp;refine aH (aU (ao (aG (aI (bZ (pN (ao b9 (ao b9 aZ)) aK)) (ak (tu (ak (dz (aq E.vZ) ai Q.c)) ai)) (mE (f:=D.str) (l:=["open","shut"]) Str.empty Q.a (by show a / 8 % 6-4<2;omega))) rfl) (ao (dz (ay (aq E.dR) ai rfl) (aq E.jI) Q.a) aZ)) aK) ?_;show T.sh _=T.sh (SN a c n m);rw[SN,aBE hp']
 . have hp':¬ a / 8 % 6 > 3:=aBG hp;refine aD E.g E.apx (aU (ao (tu (ak (dz (ak (gu (aq E.vZ) ai ⟨Wp,Wp⟩)) (ak (mC (aq E.bK) ai)) Q.a)) ai) (ao (c_ (c) E.mY E.kN (ah (ay (aq E.dR) ai rfl) av) (trivial) rfl) aZ)) aK) ?_;refine aD E.g E.adA (aU (ao (tu (ak (dz (ak (gu (aq E.vZ) ai ⟨Wp,Wp⟩)) (ak (mC (aq E.bK) ai)) Q.a)) ai) (ao (c_ (c*48271 % 2147483647) E.mY E.kN (ah (ak (dz (ak (R5 (ay (aq E.dR) ai rfl) ai (.inr ⟨Wp,Wp⟩))) ai Q.c)) av) (trivial) rfl) aZ)) aK) ?_;refine aH (aU (ao (aG (aI (bZ (pN (ao b9 (ao b9 (ao b9 (ao b9 aZ)))) aK)) (ak (dz (aq E.vZ) ai Q.c)) (mE (f:=D.str) (l:=["<","<=","=","!="]) Str.empty q1 (by show a / 8 % 6<4;omega))) rfl) (ao (v_ E.apx.1) (ao (v_ E.adA.1) aZ))) aK) ?_;show T.sh _=T.sh (SN a c n m);rw[SN,aBx hp'];rfl
def m5:FG Wk ["item","boxes","many"] ["_law_number_by"] (au Nf):=fG
abbrev Hj:=top 102
abbrev Hl:=CC×Nat×Nat×AT
abbrev Rh:AT:=["items","boxes","many","names","ins","outs","ways","item","kind","mood","way"]
def uX:Hl->Ap:=fun(l,nb,nm,ns)=>[.lst (l.map itD),.int nb,.int nm,.lst (ns.map .str)]
def qp:Hl->Prop:=fun(l,nb,nm,ns)=>l.length<=100/\nb<=1000/\(0<nm/\nm<=1000)/\(0<ns.length/\ns.length<=1000)/\afb ns
def uY:Hl->T:=fun(l,nb,nm,ns)=>(.lst [Q0 (anp nb nm ns l).is,Q0 (anp nb nm ns l).os,wsL (anp nb nm ns l).ws]:T)
structure afs(X:Cx)(CL:BA):Prop extends bB X where
 uR:Ln X 0 "items"
 bK:Ln X 1 "boxes"
 jI:Ln X 2 "many"
 cO:Ln X 3 "names"
 Am:Ln X 4 "ins"
 v5:Ln X 5 "outs"
 mH:Ln X 6 "ways"
 dR:Ln X 7 "item"
 nM:Ln X 8 "kind"
 bM:Ln X 9 "mood"
 f9:Ln X 10 "way"
 bf:Gl X "len"
 tR:Gl X "_law_deed_by"
 Qo:Gl X "_law_way_by"
 Qp:Gl X "_law_ask_by"
 bq:X.mg "len" = none
 Ho:Fc X CL "_law_deed_by" 2 3 uV ki uW
 aj0:Fc X CL "_law_way_by" 1 4 yf tP yg
 aj1:Fc X CL "_law_ask_by" 2 3 yh tQ yi
def aft(E:afs X CL) :
   lA X CL b Hj Rh uX qp uY:=by
 rintro⟨l,nb,nm,ns⟩ h;dsimp only [qp,uX,uY]at h ⊢;obtain⟨hl,hb,⟨hm0,hm⟩,⟨hs0,hs⟩,hn⟩:=h;refine aD E.g E.Am (dM (bE (aU aZ aK) cj) aK) ?_;refine aD E.g E.v5 (dM (bE (aU aZ aK) cj) aK) ?_;refine aD E.g E.mH (dM cj (aB0 _)) ?_;refine j4 E.g E.dR (fun j δ=>∃o8 o9 o10 o11,δ=[some (.sh (.lst (l.map itD))),some (.sh (.int nb)),some (.sh (.int nm)),some (.sh (.lst (ns.map .str))),some (Q0 ((l.take j).foldl (qg nb nm ns) ow0).is),some (Q0 ((l.take j).foldl (qg nb nm ns) ow0).os),some (wsL ((l.take j).foldl (qg nb nm ns) ow0).ws),o8,o9,o10,o11])
   (cY (v_ E.uR.1)) ⟨_,_,_,_,rfl⟩ (fun j δ ⟨_,_,_,_,e⟩=>by subst e;exact aBu rfl) ?turn ?fin
 case turn=>
   rintro j d δ hj ⟨o8,o9,o10,o11,rfl⟩;obtain⟨p,hp,rfl⟩:=ac4 hj;have ok:=Zr (nb:=nb) (nm:=nm) hn hm0 (l.take j) 0 ow0 (aiM _ _);rw[Nat.zero_add]at ok;have htl:(l.take j).length<=100:=by rw[aCe];omega
   generalize (l.take j).length=k at ok htl;show gw X CL b _ _ {nx:=fun δ=>∃o8 o9 o10 o11,δ=[_,_,_,_,some (Q0 ((l.take (j+1)).foldl (qg nb nm ns) ow0).is),some (Q0 ((l.take (j+1)).foldl (qg nb nm ns) ow0).os),some (wsL ((l.take (j+1)).foldl (qg nb nm ns) ow0).ws),o8,o9,o10,o11],rt:=_,bk:=_,ct:=_};rw[wZ hp,aCt];generalize (l.take j).foldl (qg nb nm ns) ow0=o at ok ⊢;show gw X CL b _ _ {nx:=fun δ=>∃o8 o9 o10 o11,δ=[_,_,_,_,some (Q0 (qg nb nm ns o p).is),some (Q0 (qg nb nm ns o p).os),some (wsL (qg nb nm ns o p).ws),o8,o9,o10,o11],rt:=_,bk:=_,ct:=_};obtain⟨is,os,ws⟩:=o;obtain⟨n0,n1,n2,ii,oo,wl,ww⟩:=ok;dsimp only at n0 n1 n2 ii oo wl ww;refine aD E.g E.nM (dz (ay (aq E.dR) ai rfl) ai Q.c) ?_;refine aD E.g E.bM (tu (ak (bF (aBp ..) E.bq (vL E.Am.1) E.bf)) ai) ?_;have hli:((is.map D.tup).map T.sh).length=is.length:=by rw[aBp,aBp]
   have hlo:((os.map D.tup).map T.sh).length=os.length:=by rw[aBp,aBp]
   have hlw:((ws.map WY.d).map T.sh).length=ws.length:=by rw[aBp,aBp]
   refine aS (Vo (aq E.nM) ai).1 (fun h3=>?_) (fun h3=>?_)
   . have h3:p.1 % 8<3:=aBv h3;refine lz E.Am.1 rfl (aU aZ aK) rfl (by rw[hli];omega) ?_;refine lz E.v5.1 rfl (aU aZ aK) rfl (by rw[hlo];omega) (aj (aj ?_));rw[qg,aBE h3,← VW,← VW];exact⟨_,_,_,_,rfl⟩
   have h3:¬ p.1 % 8<3:=aBG h3;refine aS (cg (aq E.nM) ai).1 (fun h4=>?_) (fun h4=>?_)
   . have h4:p.1 % 8=3:=aBv h4;have hg:=(ii _ (rM [] n0));have hgl:=hg.l1;refine acO E.Am.1 (qd (aG (aI (vL E.Am.1) (aq E.bM) (aiO [] n0)) (MN hg)) (aU (ao (c_ ((p.1,p.2,nb,ns)) E.Ho E.tR (ah (aq E.dR) (ah (aq E.bK) (ah (aq E.cO) av))) (by dsimp only [ki];exact(⟨hb,hs0,hs⟩)) (by exact(sP p.1 p.2 nb hn).im)) aZ) aK) (by intro z;cases z) (Nat.le_of_lt (bz (by rw[List.length_singleton];omega)))) (aq E.bM) rfl (by rw[hli];exact aiP n0) (aj (aj (aj ?_)));rw[qg,aBx h3,aBE h4,← ada];exact⟨_,_,_,_,rfl⟩
   have h4:¬ p.1 % 8=3:=aBG h4;refine aS (cg (aq E.nM) ai).1 (fun h5=>?_) (fun h5=>?_)
   . have h5:p.1 % 8=4:=aBv h5;have m0:0<os.length:=by omega
     have hg:=(oo _ (rM [] m0));have hgl:=hg.l1;rw[← n2];refine acO E.v5.1 (qd (aG (aI (vL E.v5.1) (aq E.bM) (aiO [] m0)) (MN hg)) (aU (ao (c_ ((p.1,p.2,nb,ns)) E.Ho E.tR (ah (aq E.dR) (ah (aq E.bK) (ah (aq E.cO) av))) (by dsimp only [ki];exact(⟨hb,hs0,hs⟩)) (by exact(sP p.1 p.2 nb hn).im)) aZ) aK) (by intro z;cases z) (Nat.le_of_lt (bz (by rw[List.length_singleton];omega)))) (aq E.bM) rfl (by rw[hlo];exact aiP m0) (aj (aj (aj (aj ?_))));rw[qg,aBx h3,aBx h4,aBE h5,← ada];exact⟨_,_,_,_,rfl⟩
   have h5:¬ p.1 % 8=4:=aBG h5;have M8:∀{z:Bool},eqD (.lst (ws.map WY.d)) (.lst [])=z->z=false->0<ws.length:=fun e z=>by
     subst z;rw[SW]at e;have:=aBG e;exact aCJ.mpr fun w=>this (by rw[w];rfl)
   refine aS (p:=decide (p.1 % 8=5) || (eqD (.lst (ws.map WY.d)) (.lst []) || !decide ((iV ws).src=(is.length:Int)-1))) (jg (j0 (cg (aq E.nM) ai).1 (fun _=>j0 (ahV E.u (vL E.mH.1) (bZ (dM cj (aB0 _))) (arW ww) (MF [])).1 (fun hz=>jZ (lC (ay (aI (vL E.mH.1) (ak (cS ai)) (Ac wy0 (M8 rfl hz))) ai rfl) (aq E.bM)).1)))) (fun h6=>?_) (fun h6=>?_)
   . have h6:p.1 % 8=5\/ws=[]\/(iV ws).src≠(is.length:Int)-1:=by
       rw[SW,aDp,aDp,aCB]at h6;rcases h6 with h|h|h
       . exact .inl (aBv h)
       . exact .inr (.inl (aDt.mp (aBv h)))
       . exact .inr (.inr (aBG h))
     refine lz E.mH.1 rfl (aF (c_ ((p.1,p.2,(is.length:Int)-1,nm,ns)) E.aj0 E.Qo (ah (aq E.dR) (ah (aq E.bM) (ah (aq E.jI) (ah (aq E.cO) av)))) (by dsimp only [tP];exact(⟨hm,hs0,hs⟩)) rfl) (t2:=.sh (wyB p.1 p.2 ((is.length:Int)-1) nm ns).d) rfl) rfl (by rw[hlw];omega) (aj (aj (aj (aj (aj ?_)))));rw[qg,aBx h3,aBx h4,aBx h5,aBE h6,← aiQ];exact⟨_,_,_,_,rfl⟩
   have h6:¬ (p.1 % 8=5\/ws=[]\/(iV ws).src≠(is.length:Int)-1):=by
     rw[SW,aDN,aDN,aC9]at h6;obtain⟨a1,a2,a3⟩:=h6;rintro(h|h|h)
     . exact aBG a1 h
     . exact aBG a2 (by rw[h];rfl)
     . exact h (aBv a3)
   have hw0:0<ws.length:=aCJ.mpr fun z=>h6 (.inr (.inl z));have hg:=ww _ (rM wy0 hw0);have e1:=hg.l1;have e2:=hg.l2;refine aS (cg (aq E.nM) ai).1 (fun h7=>?_) (fun h7=>?_)
   . have h7:p.1 % 8=6:=aBv h7;refine aD E.g E.f9 (aG (aI (vL E.mH.1) (ak (cS ai)) (Ac wy0 hw0)) (Zt hg)) ?_;refine acO E.mH.1 (aF (qd (qd (xT (v_ E.f9.1) (by exact axG) ny (nA ai)) (aU (ao (qd (C7 (v_ E.f9.1) ai rfl) (aU (ao (c_ ((p.1,p.2,nb,nm)) E.aj1 E.Qp (ah (aq E.dR) (ah (aq E.bK) (ah (aq E.jI) av))) (by dsimp only [tQ];exact(⟨hb,hm0,hm⟩)) (by exact(VR p.1 p.2 nb hm0).im)) aZ) aK) (by intro z;cases z) (Nat.le_of_lt (bz (by rw[List.length_singleton];omega)))) aZ) aK) (by intro z;cases z) aK) (xT (v_ E.f9.1) (by exact auv) (nA ai) ny) (by intro z;cases z) aK) (t2:=.sh (WY.d {iV ws with qs:=(iV ws).qs++[SN p.1 p.2 nb nm]})) rfl) (ak (cS ai)) rfl (by rw[hlw];exact ER hw0) (aj (aj (aj (aj (aj (aj ?_))))));rw[qg,aBx h3,aBx h4,aBx h5,aBx h6,aBE h7,← adb];exact⟨_,_,_,_,rfl⟩
   . have h7:¬ p.1 % 8=6:=aBG h7;refine aD E.g E.f9 (aG (aI (vL E.mH.1) (ak (cS ai)) (Ac wy0 hw0)) (Zt hg)) ?_;refine acO E.mH.1 (aF (qd (qd (xT (v_ E.f9.1) (by exact axH) ny (nA ai)) (aU (ao (qd (C7 (v_ E.f9.1) ai rfl) (aU (ao (c_ ((p.1,p.2,nb,ns)) E.Ho E.tR (ah (aq E.dR) (ah (aq E.bK) (ah (aq E.cO) av))) (by dsimp only [ki];exact(⟨hb,hs0,hs⟩)) (by exact(sP p.1 p.2 nb hn).im)) aZ) aK) (by intro z;cases z) (Nat.le_of_lt (bz (by rw[List.length_singleton];omega)))) aZ) aK) (by intro z;cases z) aK) (xT (v_ E.f9.1) (by exact axI) (nA ai) ny) (by intro z;cases z) aK) (t2:=.sh (WY.d {iV ws with ds:=(iV ws).ds++[rJ p.1 p.2 nb ns]})) rfl) (ak (cS ai)) rfl (by rw[hlw];exact ER hw0) (aj (aj (aj (aj (aj (aj ?_))))));rw[qg,aBx h3,aBx h4,aBx h5,aBx h6,aBx h7,← adb];exact⟨_,_,_,_,rfl⟩
 case fin=>
   rintro δ ⟨o8,o9,o10,o11,rfl⟩;rw[aBp,aCv];exact aH (dM (bE (vM E.Am.1) (bE (vM E.v5.1) (bE (vM E.mH.1) cj))) aK) rfl
def cT:FG Rh ["items","boxes","many","names"] ["len","_law_deed_by","_law_way_by","_law_ask_by"] (au Hj):=fG
def mnM(s:BB):Int:=if 82<(s.length:Int) then 82 else s.length
def aj2(s:BB):0<=mnM s/\mnM s<=82/\mnM s<=s.length:=by
 unfold mnM;split<;>omega
def asj(s:BB)(k:Int):Int×Int:=(s.getD k.toNat 0,ju s (k+1))
def qq(s:BB):CC:=(List.range (zI 2 (mnM s))).map fun(i:Nat)=>asj s (2+(i:Int)*2)
def Nh(s:BB):(qq s).length<=40:=by
 have:=aj2 s;unfold qq zI;rw[aBp,aBO];omega
def hdM(s:BB):Int:=ju s 1 / 5
def cB(s:BB):BB:=aiF (qq s)
def An(s:BB):AT:=anj s ((cB s).length+4)
def bxF(s:BB)(ns:AT)(k:Int):Str×Int:=(ns.getD k.toNat Str.empty,SM (ju s (3+2*k)))
def zJ(s:BB):Cf:=(List.range (hdM s % 4).toNat).map fun(k:Nat)=>bxF s (An s) (0+(k:Int))
def Hq(s:BB):BB:=[hdM s / 4]++GV (qq s)
def U5(s:BB):OW:=anp (zJ s).length (cB s).length (An s) (qq s)
def nmP(s:BB):AT:=(An s).take (cB s).length
def aj3(s:BB):D:=Dl ((zJ s).map tH) (nmP s) (iD (cB s) (Hq s) (cB s).length) (cB s) (iE (cB s) (Hq s) (cB s).length) ((U5 s).is.map .tup) ((U5 s).os.map .tup) ((U5 s).ws.map WY.d)
def tS(s:BB):0<(cB s).length/\(cB s).length<=41/\(Hq s).length=(cB s).length:=by
 have a:=(SJ (qq s)).2;have c:=BR (qq s);have d:=Nh s;have e:=Di (qq s);unfold cB Hq;rw[aBz,aBV];omega
def E4(s:BB):(An s).length=(cB s).length+4:=EJ _ _ _
def LJ(s:BB):∀x∈An s,x.length<=21/\PyData.strOk x=true:=ac6 _ _ _
def Tr(s:BB):(nmP s).length=(cB s).length:=by
 have:=E4 s;unfold nmP;rw[aCe];omega
def asn(s:BB):∀x∈nmP s,x.length<=21:=fun x hx=>(LJ s x (aDK hx)).1
def Ni(s:BB):(zJ s).length<=3:=by
 have a:=aB2 (hdM s) (show(4:Int)≠0 by decide);have c:=aBZ (hdM s) (show(0:Int)<4 by decide);unfold zJ;rw[aBp,aBO];omega
theorem anM(s:BB):∀p∈zJ s,p.1.length<=21:=fun p hp=>by
 obtain⟨k,_,rfl⟩:=aBI.mp hp;show((An s).getD _ Str.empty).length<=21;rw[aBs];cases e:(An s)[(0+(k:Int)).toNat]? with
 | none=>exact aB0 _
 | some x=>exact(LJ s x (aBQ e)).1
def aj4(s:BB):afb (An s):=⟨fun x hx=>(LJ s x hx).1,fun x hx=>(LJ s x hx).2⟩
def ZP(s:BB):SQ (zJ s).length (cB s).length 40 (U5 s):=by
 have a:=Zr (nb:=(zJ s).length) (nm:=(cB s).length) (aj4 s) (tS s).1 (qq s) 0 ow0 (aiM _ _);have c:=Nh s;rw[Nat.zero_add]at a;have up:∀(n k:Nat) (o:OW),SQ (zJ s).length (cB s).length k o->SQ (zJ s).length (cB s).length (k+n) o:=by
   intro n
   induction n with
   | zero=>
     intro k o h;exact h
   | succ n ih=>
     intro k o h;obtain⟨n0,n1,n2,ii,oo,wl,ww⟩:=ih k o h;exact⟨n0,aCk n1,n2,fun l hl=>(ii l hl).up,fun l hl=>(oo l hl).up,aCk wl,fun w hw=>(ww w hw).up (aBD _)⟩
 have:=up (40-(qq s).length) _ _ a
 rwa [show(qq s).length+(40-(qq s).length)=40 by omega]at this
def Wm(l:Cf):D.bY (l.map tH)=true:=qc (fun _=>rfl) _
def aj5(s:BB):Sm 8 (aj3 s):=by
 have o:=ZP s;have e:=tS s;have b:=Ni s;have n:=Tr s;have o0:=o.n1;have o1:=o.n2;have o2:=o.wl;refine⟨by show(8:Nat)<=1000;decide,fun d hd=>?_⟩;rcases aBq.mp hd with rfl|hd
 . refine⟨by rw[aBp];omega,fun d hd=>?_⟩;obtain⟨p,_,rfl⟩:=aBI.mp hd;refine⟨by show(2:Nat)<=1000;decide,fun d hd=>?_⟩;rcases aBq.mp hd with rfl|hd
   . trivial
   . cases aBB.mp hd;trivial
 rcases aBq.mp hd with rfl|hd
 . exact ac7 6 _ Q.a
 rcases aBq.mp hd with rfl|hd
 . exact ac7 6 _ (by rw[Dj];omega)
 rcases aBq.mp hd with rfl|hd
 . exact ac8 6 _ Q.a
 rcases aBq.mp hd with rfl|hd
 . exact ac8 6 _ (by rw[Dk];omega)
 rcases aBq.mp hd with rfl|hd
 . exact aiN (n:=3) o.ii Q.c Q.a
 rcases aBq.mp hd with rfl|hd
 . exact aiN (n:=3) o.oo Q.c Q.a
 . cases aBB.mp hd;exact arV (n:=2) o.ww Q.c Q.a
def aj6(l:List α)(n:Nat):cutD l none (some (n:Int))=l.take n:=by
 unfold cutD;rw[HT.acB];show(l.drop 0).take (min n l.length-0)=_;rw[List.drop_zero,Nat.sub_zero,← List.take_eq_take_min]
abbrev yj:=top 104
abbrev Dv:=BB
abbrev Nj:AT:=["script","head","items","elders","names","boxes","shapes","owns"]
def rT:Dv->Ap:=fun s=>[.lst (s.map .int)]
def rV:Dv->Prop:=fun s=>s.length<=1000
def rW:Dv->T:=fun s=>(.sh (aj3 s):T)
structure ZQ(X:Cx)(CL:BA):Prop extends bB X where
 iW:Ln X 0 "script"
 Wn:X.env.kindOf "script" = some .cell
 ZR:Ln X 1 "head"
 uR:Ln X 2 "items"
 bR:Ln X 3 "elders"
 cO:Ln X 4 "names"
 anN:X.env.kindOf "names" = some .cell
 bK:Ln X 5 "boxes"
 Nk:Ln X 6 "shapes"
 aj7:Ln X 7 "owns"
 nI:Gl X "_law_cell_at"
 jO:Gl X "range"
 auK:Gl X "min"
 bf:Gl X "len"
 Hr:Gl X "_law_elders_by"
 J9:Gl X "_law_names_by"
 Ka:Gl X "_law_kinds_by"
 Nm:Gl X "_law_owns_by"
 sQ:Fc X CL "_law_cell_at" 1 2 qh qj qk
 jP:X.mg "range" = none
 auL:X.mg "min" = none
 bq:X.mg "len" = none
 Wo:Fc X CL "_law_elders_by" 2 1 pO pP pQ
 ZS:Fc X CL "_law_names_by" 2 2 rO rP rQ
 ZT:Fc X CL "_law_kinds_by" 1 2 rR nJ rS
 afu:Fc X CL "_law_owns_by" 3 4 uX qp uY
 mY:Fc X CL "_law_number_by" 1 1 jB jC jD
def ZU(E:ZQ X CL) :
   lA X CL b yj Nj rT rV rW:=by
 intro s h;dsimp only [rV,rT,rW]at h ⊢;have hm:=aj2 s;have hi:=Nh s;obtain⟨e0,e1,e2⟩:=tS s;have n1:=E4 s;refine aD E.g E.ZR (aF (gu (ak (c_ ((s,1)) E.sQ E.nI (ah (aq E.iW) (ah ai av)) (show(0:Int)<=1 by omega) rfl)) ai ⟨Wp,Wp⟩) (t2:=.sh (.int (hdM s))) rfl) ?_;refine tF (p:=fun _=>true) (gg:=fun d=>.sh (itD (asj s d.Gv))) E.g E.uR (bC (.cons E.iW.1 (.inl E.Wn) .nil) Q.b)
   (aeU E.jP (ah ai (ah (Mp (ak (amJ E.g E.auL E.auK (ah (ak (bF (aBp ..) E.bq (aq E.iW) E.bf)) (ah ai av)))) (d2:=.int (mnM s)) rfl) (ah ai av))) Q.a E.jO) (.inr rfl) (fun C s0 H0 f0 b' d hd=>?Nn) (aCj (bz (by rw[Cz,aBp,aBO];unfold zI;omega))) ?xm (by exact aBu rfl) (jt ⟨_,rfl⟩)
 case Nn=>
   obtain⟨i,hi,rfl⟩:=aBI.mp hd;have hi:=aB5.mp hi;unfold zI at hi;exact⟨rfl,fun _=>aU (ao (aG (aI (mX 1) (eN 0) (lF (show(0:Int)<=2+(i:Int)*2 by omega) (show 2+(i:Int)*2<s.length by omega))) rfl)
     (ao (c_ (s,2+(i:Int)*2+1) (l0 E.sQ) oZ (ah (mX 1) (ah (ak (mC (eN 0) ai)) av)) (show(0:Int)<=2+(i:Int)*2+1 by omega) rfl) aZ)) aK⟩
 case xm=>
 have eq1:((Cz 2 (zI 2 (mnM s))).filter fun _=>true).map (fun d=>T.sh (itD (asj s d.Gv)))=((qq s).map itD).map T.sh:=by
   rw[dJ,Cz,aBL,qq,aBL,aBL];rfl
 rw[eq1];refine aD E.g E.bR (ED (ds:=(cB s).map .int) (c_ (qq s) E.Wo E.Hr (ah (vL E.uR.1) av) (show(qq s).length<=100 by omega) (pA _))) ?_;refine aD E.g E.cO (ED (ds:=(An s).map .str) (c_ (s,(cB s).length+4) E.ZS E.J9 (ah (aq E.iW) (ah (Mp (ak (mC (ak (bF (aBp ..) E.bq (aq E.bR) E.bf)) ai)) (d2:=.int (((cB s).length+4:Nat):Int)) rfl) av)) (show(cB s).length+4<=100 by omega) (mF _))) ?_;have hb0:=aB2 (hdM s) (show(4:Int)≠0 by decide);have hb1:=aBZ (hdM s) (show(0:Int)<4 by decide);refine tF (p:=fun _=>true) (gg:=fun d=>.sh (tH (bxF s (An s) d.Gv))) E.g E.bK (bC (.cons E.cO.1 (.inl E.anN) (.cons E.iW.1 (.inl E.Wn) .nil)) Q.b)
   (tD E.jP (ak (dz (aq E.ZR) ai Q.c)) Q.a E.jO) (.inr rfl) (fun C s0 H0 f0 b' d hd=>?Np) (aCj (bz (by rw[gH,aBp,aBO];omega))) ?Ao (by exact aBu rfl) (jt ⟨_,rfl⟩)
 case Np=>
   obtain⟨i,hi,rfl⟩:=aBI.mp hd;have hi:=aB5.mp hi;exact⟨rfl,fun _=>aU (ao (aG (aI (mX 1) (eN 0) (mE Str.empty (show(0:Int)<=0+(i:Int) by omega) (show 0+(i:Int)<(An s).length by omega))) rfl)
     (ao (c_ (ju s (3+2*(0+(i:Int)))) (l0 E.mY) oZ (ah (ak (c_ (s,3+2*(0+(i:Int))) (l0 E.sQ) oZ (ah (mX 2) (ah (ak (mC ai (ak (R5 ai (eN 0) (.inl ⟨Wp,Wp⟩))))) av)) (show(0:Int)<=3+2*(0+(i:Int)) by omega) rfl)) av) trivial rfl) aZ)) aK⟩
 case Ao=>
 have eq2:((gH 0 (hdM s % 4).toNat).filter fun _=>true).map (fun d=>T.sh (tH (bxF s (An s) d.Gv)))=((zJ s).map tH).map T.sh:=by
   rw[dJ,gH,aBL,zJ,aBL,aBL];rfl
 rw[eq2];refine aD E.g E.Nk (kM (d:=.lst [.lst ((iD (cB s) (Hq s) (cB s).length).map .str),.lst ((iE (cB s) (Hq s) (cB s).length).map .int)]) (c_ (cB s,Hq s) E.ZT E.Ka (ah (aq E.bR) (ah (Mp (bZ (EB (ds:=[.int (hdM s / 4)]) (Dc:=(GV (qq s)).map .int) (bZ (ds:=[.int (hdM s / 4)]) (dM (bE (gu (aq E.ZR) ai ⟨Wp,Wp⟩) cj) aK))
     (bZ (aF (jN (p:=fun d=>decide (d.at1.Gv % 8<3)) (g:=fun d=>.sh (.int d.at2.Gv)) (bC .nil Q.b) E.g.calm (cY (vFL E.uR.1 rfl)) (.inr rfl) (fun C s0 H0 f0 b' d hd=>?aj8) (aCj (bz (by rw[aBp];omega)))) (t2:=.lst (((GV (qq s)).map .int).map T.sh)) ?eq3)) rfl (j5 _) (aCj (bz (by rw[aBp,aBV,Di];have:=BR (qq s);omega))))) (d2:=.lst ((Hq s).map .int)) rfl) av)) ?axQ ?cl3) ?fr3) ?aj9
 case aj8=>
   obtain⟨p,_,rfl⟩:=aBI.mp hd;exact⟨(Vo (ak (dz (ay (eN 0) ai rfl) ai Q.c)) ai).1,fun _=>(aG (ay (eN 0) ai rfl) rfl)⟩
 case eq3=>
   rw[List.filter_map,aBL,GV,aBL,aBL];rfl
 case axQ=>
   dsimp only [nJ];exact⟨We,e2⟩
 case cl3=>
   show T.clean (.lst [_,_])=true;rw[jA,T.fZ,T.fZ,T.fZ,mF,pA];rfl
 case fr3=>
   show T.fj (.lst [_,_])=_;rw[T.fj,T.ni,T.ni,T.ni,di,di]
 case aj9=>
 have ow:=ZP s;refine aD E.g E.aj7 (kM (d:=.lst [.lst ((U5 s).is.map .tup),.lst ((U5 s).os.map .tup),.lst ((U5 s).ws.map WY.d)]) (c_ (qq s,(zJ s).length,(cB s).length,An s) E.afu E.Nm (ah (aq E.uR) (ah (ak (bF (aBp ..) E.bq (vL E.bK.1) E.bf)) (ah (ak (bF (aBp ..) E.bq (aq E.bR) E.bf)) (ah (aq E.cO) av)))) ?axR ?cl4) ?fr4) ?aka
 case axR=>
   dsimp only [qp];have:=Ni s;exact⟨We,We,⟨e0,We⟩,⟨We,We⟩,aj4 s⟩
 case cl4=>
   show T.clean (.lst [Q0 (U5 s).is,Q0 (U5 s).os,wsL (U5 s).ws])=true;rw[jA,T.fZ,T.fZ,T.fZ,T.fZ,Q0,Q0,wsL,b5 (BW ow.ii),b5 (BW ow.oo),b5 (SV ow.ww)];rfl
 case fr4=>
   show T.fj (.lst [Q0 (U5 s).is,Q0 (U5 s).os,wsL (U5 s).ws])=_;rw[T.fj,T.ni,T.ni,T.ni,T.ni,Q0,Q0,wsL,di,di,di]
 case aka=>
 refine aH (ED (aib (acN (ao (vFL E.bK.1 rfl) (ao (ED (aF (wW (aq E.cO) (j6 _) ny (nA (ak (bF (aBp ..) E.bq (aq E.bR) E.bf)))) (t2:=.lst (((nmP s).map .str).map T.sh)) (by rw[Vw,aj6];rfl))) (ao (ahJ (v_ E.Nk.1) ai rfl) (ao (v_ E.bR.1) (ao (ahJ (v_ E.Nk.1) ai rfl) aZ)))))) (v_ E.aj7.1) aK)) ?_;rfl
def bV:chk (au yj) ([("script",.cell),("head",fF),("items",fF),("elders",fF),("names",.cell),("boxes",fF),("shapes",fF),("owns",fF),("_law_cell_at",c6),("range",c6),("min",c6),("len",c6),("_law_elders_by",c6),("_law_names_by",c6),("_law_kinds_by",c6),("_law_owns_by",c6)])=true:=Q.f
def Wq:gF Nj ["script"] (au yj):=rL
abbrev Aq:=inClass (top 23) 0
abbrev As:=AT×BB×BB
abbrev Jr:AT:=["self","kinds","elders","starts"]
def v7:As->Ap:=fun(ks,es,ss)=>[.lst (ks.map .str),.lst (es.map .int),.lst (ss.map .int)]
def v8:As->Prop:=fun(ks,es,ss)=>True
def v9:As->BN:=fun(ks,es,ss)=>(uN ks es ss:BN)
structure Wr(X:Cx)(CL:BA):Prop extends bB X where
 wc:Ln X 0 "self"
 pR:Ln X 1 "kinds"
 bR:Ln X 2 "elders"
 qm:Ln X 3 "starts"
 dS:Gl X "list"
 dU:X.mg "list" = none
 cZ:xM X.K (CL "Tree")
 c5:aO X.K (CL "Tree") "kinds"
 bH:aO X.K (CL "Tree") "elders"
 d9:aO X.K (CL "Tree") "starts"
def Ws(E:Wr X CL)(ks:AT)(es ss:BB)(y:Addr)(h:True) :
   gw X CL b (lZ Aq) (ahW Jr y "Tree" [.lst (ks.map .str),.lst (es.map .int),.lst (ss.map .int)]) {nx:=fun δ=>δ[0]? = some (some (.pin y (.ins "Tree" (uN ks es ss)))),rt:=fun _ _=>False}:=by
 have hi:D.bY (ks.map D.str)=true:=qc (fun _=>rfl) _;refine EA E.cZ E.c5 E.wc.1 (fE E.dU (aq E.pR) hi E.dS cH) rfl (aBu rfl) ?_;rw[nB];refine EA E.cZ E.bH E.wc.1 (fE E.dU (aq E.bR) (j5 _) E.dS cH) rfl (aBu rfl) ?_;rw[bJ Q.b,nB];refine EA E.cZ E.d9 E.wc.1 (fE E.dU (aq E.qm) (j5 _) E.dS cH) rfl (aBu rfl) ?_;rw[bJ Q.b,bJ Q.b,nB];exact aj rfl
def jk:FG Jr ["self","kinds","elders","starts"] ["list"] (au Aq):=fG
abbrev yk:=inClass (top 11) 0
abbrev ym:=Ap×Ap×V×Ap×Ap×Ap
abbrev E5:AT:=["self","boxes","names","tree","ins","outs","ways"]
def tU:ym->Ap:=fun(bs,nm,tv,is,os,ws)=>[.lst bs,.lst nm,.val tv,.lst is,.lst os,.lst ws]
def tV:ym->Prop:=fun(bs,nm,tv,is,os,ws)=>D.bY bs=true/\D.bY nm=true/\D.bY is=true/\D.bY os=true/\D.bY ws=true
def tW:ym->BN:=fun(bs,nm,tv,is,os,ws)=>(qJ bs nm (.sh (.val tv)) is os ws:BN)
structure Tt(X:Cx)(CL:BA):Prop extends bB X where
 wc:Ln X 0 "self"
 bK:Ln X 1 "boxes"
 cO:Ln X 2 "names"
 cG:Ln X 3 "tree"
 Am:Ln X 4 "ins"
 v5:Ln X 5 "outs"
 mH:Ln X 6 "ways"
 dS:Gl X "list"
 dU:X.mg "list" = none
 aL:xM X.K (CL "Chart")
 bQ:aO X.K (CL "Chart") "boxes"
 aV:aO X.K (CL "Chart") "names"
 ef:aO X.K (CL "Chart") "tree"
 fS:aO X.K (CL "Chart") "ins"
 gJ:aO X.K (CL "Chart") "outs"
 dD:aO X.K (CL "Chart") "ways"
def Tv(E:Tt X CL)(bs nm:Ap)(tv:V)(is os ws:Ap)(y:Addr)(h:D.bY bs=true/\D.bY nm=true/\D.bY is=true/\D.bY os=true/\D.bY ws=true) :
   gw X CL b (lZ yk) (ahW E5 y "Chart" [.lst bs,.lst nm,.val tv,.lst is,.lst os,.lst ws]) {nx:=fun δ=>δ[0]? = some (some (.pin y (.ins "Chart" (qJ bs nm (.sh (.val tv)) is os ws)))),rt:=fun _ _=>False}:=by
 obtain⟨h1,h2,h3,h4,h5⟩:=h;refine EA E.aL E.bQ E.wc.1 (fE E.dU (aq E.bK) h1 E.dS cH) rfl (aBu rfl) ?_;rw[nB];refine EA E.aL E.aV E.wc.1 (fE E.dU (aq E.cO) h2 E.dS cH) rfl (aBu rfl) ?_;rw[bJ Q.b,nB];refine EA E.aL E.ef E.wc.1 (v_ E.cG.1) rfl (aBu rfl) ?_;rw[bJ Q.b,bJ Q.b,nB];refine EA E.aL E.fS E.wc.1 (fE E.dU (aq E.Am) h3 E.dS cH) rfl (aBu rfl) ?_;rw[bJ Q.b,bJ Q.b,bJ Q.b,nB];refine EA E.aL E.gJ E.wc.1 (fE E.dU (aq E.v5) h4 E.dS cH) rfl (aBu rfl) ?_;rw[bJ Q.b,bJ Q.b,bJ Q.b,bJ Q.b,nB];refine EA E.aL E.dD E.wc.1 (fE E.dU (aq E.mH) h5 E.dS cH) rfl (aBu rfl) ?_;rw[bJ Q.b,bJ Q.b,bJ Q.b,bJ Q.b,bJ Q.b,nB];exact aj rfl
def dm:FG E5 ["self","boxes","names","tree","ins","outs","ways"] ["list"] (au yk):=fG
abbrev Dw:=top 105
abbrev Dy:=Ap×AT×AT×BB×BB×Ap×Ap×Ap
abbrev Nq:AT:=["parts","tree"]
def rX:Dy->Ap:=fun(bs,ns,ks,es,ss,is,os,ws)=>[Dl bs ns ks es ss is os ws]
def nO:Dy->Prop:=fun(bs,ns,ks,es,ss,is,os,ws)=>D.bY bs=true/\D.bY is=true/\D.bY os=true/\D.bY ws=true
def rY:Dy->T:=fun(bs,ns,ks,es,ss,is,os,ws)=>(.ins "Chart" (qJ bs (ns.map .str) (.ins "Tree" (uN ks es ss)) is os ws):T)
structure ZV(X:Cx)(CL:BA):Prop extends bB X where
 bL:Ln X 0 "parts"
 cG:Ln X 1 "tree"
 ZW:Gl X "Tree"
 dS:Gl X "list"
 Tw:Gl X "Chart"
 ZX:Fm X CL "Tree" 1 4 v7 v8 v9
 dU:X.mg "list" = none
 Tz:Fm X CL "Chart" 1 7 tU tV tW
def ZY(E:ZV X CL) :
   lA X CL b Dw Nq rX nO rY:=by
 rintro⟨bs,ns,ks,es,ss,is,os,ws⟩ h;dsimp only [nO,rX,rY]at h ⊢;obtain⟨ib,ii,io,iw⟩:=h;refine aD E.g E.cG (aF (mk_ (ks,es,ss) E.ZX E.ZW (ah (bZ (fE E.dU (aI (aq E.bL) ai rfl) (j6 _) E.dS cH)) (ah (bZ (fE E.dU (aI (aq E.bL) ai rfl) (j5 _) E.dS cH)) (ah (bZ (fE E.dU (aI (aq E.bL) ai rfl) (j5 _) E.dS cH)) av))) trivial (z7 ks es ss)) (t2:=.ins "Tree" (uN ks es ss)) rfl) ?_;exact aH (mkP (f:="tree") (U3:=Dg bs (ns.map .str)) (fs2:=Dh is os ws) (fun v=>(bs,ns.map .str,v,is,os,ws)) E.Tz E.Tw
   (EE (bZ (fE E.dU (aI (aq E.bL) ai rfl) ib E.dS cH)) (EE (bZ (fE E.dU (aI (aq E.bL) ai rfl) (j6 _) E.dS cH))
     (VG (vM E.cG.1)
       (ah (bZ (fE E.dU (aI (aq E.bL) ai rfl) ii E.dS cH)) (ah (bZ (fE E.dU (aI (aq E.bL) ai rfl) io E.dS cH)) (ah (bZ (fE E.dU (aI (aq E.bL) ai rfl) iw E.dS cH)) av))))))
   (fun v=>rfl) (fun v=>⟨ib,j6 _,ii,io,iw⟩) (fun v=>rfl) (EF ib (j6 _)) (EG ii io iw)) rfl
def m7:FG Nq ["parts"] ["Tree","list","Chart"] (au Dw):=fG
abbrev Nr:=top 88
abbrev Nt:=Str×Str×AT
abbrev Wt:AT:=["first","further","texts","words","text"]
def yo:Nt->Ap:=fun(f,g,ts)=>[.str f,.str g,.lst (ts.map .str)]
def pB:Nt->Prop:=fun(f,g,ts)=>ts.length<=100
def yp:Nt->T:=fun(f,g,ts)=>(.lst (((Gy f g ts).map .str).map T.sh):T)
structure akb(X:Cx)(CL:BA):Prop extends bB X where
 anO:Ln X 0 "first"
 afv:Ln X 1 "further"
 uZ:Ln X 2 "texts"
 aN:Ln X 3 "words"
 b6:Ln X 4 "text"
def akc(E:akb X CL) :
   lA X CL b Nr Wt yo pB yp:=by
 rintro⟨f,g,ts⟩ h;dsimp only [pB,yo,yp]at h ⊢;refine aD E.g E.aN (dM cj (aB0 _)) ?_;refine j4 E.g E.b6 (fun j δ=>∃o,δ=[some (.sh (.str f)),some (.sh (.str g)),some (.sh (.lst (ts.map .str))),some (.lst (((Gy f g (ts.take j)).map .str).map T.sh)),o])
   (cY (v_ E.uZ.1)) ⟨_,rfl⟩ (fun j δ ⟨_,e⟩=>by subst e;exact aBu rfl) ?turn ?fin
 case turn=>
   rintro j d δ hj ⟨o,rfl⟩;rw[aBR]at hj;cases e:ts[j]? with
   | none=>rw[e]at hj;cases hj
   | some t=>
     rw[e]at hj;cases (aBX hj);have htl:(ts.take j).length<=100:=by rw[aCe];omega
     show gw X CL b _ _ {nx:=fun δ=>∃o,δ=[_,_,_,some (.lst (((Gy f g (ts.take (j+1))).map .str).map T.sh)),o],rt:=_,bk:=_,ct:=_};rw[wZ e,aiW];generalize ts.take j=l at htl ⊢;have hll:=uQ f g l;have hem:((Gy f g l).map D.str).isEmpty=decide (l=[]):=by cases l<;>rfl
     refine lz E.aN.1 rfl (vU (t:=.sh (.str (if l=[] then f else g))) (aih (vL E.aN.1)) (fun hp=>aF (v_ E.afv.1) (by
       rw[hem,aCB,aC1]at hp;rw[aBx hp])) (fun hp=>aF (v_ E.anO.1) (by
       rw[hem,aC9,decide_eq_true_iff]at hp;rw[aBE hp]))) rfl (by rw[aBp,aBp];omega) ?_
     refine lz E.aN.1 rfl (v_ E.b6.1) rfl (by rw[aBz,aBp,aBp,aBV];omega) (aj ?_);rw[aBF,aBF,aBA];exact⟨_,rfl⟩
 case fin=>
   rintro δ ⟨o,rfl⟩;refine aH (vM E.aN.1) ?_;rw[aBp,aCv]
def sR:FG Wt ["first","further","texts"] [] (au Nr):=fG
abbrev Au:=top 91
abbrev Av:=CH×D
abbrev Js:AT:=["chart","term","more","name"]
def lJ:Av->Ap:=fun(c,d)=>[c.d,d]
def ez:Av->Prop:=fun(c,d)=>nF c/\iF c.bs.length d
def lK:Av->T:=fun(c,d)=>(.sh (.str (dO c.bn d)):T)
structure Wu(X:Cx)(CL:BA):Prop extends bB X where
 aB:Ln X 0 "chart"
 nK:Ln X 1 "term"
 mG:Ln X 2 "more"
 cJ:Ln X 3 "name"
 akd:Gl X "str"
 ake:X.mg "str" = none
 aL:xM X.K (CL "Chart")
 bQ:aO X.K (CL "Chart") "boxes"
def Wv(E:Wu X CL) :
   lA X CL b Au Js lJ ez lK:=by
 rintro⟨c,d⟩ h;dsimp only [ez,lJ,lK]at h ⊢;obtain⟨hc,a,k,rfl,ha,hk⟩:=h;have hl:=aiR hk;have hkl:=tM hk;have hn:=qL hc.bn a.toNat;refine aD E.g E.mG (aG (ay (aq E.nK) ai rfl) rfl) ?_;refine aS (cg (ay (aq E.nK) ai rfl) (ak (cS ai))).1 (fun hp=>?_) (fun hp=>aj ?_)
 . refine aH (Sj E.ake E.akd (aq E.mG) hl) ?_;show T.sh _=T.sh (.str (dO c.bn (.tup [.int a,.int k])));rw[EW,aBE (aBv hp)]
   try rfl
 have hp:¬ a=-1:=aBG hp;have ha:0<=a/\a<c.bs.length:=by
   rcases ha with e|e
   . exact absurd e hp
   . exact e
 refine aD E.g E.cJ (aG (ay (aI (cA E.aL E.bQ (aq E.aB) j8) (ay (aq E.nK) ai rfl) (apg ha.1 ha.2)) ai rfl) rfl) ?_;refine aS (cg (aq E.mG) ai).1 (fun hq=>?_) (fun hq=>aj ?_)
 . refine aH (v_ E.cJ.1) ?_;show T.sh _=T.sh (.str (dO c.bn (.tup [.int a,.int k])));rw[EW,aBx (show ¬ a=-1 from hp),aBE (show k=0 from aBv hq)]
   try rfl
 have hq:¬ k=0:=aBG hq;have e1:("+":Str).length=1:=rfl;have e0:("":Str).length=0:=rfl;by_cases h0:0<k
 . refine aH (oY (ak (oY (aq E.cJ) (ak (vU (t:=.sh (.str "+")) (Ey (aq E.mG) ai).1 (fun _=>b9) (fun z=>absurd h0 (aBG z)))) (by rw[aB8,e1];omega))) (ak (Sj E.ake E.akd (aq E.mG) hl)) (by rw[aB8,str_len,e1];show _+(sI k).length<=_;omega)) ?_;show T.sh _=T.sh (.str (dO c.bn (.tup [.int a,.int k])));rw[EW,aBx (show ¬ a=-1 from hp),aBx (show ¬ k=0 from hq)];have ep:EV k="+":=by rw[EV,aBE h0]
   have:((k.natAbs:Nat):Int)=k:=by omega
   show _=T.sh (.str (_++EV k++sI ((k.natAbs:Nat):Int)));rw[this,ep]
   try rfl
 . refine aH (oY (ak (oY (aq E.cJ) (ak (vU (t:=.sh (.str "")) (Ey (aq E.mG) ai).1 (fun z=>absurd (aBv z) h0) (fun _=>b9))) (by rw[aB8,e0];omega))) (ak (Sj E.ake E.akd (aq E.mG) hl)) (by rw[aB8,str_len,e0];show _+(sI k).length<=_;omega)) ?_;show T.sh (.str (c.bn.getD a.toNat Str.empty++Str.empty++sI k))=T.sh (.str (dO c.bn (.tup [.int a,.int k])));rw[EW,aBx (show ¬ a=-1 from hp),aBx (show ¬ k=0 from hq),Str.append_empty,aiS (show k<0 by omega),← aC7];have ep:EV k="-":=by rw[EV,aBx h0]
   show _=T.sh (.str (_++EV k++_));rw[ep]
   try rfl
def kO:FG Js ["chart","term"] ["str"] (au Au):=fG
abbrev Dz:=top 89
abbrev DB:=CH×D
abbrev Nu:AT:=["chart","ask","mark"]
def rZ:DB->Ap:=fun(c,d)=>[c.d,d]
def nP:DB->Prop:=fun(c,d)=>nF c/\tL c.bs.length c.es.length d
def r6:DB->T:=fun(c,d)=>(.sh (.str (vX c.bn c.ns d)):T)
structure ZZ(X:Cx)(CL:BA):Prop extends bB X where
 aB:Ln X 0 "chart"
 lB:Ln X 1 "ask"
 jJ:Ln X 2 "mark"
 kj:Gl X "term_text"
 qt:Fc X CL "term_text" 1 2 lJ ez lK
 aL:xM X.K (CL "Chart")
 aV:aO X.K (CL "Chart") "names"
def Z6(E:ZZ X CL) :
   lA X CL b Dz Nu rZ nP r6:=by
 rintro⟨c,d⟩ h;dsimp only [nP,rZ,r6]at h ⊢;obtain⟨hc,hd⟩:=h;have e1:(" ":Str).length=1:=rfl;rcases hd with⟨w,k,rfl,hw,k0,k1⟩|⟨w,s,t,rfl,hw,hs,ht⟩
 . have hbl:=qL hc.nk k.toNat;have hwl:w.length<=4:=by rcases hw with rfl|rfl<;>decide +kernel
   refine aD E.g E.jJ (aG (ay (aq E.lB) ai rfl) rfl) ?_;refine aS (ji (l:=["open","shut"]) (aq E.jJ) (e7 rfl)).1 (fun hp=>?_) (fun hp=>absurd hp (by rcases hw with rfl|rfl<;>decide +kernel));refine aH (oY (ak (oY (aq E.jJ) az (by rw[aB8,e1];omega))) (aI (cA E.aL E.aV (aq E.aB) eO) (ay (aq E.lB) ai rfl) (mE Str.empty k0 (by rw[hc.nl];exact k1))) (by rw[aB8,str_len,e1];omega)) ?_;show T.sh _=T.sh (.str (vX c.bn c.ns _));rw[aiT]
 . have h1:=uP hc.bn hs;have h2:=uP hc.bn ht;have hwl:w.length<=2:=by
     have:∀x∈(["<","<=","=","!="]:AT),x.length<=2:=Q.f;exact this w hw
   refine aD E.g E.jJ (aG (ay (aq E.lB) ai rfl) rfl) ?_;refine aS (ji (l:=["open","shut"]) (aq E.jJ) (e7 rfl)).1 (fun hp=>absurd hp (by
     have:∀x∈(["<","<=","=","!="]:AT),¬ decide (x∈(["open","shut"]:AT))=true:=Q.f;exact this w hw)) (fun hp=>aj ?_)
   refine aH (xU (l:=[dO c.bn s,w,dO c.bn t]) az (bZ (ds:=([dO c.bn s,w,dO c.bn t]:AT).map D.str) (pN (ao (c_ (c,s) E.qt E.kj (ah (aq E.aB) (ah (ay (aq E.lB) ai rfl) av)) (by dsimp only [ez];exact⟨hc,hs⟩) rfl) (ao (v_ E.jJ.1) (ao (c_ (c,t) E.qt E.kj (ah (aq E.aB) (ah (ay (aq E.lB) ai rfl) av)) (by dsimp only [ez];exact⟨hc,ht⟩) rfl) aZ))) aK)) (EL (by
     show(dO c.bn s).length+(w.length+((dO c.bn t).length+0))+3<=_;omega))) ?_
   show T.sh _=T.sh (.str (vX c.bn c.ns _));rw[Zv,aiG]
def qu:FG Nu ["chart","ask"] ["term_text"] (au Dz):=fG
abbrev Aw:=top 90
abbrev Ax:=CH×D
abbrev Jt:AT:=["chart","deed","word","name"]
def lM:Ax->Ap:=fun(c,d)=>[c.d,d]
def fU:Ax->Prop:=fun(c,d)=>nF c/\Ab c.bs.length d
def lN:Ax->T:=fun(c,d)=>(.sh (.str (f7 c.bn d)):T)
structure Ww(X:Cx)(CL:BA):Prop extends bB X where
 aB:Ln X 0 "chart"
 c7:Ln X 1 "deed"
 aR:Ln X 2 "word"
 cJ:Ln X 3 "name"
 kj:Gl X "term_text"
 qt:Fc X CL "term_text" 1 2 lJ ez lK
 aL:xM X.K (CL "Chart")
 bQ:aO X.K (CL "Chart") "boxes"
def Wx(E:Ww X CL) :
   lA X CL b Aw Jt lM fU lN:=by
 rintro⟨c,d⟩ h;dsimp only [fU,lM,lN]at h ⊢;obtain⟨hc,hd⟩:=h;have e1:(" ":Str).length=1:=rfl;rcases hd with⟨n,rfl,hn⟩|⟨k,t,rfl,hk,ht⟩|⟨n,t,rfl,hn,ht⟩
 . refine aD E.g E.aR (aG (ay (aq E.c7) ai rfl) rfl) ?_;refine aS (bI (aq E.aR) az).1 (fun hp=>?_) (fun hp=>absurd hp Q.b);refine aH (oY az (ay (aq E.c7) ai rfl) (by rw[aB8];show 5+n.length<=_;omega)) ?_;show T.sh _=T.sh (.str (f7 c.bn _));rw[Zu]
 . have htl:=uP hc.bn ht;have hbl:=qL hc.bn k.toNat;refine aD E.g E.aR (aG (ay (aq E.c7) ai rfl) rfl) ?_;refine aS (bI (aq E.aR) az).1 (fun hp=>absurd hp Q.b) (fun hp=>aj ?_);refine aD E.g E.cJ (vU (bI (aq E.aR) az).1 (fun _=>aG (ay (aI (cA E.aL E.bQ (aq E.aB) j8) (ay (aq E.c7) ai rfl) (apg hk.1 hk.2)) ai rfl) rfl) (fun z=>absurd z Q.b)) ?_;refine aH (xU (l:=["put",c.bn.getD k.toNat Str.empty,dO c.bn t]) az (bZ (ds:=(["put",c.bn.getD k.toNat Str.empty,dO c.bn t]:AT).map D.str) (pN (ao (v_ E.aR.1) (ao (v_ E.cJ.1) (ao (c_ (c,t) E.qt E.kj (ah (aq E.aB) (ah (ay (aq E.c7) ai rfl) av)) (by dsimp only [ez];exact⟨hc,ht⟩) rfl) aZ))) aK)) (EL (by
     show 3+((c.bn.getD k.toNat Str.empty).length+((dO c.bn t).length+0))+3<=_;omega))) ?_
   show T.sh _=T.sh (.str (f7 c.bn _));rw[afc,aiG]
 . have htl:=uP hc.bn ht;refine aD E.g E.aR (aG (ay (aq E.c7) ai rfl) rfl) ?_;refine aS (bI (aq E.aR) az).1 (fun hp=>absurd hp Q.b) (fun hp=>aj ?_);refine aD E.g E.cJ (vU (t:=.sh (.str n)) (bI (aq E.aR) az).1 (fun z=>absurd z Q.b) (fun _=>aG (ay (aq E.c7) ai rfl) rfl)) ?_;refine aH (xU (l:=["say",n,dO c.bn t]) az (bZ (ds:=(["say",n,dO c.bn t]:AT).map D.str) (pN (ao (v_ E.aR.1) (ao (v_ E.cJ.1) (ao (c_ (c,t) E.qt E.kj (ah (aq E.aB) (ah (ay (aq E.c7) ai rfl) av)) (by dsimp only [ez];exact⟨hc,ht⟩) rfl) aZ))) aK)) (EL (by
     show 3+(n.length+((dO c.bn t).length+0))+3<=_;omega))) ?_
   show T.sh _=T.sh (.str (f7 c.bn _));rw[afd,aiG]
def kP:FG Jt ["chart","deed"] ["term_text"] (au Aw):=fG
abbrev yq:=top 87
abbrev DC:=CH×WY
abbrev Nv:AT:=["chart","way","words"]
def r9:DC->Ap:=fun(c,w)=>[c.d,w.d]
def nQ:DC->Prop:=fun(c,w)=>nF c/\w6 c.bs.length c.es.length c.is.length 40 w
def sd:DC->T:=fun(c,w)=>(.sh (.str (Qm c.bn c.ns w)):T)
structure Z7(X:Cx)(CL:BA):Prop extends bB X where
 aB:Ln X 0 "chart"
 E6:X.env.kindOf "chart" = some .cell
 f9:Ln X 1 "way"
 aN:Ln X 2 "words"
 Z8:Gl X "SIGN"
 E7:Gl X "linked"
 Z9:Gl X "ASKS"
 anP:Gl X "DEEDS"
 E8:Gl X "TARGET"
 TF:Gl X "MODE"
 aac:∃u,X.mg "SIGN" = some (.int 1 u)
 Wy:Fc X CL "linked" 1 3 yo pB yp
 aad:∃u,X.mg "ASKS" = some (.int 2 u)
 TH:∃u,X.mg "DEEDS" = some (.int 3 u)
 E9:∃u,X.mg "TARGET" = some (.int 4 u)
 TJ:∃u,X.mg "MODE" = some (.int 5 u)
 aae:Fc X CL "ask_text" 2 2 rZ nP r6
 u5:Fc X CL "deed_text" 2 2 lM fU lN
 aL:xM X.K (CL "Chart")
 aV:aO X.K (CL "Chart") "names"
def aaf(E:Z7 X CL) :
   lA X CL b yq Nv r9 nQ sd:=by
 rintro⟨c,w⟩ h;dsimp only [nQ,r9,sd]at h ⊢;obtain⟨hc,hw⟩:=h;obtain⟨wl1,wl2⟩:=aiY hc hw;have q1:=hw.l1;have q2:=hw.l2;have hle:∀l:AT,((l.map D.str).map T.sh).length=l.length:=fun l=>by rw[aBp,aBp]
 refine aD E.g E.aN (aF (pN (ao b9 (ao (aG (ay (aq E.f9) (ak (aP E.aac E.Z8)) rfl) rfl) aZ)) aK) (t2:=.lst ((([("on":Str),w.sg]:AT).map .str).map T.sh)) rfl) ?_;have hA:∀{l:Ap} {f:D->Str},T.lst ((l.filter fun _=>true).map fun d=>T.sh (.str (f d)))=T.lst (((l.map f).map .str).map T.sh):=fun {l f}=>by
   rw[dJ,aBL,aBL];rfl
 refine VB (δ1:=[some (.sh c.d),some (.sh w.d),some (.lst (((([("on":Str),w.sg]:AT)).map D.str).map T.sh))]) (tl2:=((Gy "if" "and" (w.qs.map (vX c.bn c.ns))).map D.str).map T.sh) (tl:=((([("on":Str),w.sg]:AT)).map D.str).map T.sh) E.aN.1 rfl ?auM rfl (by rw[hle,hle,uQ,aBp];show 2+_<=_;omega) ?auN
 case auM=>
   refine c_ (("if":Str),("and":Str),w.qs.map (vX c.bn c.ns)) E.Wy E.E7 (ah az (ah az (ah ?aAw av))) (by dsimp only [pB];rw[List.length_map];omega) (mF _);refine bZ (aF (jN (p:=fun _=>true) (g:=fun d=>.sh (.str (vX c.bn c.ns d))) (bC (.cons E.aB.1 (.inl E.E6) .nil) Q.b) E.g.calm (GJ (C7 (v_ E.f9.1) (ak (aP E.aad E.Z9)) rfl)) (.inr rfl) (fun C s0 H0 f0 b' d hd=>?_) (aCj (bz Q.a))) (t2:=.lst (((w.qs.map (vX c.bn c.ns)).map .str).map T.sh)) hA);exact⟨rfl,fun _=>c_ (c,d) (l0 E.aae) oZ (ah (mX 1) (ah (eN 0) av)) (by dsimp only [nP];exact⟨hc,(hw.g1 d hd).pr⟩) rfl⟩
 case auN=>
 rw[← aBF,← aBF];refine VB (δ1:=[some (.sh c.d),some (.sh w.d),some (.lst (((([("on":Str),w.sg]++Gy "if" "and" (w.qs.map (vX c.bn c.ns)):AT)).map D.str).map T.sh))]) (tl2:=((Gy "do" "then" (w.ds.map (f7 c.bn))).map D.str).map T.sh) (tl:=((([("on":Str),w.sg]++Gy "if" "and" (w.qs.map (vX c.bn c.ns)):AT)).map D.str).map T.sh) E.aN.1 rfl ?auO rfl (by rw[hle,hle,aBz,uQ,uQ,aBp,aBp];show 2+_+_<=_;omega) ?xm
 case auO=>
   refine c_ (("do":Str),("then":Str),w.ds.map (f7 c.bn)) E.Wy E.E7 (ah az (ah az (ah ?aAx av))) (by dsimp only [pB];rw[List.length_map];omega) (mF _);refine bZ (aF (jN (p:=fun _=>true) (g:=fun d=>.sh (.str (f7 c.bn d))) (bC (.cons E.aB.1 (.inl E.E6) .nil) Q.b) E.g.calm (GJ (C7 (v_ E.f9.1) (ak (aP E.TH E.anP)) rfl)) (.inr rfl) (fun C s0 H0 f0 b' d hd=>?_) (aCj (bz Q.a))) (t2:=.lst (((w.ds.map (f7 c.bn)).map .str).map T.sh)) hA);exact⟨rfl,fun _=>c_ (c,d) (l0 E.u5) oZ (ah (mX 1) (ah (eN 0) av)) (by dsimp only [fU];exact⟨hc,(hw.g2 d hd).pr⟩) rfl⟩
 case xm=>
 rw[← aBF,← aBF];have hj:JoinOk " " ([("on":Str),w.sg]++Gy "if" "and" (w.qs.map (vX c.bn c.ns))++Gy "do" "then" (w.ds.map (f7 c.bn))++YJ c.ns w++Ql w)=true/\Txt.join " " ([("on":Str),w.sg]++Gy "if" "and" (w.qs.map (vX c.bn c.ns))++Gy "do" "then" (w.ds.map (f7 c.bn))++YJ c.ns w++Ql w)=Qm c.bn c.ns w:=by
   have e:[("on":Str),w.sg]++Gy "if" "and" (w.qs.map (vX c.bn c.ns))++Gy "do" "then" (w.ds.map (f7 c.bn))++YJ c.ns w++Ql w=("on":Str)::wyL c.bn c.ns w:=by
     unfold wyL;rw[aBA,aBA [("on":Str),w.sg]];rfl
   rw[e];refine⟨aiX (B:=110) rfl (fun x hx=>?_) (by rw[aBP];omega),BX _ _⟩;rcases aBq.mp hx with rfl|hx
   . decide +kernel
   . exact wl1 x hx
 have hlen:([("on":Str),w.sg]++Gy "if" "and" (w.qs.map (vX c.bn c.ns))++Gy "do" "then" (w.ds.map (f7 c.bn))).length<=200:=by
   rw[aBz,aBz,uQ,uQ,aBp,aBp];show 2+_+_<=_;omega
 generalize [("on":Str),w.sg]++Gy "if" "and" (w.qs.map (vX c.bn c.ns))++Gy "do" "then" (w.ds.map (f7 c.bn))=W at hj hlen ⊢;have htg:=hw.fin.tg;refine Vu (fun δ=>δ=[some (.sh c.d),some (.sh w.d),some (.lst (((W++YJ c.ns w).map .str).map T.sh))])
   (lC (ay (aq E.f9) (ak (aP E.E9 E.E8)) rfl) (ak (cS ai))).1 (fun hp=>?_) (fun hp=>?_) ?_
 . have hp:¬ w.tg=-1:=by
     rw[aCB]at hp;exact aBG hp
   have ht:0<=w.tg/\w.tg<c.es.length:=by
     rcases htg with⟨e,_⟩|⟨e,_⟩
     . exact absurd e hp
     . exact e
   refine VB E.aN.1 rfl (aF (pN (ao b9 (ao (aG (aI (cA E.aL E.aV (aq E.aB) eO) (ay (aq E.f9) (ak (aP E.E9 E.E8)) rfl) (mE Str.empty ht.1 (by rw[hc.nl];exact ht.2))) rfl) aZ)) aK) (t2:=.lst (((["to",c.ns.getD w.tg.toNat Str.empty]:AT).map .str).map T.sh)) rfl) rfl (by rw[hle,hle];show _+2<=_;omega) (aj ?_);rw[← aBF,← aBF,YJ,aBx hp]
   try rfl
 . have hp:w.tg=-1:=by
     rw[aC9]at hp;exact aBv hp
   refine aj ?_;rw[YJ,aBE hp,aBW]
   try rfl
 rintro δ rfl;have auP:(W++YJ c.ns w).length<=202:=by
   rw[aBz];have e1:(YJ c.ns w).length<=2:=by unfold YJ;split<;>exact aBu rfl
   omega
 generalize W++YJ c.ns w=W2 at hj auP ⊢;refine Vu (fun δ=>δ=[some (.sh c.d),some (.sh w.d),some (.lst (((W2++Ql w).map .str).map T.sh))])
   (vS (ay (aq E.f9) (ak (aP E.TJ E.TF)) rfl) az).1 (fun hp=>?_) (fun hp=>?_) ?_
 . have hp:¬ w.md="new":=by
     rw[aCB]at hp;exact aBG hp
   refine lz E.aN.1 rfl (aG (ay (aq E.f9) (ak (aP E.TJ E.TF)) rfl) rfl) rfl (by rw[hle];omega) (aj ?_);rw[Ql,aBx hp,aBF,aBF]
   try rfl
 . have hp:w.md="new":=by
     rw[aC9]at hp;exact aBv hp
   refine aj ?_;rw[Ql,aBE hp,aBW]
   try rfl
 rintro δ rfl;refine aH (xU az (vL E.aN.1) hj.1) ?_;rw[hj.2]
def fV:chk (au yq) ([("chart",.cell),("way",fF),("words",fF),("SIGN",c6),("linked",c6),("ASKS",c6),("DEEDS",c6),("TARGET",c6),("MODE",c6)])=true:=Q.f
def Wz:gF Nv ["chart","way"] (au yq):=rL
def jb(l:AT):T:=.lst ((l.map D.str).map T.sh)
def afw(l:AT):T.fj (jb l)=.lst (l.map .str):=di _
def anQ{s:Nat}{f:Nat->α}{x:α}:((List.range n).map f).set s x=(List.range n).map fun m=>if m=s then x else f m:=by
 refine aCP fun i=>?_;rw[aEc,aBR,aBR];by_cases hi:i<n
 . rw[aB9 hi];by_cases e:s=i
   . subst e;rw[aBE rfl,aBp,aBO,aBE hi];simp
   . rw[aBx e];have:¬ i=s:=fun z=>e z.symm;simp[this]
 . rw[aCs (by rw[aBO];omega)];by_cases e:s=i
   . subst e;rw[aBE rfl,aBp,aBO,aBx hi];rfl
   . rw[aBx e];rfl
def aag(c:CH)(l:EM)(w:WY)(m:Nat):lI c (l++[w]) m=lI c l m++if w.src=(m:Int) then [Qm c.bn c.ns w] else []:=by
 unfold lI;rw[aCM,aBF];congr 1;by_cases e:w.src=(m:Int)
 . rw[aBE e,List.filter_cons,aBE (aBH e)];rfl
 . rw[if_neg e,List.filter_cons,if_neg (by simpa using e)];rfl
theorem zip_get{ds es:Ap}(h:(Sq ds es)[j]? = some d):∃x y,ds[j]? = some x/\es[j]? = some y/\d=.tup [x,y]:=by
 unfold Sq at h;rw[aBR]at h;cases e:(ds.zip es)[j]? with
 | none=>rw[e]at h;cases h
 | some p=>
   rw[e]at h;obtain⟨h1,h2⟩:=List.getElem?_zip_eq_some.mp e;exact⟨p.1,p.2,h1,h2,(aBX h).symm⟩
abbrev u6:=top 86
abbrev Ay:=CH
abbrev Ju:AT:=["chart","found","ins","outs","texts","way"]
def pT:Ay->Ap:=fun c=>[c.d]
def pU:Ay->Prop:=fun c=>nF c
def pV:Ay->T:=fun c=>(.lst ((List.range c.es.length).map fun m=>jb (Dn c m)):T)
structure WB(X:Cx)(CL:BA):Prop extends bB X where
 aB:Ln X 0 "chart"
 E6:X.env.kindOf "chart" = some .cell
 aX:Ln X 1 "found"
 Am:Ln X 2 "ins"
 v5:Ln X 3 "outs"
 uZ:Ln X 4 "texts"
 f9:Ln X 5 "way"
 auQ:Gl X "zip"
 xo:Gl X "SOURCE"
 DE:Gl X "way_text"
 auR:X.mg "zip" = none
 xq:∃u,X.mg "SOURCE" = some (.int 0 u)
 aah:Fc X CL "way_text" 3 2 r9 nQ sd
 u5:Fc X CL "deed_text" 2 2 lM fU lN
 aL:xM X.K (CL "Chart")
 dD:aO X.K (CL "Chart") "ways"
 fS:aO X.K (CL "Chart") "ins"
 gJ:aO X.K (CL "Chart") "outs"
def WC(E:WB X CL) :
   lA X CL b u6 Ju pT pU pV:=by
 intro c h;dsimp only [pU,pT,pV]at h ⊢;have hc:nF c:=h;have hle:∀l:AT,((l.map D.str).map T.sh).length=l.length:=fun l=>by rw[aBp,aBp]
 have e1:=hc.e1;have il:=hc.il;have ol:c.os.length=c.es.length:=by rw[← il];exact hc.ow.n2
 have hA:∀{l:Ap} {f:D->Str},T.lst ((l.filter fun _=>true).map fun d=>T.sh (.str (f d)))=jb (l.map f):=fun {l f}=>by
   rw[dJ,jb,aBL,aBL];rfl
 refine aD E.g E.aX (dM cj (aB0 _)) ?_;refine Dd E.g (uK E.g.nd E.g.calm E.Am E.v5) (fun j δ=>∃o3 o4 o5 o6,δ=[some (.sh c.d),some (.lst ((List.range j).map fun m=>jb (MP c m))),o3,o4,o5,o6])
   (arw E.auR (jG E.aL E.fS (v_ E.aB.1) BQ) (jG E.aL E.gJ (v_ E.aB.1) xW) E.auQ (by rw[aBp,aBp,il,ol])) ⟨_,_,_,_,rfl⟩
   (fun j δ ⟨_,_,_,_,e⟩=>by subst e;intro i hi;simp only[aBq,aBJ,aCg]at hi;rcases hi with rfl|rfl<;>exact aBu rfl) ?turn ?fin
 case turn=>
   rintro j d δ hj ⟨o3,o4,o5,o6,rfl⟩;obtain⟨x,y,hx,hy,rfl⟩:=zip_get hj;rw[aBR]at hx hy;cases ex:c.is[j]? with
   | none=>rw[ex]at hx;cases hx
   | some p=>
     cases ey:c.os[j]? with
     | none=>rw[ey]at hy;cases hy
     | some q=>
       rw[ex]at hx;rw[ey]at hy;cases aBX hx;cases aBX hy;have E3:j<c.es.length:=by have:=(aB4.mp ex).1;omega
       have hp:=hc.ow.ii p (aBQ ex);have hq:=hc.ow.oo q (aBQ ey);have lp:=hp.l1;have lq:=hq.l1;have hio:MP c j=p.map (fun d=>"in " ++ f7 c.bn d)++q.map fun d=>"out " ++ f7 c.bn d:=by
         unfold MP;rw[aBs,aBs,ex,ey];rfl
       refine⟨_,rfl,?_⟩;refine tF (p:=fun _=>true) (gg:=fun d=>.sh (.str ("in " ++ f7 c.bn d))) E.g E.uZ (bC (.cons E.aB.1 (.inl E.E6) .nil) Q.b) (GJ (v_ E.Am.1)) (.inr rfl) (fun C s0 H0 f0 b' d hd=>⟨rfl,fun _=>oY az (ak (c_ (c,d) (l0 E.u5) oZ (ah (mX 1) (ah (eN 0) av)) (by dsimp only [fU];exact⟨hc,(hp.g1 d hd).pr⟩) rfl)) (by rw[sizeLine_eq];have:=Ad hc.bn (hp.g1 d hd).pr;show 3+(f7 c.bn d).length<=_;omega)⟩) (Nat.le_of_lt (bz Q.a)) ?rst (by exact Nat.le_of_ble_eq_true rfl) (jt ⟨_,rfl⟩)
       case rst=>
       rw[hA];refine VB E.uZ.1 rfl (aF (jN (p:=fun _=>true) (g:=fun d=>.sh (.str ("out " ++ f7 c.bn d))) (bC (.cons E.aB.1 (.inl E.E6) .nil) Q.b) E.g.calm (GJ (v_ E.v5.1)) (.inr rfl) (fun C s0 H0 f0 b' d hd=>⟨rfl,fun _=>oY az (ak (c_ (c,d) (l0 E.u5) oZ (ah (mX 1) (ah (eN 0) av)) (by dsimp only [fU];exact⟨hc,(hq.g1 d hd).pr⟩) rfl)) (by rw[sizeLine_eq];have:=Ad hc.bn (hq.g1 d hd).pr;show 4+(f7 c.bn d).length<=_;omega)⟩) (Nat.le_of_lt (bz Q.a))) (t2:=jb (q.map fun d=>"out " ++ f7 c.bn d)) hA) rfl (by rw[hle,hle,List.length_map,List.length_map];omega) ?_;rw[← aBF,← aBF,← hio];refine lz E.aX.1 rfl (aF (vM E.uZ.1) (t2:=jb (MP c j)) rfl) rfl (by rw[aBp,aBO];omega) (aj ?_);show ∃o3 o4 o5 o6,_=[_,some (T.lst ((List.range (j+1)).map fun m=>jb (MP c m))),o3,o4,o5,o6];rw[aDb,aBF];exact⟨_,_,_,_,rfl⟩
 case fin=>
 rintro δ ⟨o3,o4,o5,o6,rfl⟩;have hzl:(Sq (c.is.map D.tup) (c.os.map D.tup)).length=c.es.length:=by
   rw[Sq,aBp,List.length_zip,aBp,aBp,il,ol,Nat.min_self]
 rw[hzl];have hwl:=hc.ow.wl;dsimp only at hwl;refine j4 E.g E.f9 (fun j δ=>∃o3 o4 o5 o6,δ=[some (.sh c.d),some (.lst ((List.range c.es.length).map fun m=>jb (MP c m++lI c (c.ws.take j) m))),o3,o4,o5,o6])
   (cY (jG E.aL E.dD (v_ E.aB.1) xX)) ?base (fun j δ ⟨_,_,_,_,e⟩=>by subst e;exact aBu rfl) ?WD ?fin2
 case base=>
   show ∃o3 o4 o5 o6,_=[_,some (T.lst ((List.range c.es.length).map fun m=>jb (MP c m++lI c (c.ws.take 0) m))),o3,o4,o5,o6];rw[show(fun m=>jb (MP c m++lI c (c.ws.take 0) m))=fun m=>jb (MP c m) from funext fun m=>by rw[show lI c (c.ws.take 0) m=[] from rfl,aBW]];exact⟨_,_,_,_,rfl⟩
 case WD=>
   rintro j d δ hj ⟨o3,o4,o5,o6,rfl⟩;rw[aBR]at hj;cases ew:c.ws[j]? with
   | none=>rw[ew]at hj;cases hj
   | some w=>
     rw[ew]at hj;cases aBX hj;have hw:=hc.ow.ww w (aBQ ew);dsimp only at hw;obtain⟨s0,s1⟩:=hw.sr;obtain⟨s,hs⟩:∃s:Nat,w.src=(s:Int):=⟨w.src.toNat,We⟩;have hsl:s<c.es.length:=by omega
     have aAz:(lI c (c.ws.take j) s).length<=40:=EX hc _ (by rw[aCe];omega) s;have aAA:=SY hc s;have hat:((List.range c.es.length).map fun m=>jb (MP c m++lI c (c.ws.take j) m))[s]? = some (jb (MP c s++lI c (c.ws.take j) s)):=by
       rw[aBR,aB9 hsl];rfl
     refine aif s E.aX.1 (Mp (ay (aq E.f9) (ak (aP E.xq E.xo)) (d:=.int w.src) rfl) (by rw[hs])) rfl hat (c_ (c,w) E.aah E.DE (ah (aq E.aB) (ah (aq E.f9) av)) (by dsimp only [nQ];exact⟨hc,hw⟩) rfl) rfl hat (by rw[hle,List.length_append];omega) (aj ?_);show ∃o3 o4 o5 o6,_=[_,some (T.lst ((List.range c.es.length).map fun m=>jb (MP c m++lI c (c.ws.take (j+1)) m))),o3,o4,o5,o6];rw[wZ ew,anQ];have axS:(fun m=>jb (MP c m++lI c (c.ws.take j++[w]) m))=fun m=>if m=s then T.lst (((MP c s++lI c (c.ws.take j) s).map D.str).map T.sh++[T.sh (.str (Qm c.bn c.ns w))]) else jb (MP c m++lI c (c.ws.take j) m):=funext fun m=>by
       rw[aag,hs];by_cases e:m=s
       . subst e;rw[aBE rfl,aBE rfl,← aBA,jb,aBF,aBF];rfl
       . rw[aBx e,aBx (fun z=>e Q.a),aBW]
     rw[axS];exact⟨_,_,_,_,rfl⟩
 case fin2=>
 rintro δ ⟨o3,o4,o5,o6,rfl⟩;refine aH (vM E.aX.1) ?_;rw[aBp,aCv];rfl
def eB:chk (au u6) ([("chart",.cell),("found",fF),("ins",fF),("outs",fF),("texts",fF),("way",fF),("zip",c6),("SOURCE",c6),("way_text",c6)])=true:=Q.f
def TL:gF Ju ["chart"] (au u6):=rL
abbrev TN:=top 24
abbrev TQ:=AT×BB×BB×Int
abbrev adC:AT:=["tree","mood","found","elder"]
def xr:TQ->Ap:=fun(ks,es,ss,m)=>[nE ks es ss,.int m]
def sS:TQ->Prop:=fun(ks,es,ss,m)=>qe es/\0<=m/\m<es.length/\es.length<=1000
def xu:TQ->T:=fun(ks,es,ss,m)=>(.lst (((eY es m).map .int).map T.sh):T)
structure anR(X:Cx)(CL:BA):Prop extends bB X where
 cG:Ln X 0 "tree"
 bM:Ln X 1 "mood"
 aX:Ln X 2 "found"
 u9:Ln X 3 "elder"
 cZ:xM X.K (CL "Tree")
 bH:aO X.K (CL "Tree") "elders"
def anS(E:anR X CL) :
   lA X CL b TN adC xr sS xu:=by
 rintro⟨ks,es,ss,m⟩ h;dsimp only [sS,xr,xu]at h ⊢;obtain⟨ht,h0,h1,hlen⟩:=h;refine aD E.g E.aX (dM cj (aB0 _)) ?_;refine aD E.g E.u9 (aG (aI (cA E.cZ E.bH (aq E.cG) fP) (aq E.bM) (lF h0 h1)) rfl) ?_;have hm:=ht.at h0 h1;refine Si E.g (fun n δ=>∃(k:Int) (l:BB),δ=[some (.sh (nE ks es ss)),some (.sh (.int m)),some (.lst ((l.map .int).map T.sh)),some (.sh (.int k))] /\ -1<=k/\k<n/\k<es.length/\l++Gw n es k=eY es m/\l.length+n<=es.length+1) (es.length+1)
   ⟨es.getD m.toNat 0,[],rfl,hm.1,We,We,rfl,Uf⟩ ?_
 rintro n δ ⟨k,l,rfl,k0,k1,k2,k3,k4⟩;refine⟨_,_,(lC (aq E.u9) (ak (cS ai))).1,fun hp=>?_,fun hp=>?_⟩
 . have hk:¬ k=-1:=by simpa using hp
   have ha:=ht.at (k:=k) Q.a k2;cases n with
   | zero=>omega
   | succ n=>
     refine lz E.aX.1 rfl (v_ E.u9.1) rfl (by simp;omega) ?_;refine aD E.g E.u9 (aG (aI (cA E.cZ E.bH (aq E.cG) fP) (aq E.u9) (lF Q.a k2)) rfl) ?_;refine aj ⟨n,aC6 _,es.getD k.toNat 0,l++[k],?_,ha.1,We,We,?_,by simp;omega⟩
     . show [_,_,some (T.lst (((l.map D.int).map T.sh)++[T.sh (.int k)])),_]=_;simp
     . rw[← k3,Gw,aBx hk,aBA];rfl
 . have hk:k=-1:=by simpa using hp
   subst hk;have e:l=eY es m:=by
     rw[← k3];cases n with
     | zero=>rw[Gw,aBW]
     | succ n=>rw[Gw,aBE rfl,aBW]
   subst e;exact aH (vM E.aX.1) rfl
def Az:FG adC ["tree","mood"] [] (au TN):=fG
abbrev TR:=top 25
abbrev TV:=AT×BB×BB×Int
abbrev adD:AT:=["tree","mood"]
def xA:TV->Ap:=fun(ks,es,ss,m)=>[nE ks es ss,.int m]
def pC:TV->Prop:=fun(ks,es,ss,m)=>qe es/\0<=m/\m<es.length/\es.length<=1000
def xB:TV->T:=fun(ks,es,ss,m)=>(.sh (.int ((eY es m).length:Nat)):T)
structure anT(X:Cx)(CL:BA):Prop extends bB X where
 cG:Ln X 0 "tree"
 bM:Ln X 1 "mood"
 bf:Gl X "len"
 Fb:Gl X "above"
 bq:X.mg "len" = none
 TX:Fc X CL "above" 1 2 xr sS xu
def anU(E:anT X CL) :
   lA X CL b TR adD xA pC xB:=by
 rintro⟨ks,es,ss,m⟩ h;dsimp only [pC,xA,xB]at h ⊢;have hl:((eY es m).map D.int).length=(eY es m).length:=by simp
 exact aH (bF hl E.bq (bZ (c_ (ks,es,ss,m) E.TX E.Fb (ah (aq E.cG) (ah (aq E.bM) av)) h (by show(T.lst _).clean=true;rw[jA];exact Jh _))) E.bf) rfl
def AA:FG adD ["tree","mood"] ["len","above"] (au TR):=fG
abbrev AF:=top 85
abbrev AG:=CH×Nat
abbrev Jv:AT:=["chart","mood","kind","words"]
def pW:AG->Ap:=fun(c,m)=>[c.d,.int m]
def lO:AG->Prop:=fun(c,m)=>nF c/\m<c.es.length
def pX:AG->T:=fun(c,m)=>(.sh (.str (Zw c m)):T)
structure WG(X:Cx)(CL:BA):Prop extends bB X where
 aB:Ln X 0 "chart"
 bM:Ln X 1 "mood"
 nM:Ln X 2 "kind"
 aN:Ln X 3 "words"
 aL:xM X.K (CL "Chart")
 cZ:xM X.K (CL "Tree")
 c5:aO X.K (CL "Tree") "kinds"
 ef:aO X.K (CL "Chart") "tree"
 aV:aO X.K (CL "Chart") "names"
 d9:aO X.K (CL "Tree") "starts"
def WH(E:WG X CL) :
   lA X CL b AF Jv pW lO pX:=by
 rintro⟨c,m⟩ h;dsimp only [lO,pW,pX]at h ⊢;obtain⟨hc,hm⟩:=h;have m0:(0:Int)<=m:=by omega
 have mk:(m:Int)<c.ks.length:=by rw[hc.kl];omega
 have mn:(m:Int)<c.ns.length:=by rw[hc.nl];omega
 have ms:(m:Int)<c.ss.length:=by rw[hc.sl];omega
 have em:(m:Int).toNat=m:=aCl m;have hk:(c.ks.getD m Str.empty).length<=21:=qL (fun x hx=>aCa (hc.kk x hx) Q.c) m;have hn:=qL hc.nk m;refine aD E.g E.nM (aF (aG (aI (cA E.cZ E.c5 (cA E.aL E.ef (aq E.aB) tG) pe) (aq E.bM) (mE Str.empty m0 mk)) rfl) (t2:=.sh (.str (c.ks.getD m Str.empty))) (by rw[em])) ?_;refine aD E.g E.aN (aF (pN (ao (v_ E.nM.1) (ao (aG (aI (cA E.aL E.aV (aq E.aB) eO) (aq E.bM) (mE Str.empty m0 mn)) rfl) aZ)) aK) (t2:=.lst ((([c.ks.getD m Str.empty,c.ns.getD m Str.empty]:AT).map .str).map T.sh)) (by rw[em];rfl)) ?_;refine aS (bI (aq E.nM) az).1 (fun hp=>?_) (fun hp=>aj ?_)
 . have hp:c.ks.getD m Str.empty="one":=aBv hp;obtain⟨s0,s1⟩:=(hc.one m hm).1 hp;have hs:=qL hc.nk (c.ss.getD m 0).toNat;refine lz E.aN.1 rfl (aG (aI (cA E.aL E.aV (aq E.aB) eO) (Mp (aI (cA E.cZ E.d9 (cA E.aL E.ef (aq E.aB) tG) uM) (aq E.bM) (lF m0 ms)) (d2:=.int (c.ss.getD m 0)) (by rw[em])) (mE Str.empty s0 (by rw[hc.nl];exact s1))) rfl) rfl (aBu rfl) (aj ?_);refine aH (xU (l:=[c.ks.getD m Str.empty,c.ns.getD m Str.empty,c.ns.getD (c.ss.getD m 0).toNat Str.empty]) az (vL E.aN.1) (EL (by
     show(c.ks.getD m Str.empty).length+((c.ns.getD m Str.empty).length+((c.ns.getD (c.ss.getD m 0).toNat Str.empty).length+0))+3<=_;omega))) ?_
   show T.sh _=T.sh (.str (Zw c m));rw[BX,Zw,aBE hp]
 . have hp:¬ c.ks.getD m Str.empty="one":=aBG hp;refine aH (xU (l:=[c.ks.getD m Str.empty,c.ns.getD m Str.empty]) az (vL E.aN.1) (EL (by
     show(c.ks.getD m Str.empty).length+((c.ns.getD m Str.empty).length+0)+2<=_;omega))) ?_
   show T.sh _=T.sh (.str (Zw c m));rw[BX,Zw,aBx hp]
def nR:FG Jv ["chart","mood"] [] (au AF):=fG
def akf(c:CH)(n:Nat):T.fj (.lst ((List.range n).map fun m=>jb (Dn c m)))=.lst ((List.range n).map fun m=>D.lst ((Dn c m).map .str)):=by
 rw[T.fj];congr 1;generalize List.range n=l
 induction l with
 | nil=>rfl
 | cons m l ih=>rw[aBK,T.ni,ih,afw,aBK]
def aai(c:CH)(n:Nat):T.clean (.lst ((List.range n).map fun m=>jb (Dn c m)))=true:=by
 rw[jA];generalize List.range n=l
 induction l with
 | nil=>rfl
 | cons m l ih=>
   rw[aBK,T.fZ,ih];have:(jb (Dn c m)).clean=true:=mF _;rw[this];rfl
def aaj(c:CH)(m:Nat):(((xZ c m).map D.str).map T.sh++[T.sh (.str (Gz c m++Zw c m))])++(((Dn c m).map fun t=>Gz c m++" " ++ t).map D.str).map T.sh=((xZ c (m+1)).map D.str).map T.sh:=by
 rw[GY,Jk,aBF,aBF,aBA];rfl
theorem DF{c:CH}(h:nF c):∀n,(xZ c n).length<=3+n*121
 | 0=>by
   have:=h.b3;unfold xZ;rw[List.range_zero,aDg,aBW,aBp];omega
 | n+1=>by
   have a:=DF h n;have d:=SY h n;have e:=EX h c.ws h.ow.wl n;rw[GY,aBz,Jk,aBP,aBp,Dn,aBz];omega
abbrev LK:=top 84
abbrev TY:=CH
abbrev adE:AT:=["chart","rows","mood","texts","blanks"]
def B8:TY->Ap:=fun c=>[c.d]
def B9:TY->Prop:=fun c=>nF c
def Ca:TY->T:=fun c=>(.sh (.str (Txt.join "\n" (xZ c c.es.length))):T)
structure anV(X:Cx)(CL:BA):Prop extends bB X where
 aB:Ln X 0 "chart"
 T3:Ln X 1 "rows"
 bM:Ln X 2 "mood"
 uZ:Ln X 3 "texts"
 lP:Ln X 4 "blanks"
 akg:X.env.kindOf "blanks" = some .cell
 eU:Gl X "enumerate"
 AH:Gl X "own_texts"
 Fd:Gl X "depth"
 AI:Gl X "mood_text"
 eV:X.mg "enumerate" = none
 WK:Fc X CL "own_texts" 4 1 pT pU pV
 T4:Fc X CL "depth" 2 2 xA pC xB
 WL:Fc X CL "mood_text" 1 2 pW lO pX
 aL:xM X.K (CL "Chart")
 bQ:aO X.K (CL "Chart") "boxes"
 ef:aO X.K (CL "Chart") "tree"
def anW(E:anV X CL) :
   lA X CL b LK adE B8 B9 Ca:=by
 intro c h;dsimp only [B9,B8,Ca]at h ⊢;have hc:nF c:=h;have e1:=hc.e1;have hle:∀l:AT,((l.map D.str).map T.sh).length=l.length:=fun l=>by rw[aBp,aBp]
 refine ah3 (parts:=part2) (p:=fun _=>true) (g:=fun d=>.sh (.str (Zx (d.at1.toS,d.at2.Gv)))) E.g E.T3 (amR (xs:=["name","first"]) .nil Q.b)
   (ahX (cY (jG E.aL E.bQ (v_ E.aB.1) j8))) (.inr rfl) (fun C s0 H0 f0 b'=>⟨uK (by show List.Nodup (["name","first"]:AT);decide +kernel) E.g.calm (Zh rfl Q.b) (Zh rfl Q.b),fun d hd=>?Nn⟩) (aCj (bz (by rw[aBp];have:=hc.b3;omega))) ?xm (by exact aBu rfl) (jt ⟨_,rfl⟩)
 case Nn=>
   obtain⟨p,hp,rfl⟩:=aBI.mp hd;obtain⟨b1,b2⟩:=hc.bk p hp;have b3:=tM b2;have e4:("box ":Str).length=4:=rfl;have es:(" ":Str).length=1:=rfl;have hz:∀{x:Str},x.length<=1000->x.length<=sizeLine:=fun h=>by rw[aB8];omega
   refine⟨_,rfl,rfl,rfl,fun _=>aF (aeV (Lr az (Lr (ak (am4 (eN 0) (hz Q.a))) (Lr az (Lr (ak (am5 (eN 1) (aiR b2))) (arx (hz ?_)) (hz ?_)) (hz ?_)) (hz ?_)) (hz ?_))) ?_⟩
   all_goals try (rw[Str.empty_append])
   . rw[str_len,str_len,str_len,e4,es];show 4+_+1+(sI p.2).length<=_;omega
   . rw[str_len,str_len,str_len,e4,es];show 4+_+1+(sI p.2).length<=_;omega
   . rw[str_len,str_len,e4,es];omega
   . rw[str_len,e4];omega
   . rw[e4];decide
   . rfl
 case xm=>
 have eq1:T.lst (((c.bs.map tH).filter fun _=>true).map fun d=>T.sh (.str (Zx (d.at1.toS,d.at2.Gv))))=jb (xZ c 0):=by
   rw[dJ,aBL];unfold jb xZ;rw[List.range_zero,aDg,aBW,aBL,aBL];rfl
 rw[eq1];have hoz:(List.range c.es.length).length=c.es.length:=aBO;refine Dd E.g (uK E.g.nd E.g.calm E.bM E.uZ) (fun j δ=>∃o3 o4 o5,δ=[some (.sh c.d),some (jb (xZ c j)),o3,o4,o5])
   (wY (f:=fun m=>D.lst ((Dn c m).map .str)) (l:=List.range c.es.length) 0 E.eV (kM (c_ c E.WK E.AH (ah (aq E.aB) av) hc (aai c _)) (akf c _)) E.eU) ⟨_,_,_,rfl⟩
   (fun j δ ⟨_,_,_,e⟩=>by subst e;intro i hi;simp only[aBq,aBJ,aCg]at hi;rcases hi with rfl|rfl<;>exact aBu rfl) ?turn ?fin
 case turn=>
   rintro j d δ hj ⟨o3,o4,o5,rfl⟩;obtain⟨i,rfl,hi,Jo,YL,_,_⟩:=vV hj;have ei:i=j:=by
     rw[List.getElem?_range (by simpa using (List.getElem?_eq_some_iff.mp hi).1)]at hi;exact(aBX hi).symm
   subst ei;have YL:i<c.es.length:=by
     have:=aB5.mp Jo
     rwa [hoz]at this
   have eg:(List.range c.es.length).getD i 0=i:=by
     rw[aBs,aB9 YL];rfl
   refine⟨_,rfl,?_⟩;rw[eg];have hrc:=DF hc i;have hio:=SY hc i;have hwy:=EX hc c.ws hc.ow.wl i;have aAC:(Dn c i).length<=120:=by rw[Dn,aBz];omega
   have hbl:=adg hc i;have hml:=aiZ hc i;have aAD:(eY c.es i).length<=c.es.length+1:=BO _ _ _;refine aD E.g E.lP (aF (am3 az (ak (c_ (c.ks,c.es,c.ss,(i:Int)) E.T4 E.Fd (ah (cA E.aL E.ef (aq E.aB) tG) (ah (aq E.bM) av)) (by dsimp only [pC];exact⟨hc.tr,We,We,We⟩) rfl)) (arX Q.a)) (t2:=.sh (.str (Gz c i))) rfl) ?_;refine lz E.T3.1 rfl (oY (aq E.lP) (ak (c_ (c,i) E.WL E.AI (ah (aq E.aB) (ah (aq E.bM) av)) (by dsimp only [lO];exact⟨hc,YL⟩) rfl)) (by rw[sizeLine_eq];show(Gz c i).length+(Zw c i).length<=_;omega)) rfl (by rw[hle];omega) ?_;refine VB E.T3.1 rfl (aF (jN (p:=fun _=>true) (g:=fun d=>.sh (.str (Gz c i++" " ++ d.toS))) (bC (.cons E.lP.1 (.inl E.akg) .nil) Q.b) E.g.calm (cY (v_ E.uZ.1)) (.inr rfl) (fun C s0 H0 f0 b' d hd=>?Np) (aCj (bz (by rw[aBp];omega)))) (t2:=jb ((Dn c i).map fun t=>Gz c i++" " ++ t)) ?eq2) rfl (by rw[aBz,hle,hle,aBp,aBV];omega) ?Ao
   case Np=>
     obtain⟨t,ht,rfl⟩:=aBI.mp hd;have htl:t.length<=9326:=by
       rcases aBy.mp ht with ht|ht
       . exact aCa (ai0 hc t ht) Q.c
       . obtain⟨w,hw,rfl⟩:=aBI.mp ht;exact adf hc (hc.ow.ww w (aCF.mp hw).1)
     have es:(" ":Str).length=1:=rfl;exact⟨rfl,fun _=>aF (oY (ak (oY (mX 1) az (by rw[aB8,es];omega))) (eN 0) (by rw[aB8,str_len,es];omega)) (by rfl)⟩
   case eq2=>
     rw[dJ,jb,aBL,aBL,aBL];rfl
   case Ao=>
   refine aj ?_;show ∃o3 o4 o5,_=[_,some (T.lst (((xZ c (i+1)).map D.str).map T.sh)),o3,o4,o5];rw[← aaj c i];exact⟨_,_,_,rfl⟩
 case fin=>
   rintro δ ⟨o3,o4,o5,rfl⟩;have e:((List.range (List.range c.es.length).length).map fun(i:Nat)=>D.tup [.int i,(fun m=>D.lst ((Dn c m).map .str)) ((List.range c.es.length).getD i 0)]).length=c.es.length:=by
     rw[aBp,aBO,aBO]
   rw[e];exact aH (xU (l:=xZ c c.es.length) az (vL E.T3.1) (all_join hc)) rfl
def lQ:chk (au LK) ([("chart",fF),("rows",fF),("mood",fF),("texts",fF),("blanks",.cell),("enumerate",c6),("own_texts",c6),("depth",c6),("mood_text",c6)])=true:=Q.f
def akh:gF adE ["chart"] (au LK):=rL
def aki(h:j<l.length)(hn:l.Nodup):zH (Jm (l.take j)) (.inr (l.getD j Str.empty))=none/\Jm (l.take j)++[((.inr (l.getD j Str.empty):Key),D.int j)]=Jm (l.take (j+1)):=by
 have hl:(l.take j).length=j:=by rw[aCe];omega
 have hl2:(l.take (j+1)).length=j+1:=by rw[aCe];omega
 have g:∀k i,i<k->(l.take k).getD i Str.empty=l.getD i Str.empty:=fun k i hi=>by
   rw[aBs,aDX hi,aBs]
 constructor
 . unfold zH Jm;rw[Option.map_eq_none_iff,aD4];intro kv hkv z;obtain⟨i,hi,rfl⟩:=aBI.mp hkv;have hi:=aB5.mp hi;rw[hl]at hi;have z:=Sum.inr.inj (aBv z);rw[g j i hi]at z;have:=ajn hn Q.a h z;omega
 . unfold Jm;rw[hl,hl2,aDb,aBF];refine congr (congrArg _ (aCp fun i hi=>?_)) ?_
   . have hi:=aB5.mp hi;rw[g j i hi,g (j+1) i Q.a]
   . show [_]=[((.inr ((l.take (j+1)).getD j Str.empty):Key),D.int j)];rw[g (j+1) j Q.a]
abbrev Nx:=top 68
abbrev Ny:=AT
abbrev WM:AT:=["names","found","place","name"]
def yr:Ny->Ap:=fun l=>[.lst (l.map .str)]
def pD:Ny->Prop:=fun l=>l.Nodup/\l.length<=1000
def yt:Ny->T:=fun l=>(.mz (Jm l):T)
structure akj(X:Cx)(CL:BA):Prop extends bB X where
 cO:Ln X 0 "names"
 aX:Ln X 1 "found"
 Fe:Ln X 2 "place"
 cJ:Ln X 3 "name"
 eU:Gl X "enumerate"
 eV:X.mg "enumerate" = none
def akk(E:akj X CL) :
   lA X CL b Nx WM yr pD yt:=by
 intro l h;dsimp only [pD,yr,yt]at h ⊢;obtain⟨hn,hl⟩:=h;refine aD E.g E.aX acU ?_;refine Dd E.g (uK E.g.nd E.g.calm E.Fe E.cJ) (fun j δ=>∃o3 o4,δ=[some (.sh (.lst (l.map .str))),some (.mz (Jm (l.take j))),o3,o4])
   (wY (f:=D.str) (l:=l) Str.empty E.eV (v_ E.cO.1) E.eU) ⟨_,_,rfl⟩
   (fun j δ ⟨_,_,e⟩=>by subst e;intro i hi;simp only[aBq,aBJ,aCg]at hi;rcases hi with rfl|rfl<;>exact aBu rfl) ?turn ?fin
 case turn=>
   rintro j d δ hj ⟨o3,o4,rfl⟩;obtain⟨i,rfl,hi,Jo,_,_,_⟩:=vV hj;have YL:i<l.length:=by
     have:=aB5.mp Jo;exact this
   have ei:i=j:=by
     rw[aB9 (by have:=(aB4.mp hi).1;rwa [aBO]at this)]at hi;exact(aBX hi).symm
   subst ei;obtain⟨p1,p2⟩:=aki YL hn;refine⟨_,rfl,?_⟩;refine Lq (anb (.inr (l.getD i Str.empty)) E.aX.1 rfl (aq E.cJ) (v_ E.Fe.1) p1 (by unfold Jm;rw[aBp,aBO,aCe];omega)) (aj ?_);have:Cy (Jm (l.take i)) (.inr (l.getD i Str.empty)) (.int i)=Jm (l.take (i+1)):=by
     unfold Cy;rw[aBx,p2];intro z;obtain⟨kv,hkv,hz⟩:=List.any_eq_true.mp z;unfold zH at p1;have:=aD4.mp (Option.map_eq_none_iff.mp p1) kv hkv;exact this hz
   rw[← this];exact⟨_,_,rfl⟩
 case fin=>
   rintro δ ⟨o3,o4,rfl⟩;have e:l.take ((List.range l.length).map fun(i:Nat)=>D.tup [.int i,D.str (l.getD i Str.empty)]).length=l:=by
     rw[aBp,aBO,aCv]
   rw[e];exact aH (vM E.aX.1) rfl
def sU:FG WM ["names"] ["enumerate"] (au Nx):=fG
abbrev DG:=top 74
abbrev DH:=AT×Int×Int
abbrev Nz:AT:=["name","given","row"]
def gK:DH->Ap:=fun(l,z,r)=>[.str (LC l z),.mz (Jm l),.int r]
def cP:DH->Prop:=fun(l,z,r)=>Q8 l/\(z=-1\/(0<=z/\z<l.length))
def gM:DH->T:=fun(l,z,r)=>(.sh (.int z):T)
structure aak(X:Cx)(CL:BA):Prop extends bB X where
 cJ:Ln X 0 "name"
 adF:Ln X 1 "given"
 bS:Ln X 2 "row"
def aal(E:aak X CL) :
   lA X CL b DG Nz gK cP gM:=by
 rintro⟨l,z,r⟩ h;dsimp only [cP,gK,gM]at h ⊢;obtain⟨hl,hz⟩:=h;refine aS (bI (aq E.cJ) az).1 (fun q=>?_) (fun q=>aj ?_)
 . have q:LC l z="":=aBv q;have:z=-1:=by
     rcases hz with e|⟨h0,h1⟩
     . exact e
     . rw[LC,aBx Q.a]at q;exact absurd q (V1 (kh hl.n h0 h1))
   refine aH (cS ai) ?_;rw[this]
 have q:¬ LC l z="":=aBG q;have hz1:¬ z=-1:=fun e=>q (by rw[LC,aBE e]);have hz:=hz.resolve_left hz1;have e:LC l z=l.getD z.toNat Str.empty:=aBx hz1;have hv:=ar3 hl.d hz.1 hz.2;rw[← e]at hv;refine aS (amW (.inr (LC l z)) (by exact E.u) (aq E.cJ) (aq E.adF) rfl) (fun q=>?_) (fun _=>aj ?_)
 . rw[hv]at q;cases q
 exact aH (aG (amV (.inr (LC l z)) (by exact E.u) (aq E.adF) (aq E.cJ) hv) rfl) rfl
def vd:FG Nz ["name","given","row"] [] (au DG):=fG
abbrev qN:=top 73
abbrev qO:=AT×D×Int
abbrev zf:AT:=["term","boxes","row"]
def gO:qO->Ap:=fun(bn,d,r)=>[tC bn d,.mz (Jm bn),.int r]
def cD:qO->Prop:=fun(bn,d,r)=>Q8 bn/\iF bn.length d
def gP:qO->T:=fun(bn,d,r)=>(.sh d:T)
structure Kc(X:Cx)(CL:BA):Prop extends bB X where
 nK:Ln X 0 "term"
 bK:Ln X 1 "boxes"
 bS:Ln X 2 "row"
 gf:Gl X "place_of"
 jl:Fc X CL "place_of" 1 3 gK cP gM
def Kd(E:Kc X CL) :
   lA X CL b qN zf gO cD gP:=by
 rintro⟨bn,d,r⟩ h;dsimp only [cD,gO,gP]at h ⊢;obtain⟨hb,a,k,rfl,ha,_⟩:=h;exact aH (aU (ds:=[.int a,.int k]) (ao (aF (c_ (bn,a,r) E.jl E.gf (ah (ay (ds:=[.str (LC bn a),.int k]) (aq E.nK) ai iK) (ah (aq E.bK) (ah (aq E.bS) av))) (by dsimp only [cP];exact⟨hb,ha⟩) rfl) (t2:=.sh (.int a)) rfl) (ao (aG (ay (ds:=[.str (LC bn a),.int k]) (aq E.nK) ai jX) rfl) aZ)) aK) rfl
def iX:FG zf ["term","boxes","row"] ["place_of"] (au qN):=fG
abbrev qP:=top 72
abbrev qQ:=AT×D×Int
abbrev zg:AT:=["deed","boxes","row"]
def gQ:qQ->Ap:=fun(bn,d,r)=>[dC bn d,.mz (Jm bn),.int r]
def dF:qQ->Prop:=fun(bn,d,r)=>Q8 bn/\J8 bn.length d
def gR:qQ->T:=fun(bn,d,r)=>(.sh d:T)
structure Ke(X:Cx)(CL:BA):Prop extends bB X where
 c7:Ln X 0 "deed"
 bK:Ln X 1 "boxes"
 bS:Ln X 2 "row"
 gf:Gl X "place_of"
 fq:Gl X "numbered_term"
 jl:Fc X CL "place_of" 1 3 gK cP gM
 jv:Fc X CL "numbered_term" 2 3 gO cD gP
def Kf(E:Ke X CL) :
   lA X CL b qP zg gQ dF gR:=by
 rintro⟨bn,d,r⟩ h;dsimp only [dF,gQ,gR]at h ⊢;obtain⟨hb,hd⟩:=h;rcases hd with⟨n,rfl,hn⟩|⟨k,t,rfl,hk,ht⟩|⟨n,t,rfl,hn,ht⟩
 . rw[x8];refine aS (bI (ay (aq E.c7) ai iK) az).1 (fun z=>absurd (aBv z) Q.b) (fun _=>aj ?_);refine aS (bI (ay (aq E.c7) ai iK) az).1 (fun z=>absurd (aBv z) Q.b) (fun _=>aj ?_);exact aH (v_ E.c7.1) rfl
 . have e:bn.getD k.toNat Str.empty=LC bn k:=(aBx Q.a).symm;have Jo:t.kK=true:=by
     obtain⟨a,c,rfl,_⟩:=ht;rfl
   rw[Dq,e];refine aS (bI (ay (aq E.c7) ai iK) az).1 (fun _=>?_) (fun z=>absurd (aBG z) Q.b);exact aH (aU (ds:=[.str "put",.int k,t]) (ao b9 (ao (aF (c_ (bn,k,r) E.jl E.gf (ah (ay (aq E.c7) ai jX) (ah (aq E.bK) (ah (aq E.bS) av))) (by dsimp only [cP];exact⟨hb,.inr hk⟩) rfl) (t2:=.sh (.int k)) rfl) (ao (c_ (bn,t,r) E.jv E.fq (ah (ay (aq E.c7) ai oU) (ah (aq E.bK) (ah (aq E.bS) av))) (by dsimp only [cD];exact⟨hb,ht⟩) Jo) aZ))) aK) rfl
 . have Jo:t.kK=true:=by
     obtain⟨a,c,rfl,_⟩:=ht;rfl
   rw[Dr];refine aS (bI (ay (aq E.c7) ai iK) az).1 (fun z=>absurd (aBv z) Q.b) (fun _=>aj ?_);refine aS (bI (ay (aq E.c7) ai iK) az).1 (fun _=>?_) (fun z=>absurd (aBG z) Q.b);exact aH (aU (ds:=[.str "say",.str n,t]) (ao b9 (ao (aG (ay (aq E.c7) ai jX) rfl) (ao (c_ (bn,t,r) E.jv E.fq (ah (ay (aq E.c7) ai oU) (ah (aq E.bK) (ah (aq E.bS) av))) (by dsimp only [cD];exact⟨hb,ht⟩) Jo) aZ))) aK) rfl
def fX:FG zg ["deed","boxes","row"] ["place_of","numbered_term"] (au qP):=fG
abbrev tX:=top 71
abbrev tY:=AT×AT×D×Int
abbrev AJ:AT:=["ask","boxes","moods","row"]
def kQ:tY->Ap:=fun(bn,ns,d,r)=>[aC bn ns d,.mz (Jm bn),.mz (Jm ns),.int r]
def iY:tY->Prop:=fun(bn,ns,d,r)=>Q8 bn/\Q8 ns/\tL bn.length ns.length d
def kR:tY->T:=fun(bn,ns,d,r)=>(.sh d:T)
structure NB(X:Cx)(CL:BA):Prop extends bB X where
 lB:Ln X 0 "ask"
 bK:Ln X 1 "boxes"
 iM:Ln X 2 "moods"
 bS:Ln X 3 "row"
 gf:Gl X "place_of"
 fq:Gl X "numbered_term"
 jl:Fc X CL "place_of" 1 3 gK cP gM
 jv:Fc X CL "numbered_term" 2 3 gO cD gP
def NC(E:NB X CL) :
   lA X CL b tX AJ kQ iY kR:=by
 rintro⟨bn,ns,d,r⟩ h;dsimp only [iY,kQ,kR]at h ⊢;obtain⟨hb,hn,hd⟩:=h;rcases hd with⟨w,k,rfl,hw,hk⟩|⟨w,s,t,rfl,hw,hs,ht⟩
 . have e:aC bn ns (.tup [.str w,.int k])=.tup [.str w,.str (LC ns k)]:=by
     rw[LC,aBx Q.a];rfl
   have hw2:w∈(["open","shut"]:AT):=by rcases hw with rfl|rfl<;>decide +kernel
   rw[e];refine aS (ji (ay (aq E.lB) ai iK) (e7 rfl)).1 (fun _=>?_) (fun z=>absurd hw2 (aBG z));exact aH (aU (ds:=[.str w,.int k]) (ao (aG (ay (aq E.lB) ai iK) rfl) (ao (aF (c_ (ns,k,r) E.jl E.gf (ah (ay (aq E.lB) ai jX) (ah (aq E.iM) (ah (aq E.bS) av))) (by dsimp only [cP];exact⟨hn,.inr hk⟩) rfl) (t2:=.sh (.int k)) rfl) aZ)) aK) rfl
 . have hw2:w∉(["open","shut"]:AT):=by
     simp only[aBq,aBJ,aCg]at hw;rcases hw with rfl|rfl|rfl|rfl<;>decide +kernel
   have im:∀{t:D},iF bn.length t->t.kK=true:=fun h=>by
     obtain⟨a,c,rfl,_⟩:=h;rfl
   have e:aC bn ns (.tup [.str w,s,t])=.tup [.str w,tC bn s,tC bn t]:=rfl;rw[e];refine aS (ji (ay (aq E.lB) ai iK) (e7 rfl)).1 (fun z=>absurd (aBv z) hw2) (fun _=>aj ?_);exact aH (aU (ds:=[.str w,s,t]) (ao (aG (ay (aq E.lB) ai iK) rfl) (ao (c_ (bn,s,r) E.jv E.fq (ah (ay (aq E.lB) ai jX) (ah (aq E.bK) (ah (aq E.bS) av))) (by dsimp only [cD];exact⟨hb,hs⟩) (im hs)) (ao (c_ (bn,t,r) E.jv E.fq (ah (ay (aq E.lB) ai oU) (ah (aq E.bK) (ah (aq E.bS) av))) (by dsimp only [cD];exact⟨hb,ht⟩) (im ht)) aZ))) aK) rfl
def fu:FG AJ ["ask","boxes","moods","row"] ["place_of","numbered_term"] (au tX):=fG
abbrev nS:=top 70
abbrev tZ:=AT×AT×WY×Int
abbrev AK:AT:=["content","boxes","moods","row","asks","deeds"]
def kT:tZ->Ap:=fun(bn,ns,w,r)=>[.tup [.str w.sg,.lst (w.qs.map (aC bn ns)),.lst (w.ds.map (dC bn)),.str (LC ns w.tg),.str w.md],.mz (Jm bn),.mz (Jm ns),.int r]
def iZ:tZ->Prop:=fun(bn,ns,w,r)=>Q8 bn/\Q8 ns/\WyN bn.length ns.length w
def kU:tZ->T:=fun(bn,ns,w,r)=>(.sh (RW.wy 0 w).cn:T)
structure NF(X:Cx)(CL:BA):Prop extends bB X where
 cW:Ln X 0 "content"
 bK:Ln X 1 "boxes"
 LN:X.env.kindOf "boxes" = some .cell
 iM:Ln X 2 "moods"
 T5:X.env.kindOf "moods" = some .cell
 bS:Ln X 3 "row"
 WN:X.env.kindOf "row" = some .cell
 NK:Ln X 4 "asks"
 ve:Ln X 5 "deeds"
 nT:Gl X "tuple"
 gf:Gl X "place_of"
 kW:X.mg "tuple" = none
 jl:Fc X CL "place_of" 1 3 gK cP gM
 NP:Fc X CL "numbered_ask" 3 4 kQ iY kR
 qR:Fc X CL "numbered_deed" 3 3 gQ dF gR
def NQ(E:NF X CL) :
   lA X CL b nS AK kT iZ kU:=by
 rintro⟨bn,ns,w,r⟩ h;dsimp only [iZ,kT,kU]at h ⊢;obtain⟨hb,hn,hw⟩:=h;have hl:=hw.l;have iq:∀q∈w.qs,q.kK=true:=fun q hq=>by
   rcases hw.q q hq with⟨x,k,rfl,_⟩|⟨x,s,t,rfl,_,⟨_,_,rfl,_⟩,⟨_,_,rfl,_⟩⟩<;>rfl
 have id:∀q∈w.ds,q.kK=true:=fun q hq=>by
   rcases hw.d q hq with⟨x,rfl,_⟩|⟨k,t,rfl,_,⟨_,_,rfl,_⟩⟩|⟨x,t,rfl,_,⟨_,_,rfl,_⟩⟩<;>rfl
 have im:∀{l:Ap},(∀q∈l,q.kK=true)->D.bY l=true:=fun h=>mh h;have ia:∀q∈w.qs,∀q'∈w.qs,aC bn ns q'=aC bn ns q->q'=q:=fun q hq q' Ve e=>auE hb hn (hw.q q' Ve) (hw.q q hq) e;have ib:∀q∈w.ds,∀q'∈w.ds,dC bn q'=dC bn q->q'=q:=fun q hq q' Ve e=>auD hb (hw.d q' Ve) (hw.d q hq) e;refine tF (p:=fun _=>true) (gg:=fun d=>.sh (unC (aC bn ns) w.qs d)) E.g E.NK (bC (.cons E.bK.1 (.inl E.LN) (.cons E.iM.1 (.inl E.T5) (.cons E.bS.1 (.inl E.WN) .nil))) Q.b) (cY (C7 (v_ E.cW.1) ai jX)) (.inr rfl) (fun C s0 H0 f0 b' d hd=>?Nn) (aCj (bz (by rw[aBp];omega))) ?xm (by exact aBu rfl) (jt ⟨_,rfl⟩)
 case Nn=>
   obtain⟨q,hq,rfl⟩:=aBI.mp hd;refine⟨rfl,fun _=>?_⟩;show bU _ _ _ _ _ (T.sh (unC (aC bn ns) w.qs (aC bn ns q))) _;rw[ZD ia hq];exact c_ (bn,ns,q,r) (l0 E.NP) oZ (ah (eN 0) (ah (mX 1) (ah (mX 2) (ah (mX 3) av)))) (by dsimp only [iY];exact⟨hb,hn,hw.q q hq⟩) (iq q hq)
 case xm=>
 rw[adq ia];refine tF (p:=fun _=>true) (gg:=fun d=>.sh (unC (dC bn) w.ds d)) E.g E.ve (bC (.cons E.bK.1 (.inl E.LN) (.cons E.bS.1 (.inl E.WN) .nil)) Q.b) (cY (C7 (v_ E.cW.1) ai oU)) (.inr rfl) (fun C s0 H0 f0 b' d hd=>?Np) (aCj (bz (by rw[aBp];omega))) ?Ao (by exact aBu rfl) (jt ⟨_,rfl⟩)
 case Np=>
   obtain⟨q,hq,rfl⟩:=aBI.mp hd;refine⟨rfl,fun _=>?_⟩;show bU _ _ _ _ _ (T.sh (unC (dC bn) w.ds (dC bn q))) _;rw[ZD ib hq];exact c_ (bn,q,r) (l0 E.qR) oZ (ah (eN 0) (ah (mX 1) (ah (mX 2) av))) (by dsimp only [dF];exact⟨hb,hw.d q hq⟩) (id q hq)
 case Ao=>
 rw[adq ib];have ht:w.tg=-1\/(0<=w.tg/\w.tg<ns.length):=by
   rcases hw.t with⟨e,_⟩|⟨e,_⟩
   . exact .inl e
   . exact .inr e
 show gw X CL b _ [some (.sh (.tup [.str w.sg,.lst (w.qs.map (aC bn ns)),.lst (w.ds.map (dC bn)),.str (LC ns w.tg),.str w.md])),some (.sh (.mz (Jm bn))),some (.sh (.mz (Jm ns))),some (.sh (.int r)),some (.lst (w.qs.map T.sh)),some (.lst (w.ds.map T.sh))] _;exact aH (aU (ds:=[.str w.sg,.tup w.qs,.tup w.ds,.int w.tg,.str w.md]) (ao (aG (ay (aq E.cW) ai iK) rfl) (ao (GK E.kW (vL E.NK.1) (im iq) E.nT) (ao (GK E.kW (vL E.ve.1) (im id) E.nT) (ao (aF (c_ (ns,w.tg,r) E.jl E.gf (ah (ay (aq E.cW) ai Qj) (ah (aq E.iM) (ah (aq E.bS) av))) (by dsimp only [cP];exact⟨hn,ht⟩) rfl) (t2:=.sh (.int w.tg)) rfl) (ao (aG (ay (aq E.cW) ai (jf (j:=4) rfl)) rfl) aZ))))) aK) rfl
def ck:chk (au nS) ([("content",fF),("boxes",.cell),("moods",.cell),("row",.cell),("asks",fF),("deeds",fF),("tuple",c6),("place_of",c6)])=true:=Q.f
def Kg:gF AK ["content","boxes","moods","row"] (au nS):=rL
abbrev qS:=top 69
abbrev qT:=AT×AT×RW×Int
abbrev zj:AT:=["form","boxes","moods","row","word","content"]
def jQ:qT->Ap:=fun(bn,ns,q,r)=>[(q.fm bn ns r).fj,.mz (Jm bn),.mz (Jm ns)]
def gS:qT->Prop:=fun(bn,ns,q,r)=>Q8 bn/\Q8 ns/\q.Ok bn ns
def jR:qT->T:=fun(bn,ns,q,r)=>(.sh (q.nf r):T)
structure Kh(X:Cx)(CL:BA):Prop extends bB X where
 dX:Ln X 0 "form"
 bK:Ln X 1 "boxes"
 iM:Ln X 2 "moods"
 bS:Ln X 3 "row"
 aR:Ln X 4 "word"
 cW:Ln X 5 "content"
 apz:Gl X "ROW"
 t6:Gl X "WORD"
 xC:Gl X "CONTENT"
 gT:Gl X "KINDS"
 gf:Gl X "place_of"
 qU:Gl X "numbered_deed"
 t7:Gl X "numbered_way"
 qv:Gl X "BLANKS"
 apA:∃u,X.mg "ROW" = some (.int 0 u)
 jK:∃u,X.mg "WORD" = some (.int 2 u)
 gA:∃u,X.mg "CONTENT" = some (.int 3 u)
 dG:GT X "KINDS" ["leaf","one","all"]
 jl:Fc X CL "place_of" 1 3 gK cP gM
 qR:Fc X CL "numbered_deed" 3 3 gQ dF gR
 NR:Fc X CL "numbered_way" 4 4 kT iZ kU
 lR:∃u,X.mg "BLANKS" = some (.int 1 u)
def Kl(E:Kh X CL) :
   lA X CL b qS zj jQ gS jR:=by
 rintro⟨bn,ns,q,r⟩ h;dsimp only [gS,jQ,jR]at h ⊢;obtain⟨hb,hn,hq⟩:=h;rw[G3];refine aD E.g E.bS (aG (ay (aq E.dX) (ak (aP E.apA E.apz)) iK) rfl) ?_;refine aD E.g E.aR (aG (ay (aq E.dX) (ak (aP E.jK E.t6)) oU) rfl) ?_;refine aD E.g E.cW (C7 (v_ E.dX.1) (ak (aP E.gA E.xC)) Qj) ?_;cases q with
 | bx n k=>
   refine aS (tE (aq E.aR) (ak (dP E.dG E.gT)) rfl).1 (fun z=>absurd (show("box":Str)∈fM from aBv z) Q.b) (fun _=>?_);refine aS (ji (aq E.aR) (e7 rfl)).1 (fun z=>absurd (show("box":Str)∈(["in","out"]:AT) from aBv z) Q.b) (fun _=>?_);refine aS (bI (aq E.aR) az).1 (fun z=>absurd (show("box":Str)="on" from aBv z) Q.b) (fun _=>aj (aj (aj ?_)));exact aH (aU (ao (v_ E.bS.1) (ao (aG (ay (aq E.dX) (ak (aP E.lR E.qv)) jX) rfl) (ao (v_ E.aR.1) (ao (v_ E.cW.1) aZ)))) aK) rfl
 | md n k x st z=>
   obtain⟨_,hk,hx,hz⟩:=hq;have hz2:(z=-1\/(0<=z/\z<ns.length))/\st=LC ns z:=by
     rcases hz with⟨_,h1,h2⟩|⟨_,h1,h2⟩
     . exact⟨.inr h1,by rw[h2,M0 h1.1]⟩
     . exact⟨.inl h2,by rw[h1,h2];rfl⟩
   obtain⟨hz2,rfl⟩:=hz2;refine aS (tE (aq E.aR) (ak (dP E.dG E.gT)) rfl).1 (fun _=>?_) (fun z=>absurd hk (aBG z));refine aD E.g E.cW (aU (ds:=[.str x,.int z]) (ao (aG (ay (ds:=[.str x,.str (LC ns z)]) (aq E.cW) ai iK) rfl) (ao (aF (c_ (ns,z,r) E.jl E.gf (ah (ay (ds:=[.str x,.str (LC ns z)]) (aq E.cW) ai jX) (ah (aq E.iM) (ah (aq E.bS) av))) (by dsimp only [cP];exact⟨hn,hz2⟩) rfl) (t2:=.sh (.int z)) rfl) aZ)) aK) (aj ?_);exact aH (aU (ao (v_ E.bS.1) (ao (aG (ay (aq E.dX) (ak (aP E.lR E.qv)) jX) rfl) (ao (v_ E.aR.1) (ao (v_ E.cW.1) aZ)))) aK) rfl
 | io n w d=>
   obtain⟨_,hw,hd⟩:=hq;have hw1:w∉fM:=by
     simp only[aBq,aBJ,aCg]at hw;rcases hw with rfl|rfl<;>decide +kernel
   refine aS (tE (aq E.aR) (ak (dP E.dG E.gT)) rfl).1 (fun z=>absurd (aBv z) hw1) (fun _=>?_);refine aS (ji (aq E.aR) (e7 rfl)).1 (fun _=>?_) (fun z=>absurd hw (aBG z));have Jo:d.kK=true:=B3 (bn:=bn) (ns:=ns) (r:=.io 0 "in" d) ⟨aB0 _,Wl,hd⟩;refine aD E.g E.cW (aF (c_ (bn,d,r) E.qR E.qU (ah (aq E.cW) (ah (aq E.bK) (ah (aq E.bS) av))) (by dsimp only [dF];exact⟨hb,hd⟩) Jo) (t2:=.sh d) rfl) (aj (aj ?_));exact aH (aU (ao (v_ E.bS.1) (ao (aG (ay (aq E.dX) (ak (aP E.lR E.qv)) jX) rfl) (ao (v_ E.aR.1) (ao (v_ E.cW.1) aZ)))) aK) rfl
 | wy n w=>
   have Jo:(RW.wy 0 w).cn.kK=true:=B3 (bn:=bn) (ns:=ns) (r:=.wy n w) hq;refine aS (tE (aq E.aR) (ak (dP E.dG E.gT)) rfl).1 (fun z=>absurd (show("on":Str)∈fM from aBv z) Q.b) (fun _=>?_);refine aS (ji (aq E.aR) (e7 rfl)).1 (fun z=>absurd (show("on":Str)∈(["in","out"]:AT) from aBv z) Q.b) (fun _=>?_);refine aS (bI (aq E.aR) az).1 (fun _=>?_) (fun z=>absurd (show("on":Str)="on" from rfl) (aBG z));refine aD E.g E.cW (aF (c_ (bn,ns,w,r) E.NR E.t7 (ah (aq E.cW) (ah (aq E.bK) (ah (aq E.iM) (ah (aq E.bS) av)))) (by dsimp only [iZ];exact⟨hb,hn,hq.2⟩) Jo) (t2:=.sh (RW.wy n w).cn) rfl) (aj (aj (aj ?_)));exact aH (aU (ao (v_ E.bS.1) (ao (aG (ay (aq E.dX) (ak (aP E.lR E.qv)) jX) rfl) (ao (v_ E.aR.1) (ao (v_ E.cW.1) aZ)))) aK) rfl
def bu:FG zj ["form","boxes","moods"] ["ROW","WORD","CONTENT","KINDS","place_of","numbered_deed","numbered_way","BLANKS"] (au qS):=fG
abbrev yu:=top 67
abbrev DI:=CH
abbrev NS:AT:=["forms","boxes","moods"]
def se:DI->Ap:=fun c=>[.lst c.fmD]
def sf:DI->Prop:=fun c=>xh c
def sj:DI->T:=fun c=>(.lst (c.M4.map T.sh):T)
structure aam(X:Cx)(CL:BA):Prop extends bB X where
 fN:Ln X 0 "forms"
 bK:Ln X 1 "boxes"
 LN:X.env.kindOf "boxes" = some .cell
 iM:Ln X 2 "moods"
 T5:X.env.kindOf "moods" = some .cell
 Ff:Gl X "places"
 WO:Fc X CL "places" 1 1 yr pD yt
 jK:∃u,X.mg "WORD" = some (.int 2 u)
 gA:∃u,X.mg "CONTENT" = some (.int 3 u)
 dG:GT X "KINDS" ["leaf","one","all"]
 Km:Fc X CL "numbered_form" 5 3 jQ gS jR
def aan(E:aam X CL) :
   lA X CL b yu NS se sf sj:=by
 intro c h;dsimp only [sf,se,sj]at h ⊢;have h:xh c:=h;have dI:=rN h;have hrl:=h.rl;have hlen:c.fmD.length<=sizeLine:=by
   rw[CH.fmD,aBp,aBO,aB8];omega
 have hfm:c.fmD=idx (fun i r=>.tup [.int ((i:Nat)+1:Int),.int r.bl,.str r.word,r.cd c.bn c.ns]) c.rows:=by
   unfold CH.fmD idx;exact aCp fun i _=>G3 _ _ _ _
 have hbl:c.bn.length<=1000:=by
   have:=h.ok.b3;unfold CH.bn;rw[aBp];omega
 have hnl:c.ns.length<=1000:=by
   have:=h.ok.nl;have:=h.ok.e1;omega
 rw[hfm]at hlen ⊢;refine aD E.g E.bK (kM (d:=.mz (Jm c.bn)) (c_ c.bn E.WO E.Ff (ah (d:=.lst (c.bn.map .str)) (bZ (aF (jN (p:=fun d=>decide ((bT d 2).toS="box")) (g:=fun d=>.sh (bT (bT d 3) 0)) (bC .nil Q.b) E.g.calm (cY (v_ E.fN.1)) (.inr rfl) (fun C s0 H0 f0 b' d hd=>?Nn) hlen) (t2:=.lst ((c.bn.map .str).map T.sh)) ?eq1)) av) (by dsimp only [pD];exact⟨h.b.d,hbl⟩) (Rb _)) rfl) ?xm
 case Nn=>
   obtain⟨i,r,_,hr,_,rfl⟩:=x9 hd;refine⟨(bI (ay (eN 0) (ak (aP (by exact E.jK) oZ)) oU) az).1,fun z=>?_⟩;have z:r.isB=true:=(ZI (dI r hr))▸z;cases r with
   | bx n k=>exact aG (ay (ay (eN 0) (ak (aP (by exact E.gA) oZ)) Qj) ai iK) rfl
   | md n k x st y=>cases z
   | io n w d=>cases z
   | wy n w=>cases z
 case eq1=>
   rw[E2 (p:=fun d=>decide ((bT d 2).toS="box")) (g:=fun d=>T.sh (bT (bT d 3) 0)) (p':=RW.isB) (g':=fun r=>.sh (bT (r.cd c.bn c.ns) 0)) c.rows (fun i r=>D.tup [.int ((i:Nat)+1:Int),.int r.bl,.str r.word,r.cd c.bn c.ns]) (fun i r hr=>ZI (dI r hr)) (fun _ _ _ _=>rfl),ajE];unfold CH.br CH.bn;rw[aBL,aBL,aBL];rfl
 case xm=>
 refine aD E.g E.iM (kM (d:=.mz (Jm c.ns)) (c_ c.ns E.WO E.Ff (ah (d:=.lst (c.ns.map .str)) (bZ (aF (jN (p:=fun d=>decide ((bT d 2).toS∈fM)) (g:=fun d=>.sh (bT (bT d 3) 0)) (bC .nil Q.b) E.g.calm (cY (v_ E.fN.1)) (.inr rfl) (fun C s0 H0 f0 b' d hd=>?Np) hlen) (t2:=.lst ((c.ns.map .str).map T.sh)) ?eq2)) av) (by dsimp only [pD];exact⟨h.n.d,hnl⟩) (Rb _)) rfl) ?Ao
 case Np=>
   obtain⟨i,r,_,hr,_,rfl⟩:=x9 hd;refine⟨(tE (ay (eN 0) (ak (aP (by exact E.jK) oZ)) oU) (ak (dP (by exact E.dG) oZ)) rfl).1,fun z=>?_⟩;have z:r.isM=true:=(G5 (dI r hr))▸z;cases r with
   | md n k x st y=>exact aG (ay (ay (eN 0) (ak (aP (by exact E.gA) oZ)) Qj) ai iK) rfl
   | bx n k=>cases z
   | io n w d=>cases z
   | wy n w=>cases z
 case eq2=>
   rw[E2 (p:=fun d=>decide ((bT d 2).toS∈fM)) (g:=fun d=>T.sh (bT (bT d 3) 0)) (p':=RW.isM) (g':=fun r=>.sh (bT (r.cd c.bn c.ns) 0)) c.rows (fun i r=>D.tup [.int ((i:Nat)+1:Int),.int r.bl,.str r.word,r.cd c.bn c.ns]) (fun i r hr=>G5 (dI r hr)) (fun _ _ _ _=>rfl),ajF,aBL];have:(List.range c.es.length).map (fun m=>T.sh (.str (c.ns.getD m Str.empty)))=(c.ns.map D.str).map T.sh:=by
     rw[aBL,← h.ok.nl];exact G6 (f:=fun x=>T.sh (.str x)) c.ns
   rw[← this];rfl
 case Ao=>
 refine aH (aF (jN (p:=fun _=>true) (g:=fun d=>.sh ((c.rows.getD ((bT d 0).Gv-1).toNat (.bx "" 0)).nf (bT d 0).Gv)) (bC (.cons E.bK.1 (.inl E.LN) (.cons E.iM.1 (.inl E.T5) .nil)) Q.b) E.g.calm (cY (v_ E.fN.1)) (.inr rfl) (fun C s0 H0 f0 b' d hd=>?aj8) hlen) (t2:=.lst (c.M4.map T.sh)) ?eq3) rfl
 case aj8=>
   obtain⟨i,r,hi,hr,er,rfl⟩:=x9 hd;have ei:(((i:Nat)+1:Int)-1).toNat=i:=by omega
   refine⟨rfl,fun _=>?_⟩;show bU _ _ _ _ _ (T.sh ((c.rows.getD (((i:Nat)+1:Int)-1).toNat (.bx "" 0)).nf ((i:Nat)+1:Int))) _;rw[ei,← er];exact c_ (c.bn,c.ns,r,((i:Nat)+1:Int)) (l0 E.Km) oZ (ah (Mp (eN 0) (G3 _ _ _ _).symm) (ah (mX 1) (ah (mX 2) av))) (by dsimp only [gS];exact⟨h.b,h.n,dI r hr⟩) (adw (dI r hr))
 case eq3=>
   rw[dJ];unfold idx CH.M4;rw[aBL,aBL];refine congrArg T.lst (aCp fun i _=>?_);show T.sh ((c.rows.getD (((i:Nat)+1:Int)-1).toNat (.bx "" 0)).nf ((i:Nat)+1:Int))=_;rw[show(((i:Nat)+1:Int)-1).toNat=i by omega];rfl
def m8:chk (au yu) ([("forms",fF),("boxes",.cell),("moods",.cell),("places",c6)])=true:=Q.f
def WQ:gF NS ["forms"] (au yu):=rL
abbrev Hs:=top 12
abbrev Ht:=Str
abbrev Ri:AT:=["text","sign"]
def ko:Ht->Ap:=fun x=>[.str x]
def jc:Ht->Prop:=fun x=>x.length<=1000
def kr:Ht->T:=fun x=>(.sh (.bl (dN x)):T)
structure afx(X:Cx)(CL:BA):Prop extends bB X where
 b6:Ln X 0 "text"
 NT:Ln X 1 "sign"
 bf:Gl X "len"
 NV:Gl X "LONGEST_NAME"
 anY:Gl X "WORDS"
 afy:Gl X "LETTERS"
 zK:Gl X "LETTERS_AND_FIGURES"
 bq:X.mg "len" = none
 NW:∃u,X.mg "LONGEST_NAME" = some (.int 12 u)
 T6:GT X "WORDS" ["all","and","box","call","do","far","if","in","leaf","near","on","one","open","out","put","say","shut","then","to"]
 afz:∃u,X.mg "LETTERS" = some (.str "abcdefghijklmnopqrstuvwxyz" u)
 zL:∃u,X.mg "LETTERS_AND_FIGURES" = some (.str "abcdefghijklmnopqrstuvwxyz0123456789" u)
def afA(E:afx X CL) :
   lA X CL b Hs Ri ko jc kr:=by
 intro x h;dsimp only [jc,ko,kr]at h ⊢;have hz:x.length<=sizeLine:=aCj (bz h);refine aS (jg (j0 (bI (aq E.b6) az).1 (fun hb=>(j0 (Ey (ak (Lp E.bq (aq E.b6) (hz) E.bf)) (ak (aP E.NW E.NV))).1 (fun hb2=>(jZ (acS (aq E.b6) (ak (dP E.T6 E.anY)) (rfl) rfl).1)))))) (fun hp=>?_) (fun hp=>aj ?_)
 . refine aH rG ?_;have hp:(decide (x="") || (decide ((12:Int)<(x.length:Nat)) || decide (x∈Lv)))=true:=hp;show T.sh _=T.sh (.bl (dN x));refine congrArg (fun z=>T.sh (.bl z)) ?_;simp only[aDp,aCG]at hp;unfold dN;rcases hp with z|z|z
   . subst z;decide +kernel
   . rw[aBS (p:=x.length<=12) Q.a,aDE,aCx]
   . rw[aBH z,Bool.not_true,aDE,aCx,aCx]
 have hp:(decide (x="") || (decide ((12:Int)<(x.length:Nat)) || decide (x∈Lv)))=false:=hp;simp only[aDN,aC1]at hp;obtain⟨h1,h2,h3⟩:=hp;have hl1:1<=x.length:=by
   rcases Nat.eq_zero_or_pos x.length with z|z
   . exact absurd (SD z) h1
   . exact z
 have hll:x.cps.toList.length=x.length:=by simp[Str.length]
 have hnm:dN x=(isLt (x.cps.toList.getD 0 0)&&x.cps.toList.all (fun c=>isLt c || qf c)):=by
   unfold dN;rw[aBH hl1,aBH (show x.length<=12 by omega),aBS h3];rfl
 refine aS (z6 (ak (R7 (aq E.b6) ai hz (Sh 0 Q.a Q.a))) (ak (Mu E.afz E.afy)) rfl).1 (fun hp=>?_) (fun hp=>aj ?_)
 . refine aH rG ?_;rw[MG]at hp;have hp:(!isLt (x.cps.toList.getD 0 0))=true:=hp;rw[aCB]at hp;show T.sh _=T.sh (.bl (dN x));rw[hnm,hp];rfl
 rw[MG]at hp;have hp:(!isLt (x.cps.toList.getD 0 0))=false:=hp;rw[aC9]at hp;refine j4 E.g E.NT (fun j δ=>(∃o,δ=[some (.sh (.str x)),o])/\(x.cps.toList.take j).all (fun c=>isLt c || qf c)=true)
   (ah5 (v_ E.b6.1)) ⟨⟨_,rfl⟩,rfl⟩ (fun j δ ⟨⟨_,e⟩,_⟩=>by subst e;exact aBu rfl) ?turn ?fin
 case turn=>
   rintro j d δ hj ⟨⟨o,rfl⟩,Mf⟩;obtain⟨c,rfl,hc⟩:=MH hj;refine aS (z6 (aq E.NT) (ak (Mu E.zL E.zK)) rfl).1 (fun hq=>?_) (fun hq=>aj (aj ⟨⟨_,rfl⟩,?_⟩))
   . refine aH rG ?_;rw[ac1]at hq;have hq:(isLt c || qf c)=false:=by simpa using hq
     show T.sh _=T.sh (.bl (dN x));have ha:x.cps.toList.all (fun c=>isLt c || qf c)=false:=by
       rw[List.all_eq_false];exact⟨c,aBQ hc,by rw[hq];decide⟩
     rw[hnm,ha,aCx]
   . rw[ac1]at hq;have hq:(!(isLt c || qf c))=false:=hq;rw[aC9]at hq;rw[aCH,hc,List.all_append,Mf];show(true&&([c].all fun c=>isLt c || qf c))=true;rw[aDz,hq];rfl
 case fin=>
   rintro δ ⟨⟨o,rfl⟩,Mf⟩;refine aH rG ?_;rw[show(lH x).length=x.cps.toList.length by simp[lH],aCv]at Mf;show T.sh _=T.sh (.bl (dN x));rw[hnm,hp,Mf];rfl
def ku:FG Ri ["text"] ["len","LONGEST_NAME","WORDS","LETTERS","LETTERS_AND_FIGURES"] (au Hs):=fG
abbrev Hu:=top 56
abbrev Hv:=Str×Int
abbrev Rj:AT:=["text","row"]
def gU:Hv->Ap:=fun(x,r)=>[.str x,.int r]
def gV:Hv->Prop:=fun(x,r)=>dN x=true
def gX:Hv->T:=fun(x,r)=>(.sh (.str x):T)
structure afB(X:Cx)(CL:BA):Prop extends bB X where
 b6:Ln X 0 "text"
 bS:Ln X 1 "row"
 jE:Gl X "is_name"
 m9:Fc X CL "is_name" 1 1 ko jc kr
def afC(E:afB X CL) :
   lA X CL b Hu Rj gU gV gX:=by
 rintro⟨x,r⟩ h;dsimp only [gV,gU,gX]at h ⊢;have hl:=(kg h).2.1;refine aS (iC (f6 (aF (c_ x E.m9 E.jE (ah (aq E.b6) av) (by dsimp only [jc];omega) rfl) (t2:=.sh (.bl true)) (congrArg (fun z=>T.sh (.bl z)) h)))) (fun z=>absurd z Q.c) (fun _=>aj ?_);exact aH (v_ E.b6.1) rfl
def yw:FG Rj ["text","row"] ["is_name"] (au Hu):=fG
abbrev wg:=top 59
abbrev wj:=Str
abbrev CD:AT:=["text","sign"]
def jw:wj->Ap:=fun x=>[.str x]
def gB:wj->Prop:=fun x=>x.length<=1000
def jx:wj->T:=fun x=>(.sh (.bl (zb x)):T)
structure Qq(X:Cx)(CL:BA):Prop extends bB X where
 b6:Ln X 0 "text"
 NT:Ln X 1 "sign"
 bf:Gl X "len"
 NX:Gl X "MOST_FIGURES"
 afD:Gl X "FIGURES"
 bq:X.mg "len" = none
 NZ:∃u,X.mg "MOST_FIGURES" = some (.int 30 u)
 afE:∃u,X.mg "FIGURES" = some (.str "0123456789" u)
def Qs(E:Qq X CL) :
   lA X CL b wg CD jw gB jx:=by
 intro x h;dsimp only [gB,jw,jx]at h ⊢;have hz:x.length<=sizeLine:=aCj (bz h);have hll:=j9 x;refine aS (jg (j0 (bI (aq E.b6) az).1 (fun hn=>j0 (Ey (ak (Lp E.bq (aq E.b6) (hz) E.bf)) (ak (aP E.NZ E.NX))).1 (fun _=>jZ (bI (ak (R7 (aq E.b6) ai hz (Sh 0 Q.a ?ix))) az).1)))) (fun hp=>?_) (fun hp=>aj ?_)
 case ix=>
   rcases Nat.eq_zero_or_pos x.length with z|z
   . exact absurd (SD z) (aBG hn)
   . omega
 . refine aH rG ?_;have hp:(decide (x="") || (decide ((30:Int)<(x.length:Nat)) || decide ((⟨#[x.cps.toList.getD 0 0]⟩:Str)="0")))=true:=hp;show T.sh _=T.sh (.bl (zb x));refine congrArg (fun z=>T.sh (.bl z)) ?_;simp only[aDp,aCG]at hp;unfold zb;rcases hp with z|z|z
   . subst z;decide +kernel
   . rw[aBS (p:=x.length<=30) Q.a,aDE,aCx]
   . have e:x.cps.toList.getD 0 0=48:=by
       rw[show("0":Str)=⟨#[48]⟩ by decide +kernel]at z;have:=congrArg (fun s:Str=>s.cps.toList) z;exact(aBT this).1
     rw[aBH e,Bool.not_true,aDE,aCx,aCx]
 have hp:(decide (x="") || (decide ((30:Int)<(x.length:Nat)) || decide ((⟨#[x.cps.toList.getD 0 0]⟩:Str)="0")))=false:=hp;simp only[aDN,aC1]at hp;obtain⟨h1,h2,h3⟩:=hp;have hl1:1<=x.length:=by
   rcases Nat.eq_zero_or_pos x.length with z|z
   . exact absurd (SD z) h1
   . exact z
 have h3:¬ x.cps.toList.getD 0 0=48:=fun z=>h3 (by rw[z];decide +kernel);have hnm:zb x=x.cps.toList.all qf:=by
   unfold zb;rw[aBH hl1,aBH (show x.length<=30 by omega),aBS h3];rfl
 refine j4 E.g E.NT (fun j δ=>(∃o,δ=[some (.sh (.str x)),o])/\(x.cps.toList.take j).all qf=true)
   (ah5 (v_ E.b6.1)) ⟨⟨_,rfl⟩,rfl⟩ (fun j δ ⟨⟨_,e⟩,_⟩=>by subst e;exact aBu rfl) ?turn ?fin
 case turn=>
   rintro j d δ hj ⟨⟨o,rfl⟩,Mf⟩;obtain⟨c,rfl,hc⟩:=MH hj;refine aS (z6 (aq E.NT) (ak (Mu E.afE E.afD)) rfl).1 (fun hq=>?_) (fun hq=>aj (aj ⟨⟨_,rfl⟩,?_⟩))
   . refine aH rG ?_;rw[adi]at hq;have hq:qf c=false:=by simpa using hq
     show T.sh _=T.sh (.bl (zb x));have ha:x.cps.toList.all qf=false:=by
       rw[List.all_eq_false];exact⟨c,aBQ hc,by rw[hq];decide⟩
     rw[hnm,ha]
   . rw[adi]at hq;have hq:(!qf c)=false:=hq;rw[aC9]at hq;rw[aCH,hc,List.all_append,Mf];show(true&&[c].all qf)=true;rw[aDz,hq];rfl
 case fin=>
   rintro δ ⟨⟨o,rfl⟩,Mf⟩;refine aH rG ?_;rw[show(lH x).length=x.cps.toList.length by simp[lH],aCv]at Mf;show T.sh _=T.sh (.bl (zb x));rw[hnm,Mf]
def i6:FG CD ["text"] ["len","MOST_FIGURES","FIGURES"] (au wg):=fG
theorem Fg(x:Str):Txt.startswith x "-" = decide (x.cps.toList.head? = some 45):=by
 unfold Txt.startswith;obtain⟨⟨l⟩⟩:=x;have e1:("-":Str)=⟨#[45]⟩:=Q.f;rw[e1];unfold Builtin.Str.subAt;cases l with
 | nil=>rfl
 | cons c l=>
   by_cases h:c=45
   . subst h;simp[Str.length]
   . simp[Str.length,h]
def auT(n:Nat):Builtin.Str.strSliceIndices (some 1) none 1 (n+1)=(List.range n).map (· + 1):=by
 unfold Builtin.Str.strSliceIndices sliceRange;have e:max (0:Int) (min 1 ((n+1:Nat):Int))=1:=by omega
 simp only[show ¬ (1:Int)<0 by decide,if_false,show(1:Int) > 0 by decide,aDQ,e];have e2:(if (1:Int)<((n+1:Nat):Int) then(((n+1:Nat):Int)-1+1-1) / 1 else 0).toNat=n:=by
   split<;>omega
 rw[e2];refine aCp fun k _=>?_;omega
theorem anZ(l:CU):∀r:CU,((List.range l.length).map (· + r.length)).filterMap (fun i=>(r++l).toArray[i]?)=l:=by
 induction l with
 | nil=>intro r;rfl
 | cons c l ih=>
   intro r;rw[aBP,List.range_succ_eq_map,aBK,aCS];have e:(r++c::l).toArray[0+r.length]? = some c:=by simp
   rw[e];have:=ih (r++[c]);rw[aBz,aBV,aBA]at this;show c::_=_;congr 1;rw[aBL];refine Eq.trans ?_ this;congr 1;refine aCp fun k _=>?_;show k+1+r.length=k+(r.length+1);omega
def afF{x:Str}{c:Nat}{l:CU}(hx:x.cps.toList=c::l):Txt.slice x (some 1) none=⟨(x.cps.toList.drop 1).toArray⟩:=by
 obtain⟨⟨m⟩⟩:=x;have hx:m=c::l:=hx;subst hx;unfold Txt.slice;have hl:(⟨⟨c::l⟩⟩:Str).length=l.length+1:=rfl;rw[hl,auT,aBx Uf];have:=anZ l [c];exact congrArg (fun z:CU=>(⟨z.toArray⟩:Str)) this
abbrev AO:=top 58
abbrev AQ:=Str
abbrev Jw:AT:=["text","figures"]
def lS:AQ->Ap:=fun x=>[.str x]
def iH:AQ->Prop:=fun x=>x.length<=1000
def lU:AQ->T:=fun x=>(.sh (.bl (Q5 x)):T)
structure WR(X:Cx)(CL:BA):Prop extends bB X where
 b6:Ln X 0 "text"
 Rk:Ln X 1 "figures"
 lV:Gl X "are_figures"
 wk:Fc X CL "are_figures" 1 1 jw gB jx
def WT(E:WR X CL) :
   lA X CL b AO Jw lS iH lU:=by
 intro x h;dsimp only [iH,lS,lU]at h ⊢;have h:x.length<=1000:=h;have hl:(vY x).length<=1000:=by
   unfold vY;split
   . rw[← j9];show(x.cps.toList.drop 1).length<=1000;rw[List.length_drop,j9];omega
   . exact h
 refine aD E.g E.Rk (vU (t:=.sh (.str (vY x))) (f6 (ae4 (aq E.b6) az)) (fun z=>aF (aeM (aq E.b6) (sz Q.a) (nA ai) ny) ?e1) (fun z=>aF (v_ E.b6.1) ?e2)) ?rest
 case e1=>
   rw[Fg]at z;have hz:=aBv z;cases hx:x.cps.toList with
   | nil=>rw[hx]at hz;cases hz
   | cons c l=>rw[afF hx,vY,aBE hz]
 case e2=>
   rw[Fg]at z;rw[vY,aBx (aBG z)]
 case rest=>
 exact aH (aoX (bI (aq E.b6) az).2 (fun _=>mD (aF (c_ (vY x) E.wk E.lV (ah (aq E.Rk) av) hl rfl) (t2:=.sh (.bl (zb (vY x)))) rfl))) rfl
def sq:FG Jw ["text"] ["are_figures"] (au AO):=fG
abbrev AU:=top 57
abbrev AV:=Int×Int
abbrev Jx:AT:=["text","row"]
def pY:AV->Ap:=fun(k,r)=>[.str (sI k),.int r]
def pZ:AV->Prop:=fun(k,r)=>k.natAbs<10 ^ 30
def p6:AV->T:=fun(k,r)=>(.sh (.int k):T)
structure WU(X:Cx)(CL:BA):Prop extends bB X where
 b6:Ln X 0 "text"
 bS:Ln X 1 "row"
 qx:Gl X "is_number"
 adH:Gl X "int"
 AW:Fc X CL "is_number" 2 1 lS iH lU
 adI:X.mg "int" = none
def WV(E:WU X CL) :
   lA X CL b AU Jx pY pZ p6:=by
 rintro⟨k,r⟩ h;dsimp only [pZ,pY,p6]at h ⊢;have hl:=tM h;refine aS (iC (f6 (aF (c_ (sI k) E.AW E.qx (ah (aq E.b6) av) (by dsimp only [iH];omega) rfl) (t2:=.sh (.bl true)) (congrArg (fun z=>T.sh (.bl z)) (ai6 h))))) (fun z=>absurd z Q.c) (fun _=>aj ?_);exact aH (Sx E.adI (aq E.b6) (MS h) Q.a E.adH) rfl
def nU:FG Jx ["text","row"] ["is_number","int"] (au AU):=fG
abbrev Hw:=top 60
abbrev Hx:=LT×Int
abbrev Rl:AT:=["text","row","mark","parts","name","more"]
def qy:Hx->Ap:=fun(p,r)=>[.str p.tt,.int r]
def qz:Hx->Prop:=fun(p,r)=>S9 p
def qA:Hx->T:=fun(p,r)=>(.sh (.tup [.str p.tn,.int p.c]):T)
structure afG(X:Cx)(CL:BA):Prop extends bB X where
 b6:Ln X 0 "text"
 bS:Ln X 1 "row"
 jJ:Ln X 2 "mark"
 bL:Ln X 3 "parts"
 cJ:Ln X 4 "name"
 mG:Ln X 5 "more"
 qx:Gl X "is_number"
 adH:Gl X "int"
 cQ:Gl X "name_of"
 lV:Gl X "are_figures"
 AW:Fc X CL "is_number" 2 1 lS iH lU
 adI:X.mg "int" = none
 dg:Fc X CL "name_of" 2 2 gU gV gX
 wk:Fc X CL "are_figures" 1 1 jw gB jx
def afH(E:afG X CL) :
   lA X CL b Hw Rl qy qz qA:=by
 rintro⟨p,r⟩ h;dsimp only [qz,qy,qA]at h ⊢;have hl:=aja h;have hd:∀c:Nat,uL ⟨#[c]⟩ p.tt=decide (c∈p.tt.cps.toList):=fun c=>by
   unfold uL;rw[aDx]
 refine aS (f6 (aF (c_ p.tt E.AW E.qx (ah (aq E.b6) av) (by dsimp only [iH];omega) rfl) (t2:=.sh (.bl (decide (p.a=-1)))) (congrArg (fun z=>T.sh (.bl z)) (ZC h)))) (fun z=>?_) (fun z=>aj ?_)
 . have ha:p.a=-1:=aBv z;have e:p.tt=sI p.c:=by rw[LT.tt,trL,aBE ha]
   refine aH (aU (ds:=[.str "",.int p.c]) (bE b9 (bE (Sx E.adI (aq E.b6) (by rw[e];exact MS h.c) Q.a E.adH) cj)) aK) ?_;show T.sh _=T.sh (.tup [.str p.tn,.int p.c]);rw[LT.tn,aBE ha]
 have ha:¬ p.a=-1:=aBG z;have etn:p.tn=p.n0:=by rw[LT.tn,aBx ha]
 by_cases hc:p.c=0
 . have e:p.tt=p.n0:=by rw[LT.tt,trL,aBx ha,aBE hc]
   have e1:uL "-" p.tt=false:=by
     rw[show("-":Str)=⟨#[45]⟩ by decide +kernel,hd 45,e];exact aBS (Jl h.n0 Q.c)
   refine aD E.g E.jJ (vU (t:=.sh (.str "+")) (VC az (aq E.b6) rfl).1 (fun q=>absurd (e1▸q) Q.c) (fun _=>b9)) ?_;refine aD E.g E.bL (VM (l:=[p.n0,"",""]) (aq E.b6) (aq E.jJ) Q.b (sz Q.a) (by
     rw[show("+":Str)=⟨#[43]⟩ by decide +kernel,e];exact anu (Jl h.n0 Q.c))) ?_
   refine aD E.g E.cJ (c_ (p.n0,r) E.dg E.cQ (ah (ay (aq E.bL) ai iK) (ah (aq E.bS) av)) h.n0 rfl) ?_;refine aS (bI (ay (aq E.bL) ai jX) az).1 (fun _=>?_) (fun q=>absurd (aBG q) Q.b);refine aH (aU (ds:=[.str p.n0,.int 0]) (bE (v_ E.cJ.1) (bE GF cj)) aK) ?_;show T.sh _=T.sh (.tup [.str p.tn,.int p.c]);rw[etn,hc]
 have e:p.tt=p.n0++EV p.c++sI (p.c.natAbs:Int):=by rw[LT.tt,trL,aBx ha,aBx hc]
 have ecs:p.tt.cps.toList=p.n0.cps.toList++(EV p.c).cps.toList++(sI (p.c.natAbs:Int)).cps.toList:=by rw[e,cV,cV]
 have e1:uL "-" p.tt=decide (p.c<0):=by
   rw[show("-":Str)=⟨#[45]⟩ by decide +kernel,hd 45,ecs];apply decide_eq_decide.mpr;rw[aBy,aBy,x6];constructor
   . intro q;rcases q with(q|q)|q
     . exact absurd q (Jl h.n0 Q.c)
     . have:45=(if 0<p.c then 43 else 45):=aBB.mp q;split at this<;>omega
     . exact absurd q (ajb _ Q.c)
   . intro q;refine .inl (.inr (aBB.mpr ?_));rw[aBx Q.a]
 have hk2:(sI ((p.c.natAbs:Nat):Int)).length<=31:=tM (by rw[aDm];exact h.c);refine aD E.g E.jJ (vU (t:=.sh (.str (EV p.c))) (VC az (aq E.b6) rfl).1 (fun q=>aF b9 ?p1) (fun q=>aF b9 ?p2)) ?rest
 case p1=>
   rw[e1]at q;have:=aBv q;rw[EV,aBx Q.a]
 case p2=>
   rw[e1]at q;have:=aBG q;rw[EV,aBE Q.a]
 case rest=>
 refine aD E.g E.bL (VM (l:=[p.n0,EV p.c,sI (p.c.natAbs:Int)]) (aq E.b6) (aq E.jJ) (by rw[Ly];rfl) (sz Q.a) (by
   rw[e,x6];exact ai3 (Jl h.n0 (by split<;>decide)))) ?_
 refine aD E.g E.cJ (c_ (p.n0,r) E.dg E.cQ (ah (ay (aq E.bL) ai iK) (ah (aq E.bS) av)) h.n0 rfl) ?_;refine aS (bI (ay (aq E.bL) ai jX) az).1 (fun q=>?_) (fun _=>aj ?_)
 . have:EV p.c="":=aBv q;have e:=Ly p.c;rw[this]at e;cases e
 refine aS (iC (f6 (aF (c_ (sI (p.c.natAbs:Int)) E.wk E.lV (ah (ay (aq E.bL) ai oU) av) (by dsimp only [gB];omega) rfl) (t2:=.sh (.bl true)) (congrArg (fun z=>T.sh (.bl z)) (Zz Q.a h.c))))) (fun z=>absurd z Q.c) (fun _=>aj ?_);refine aD E.g E.mG (Sx (n:=(p.c.natAbs:Int)) E.adI (ay (aq E.bL) ai oU) (MS (by rw[aDm];exact h.c)) Q.a E.adH) ?_;refine aH (aU (ds:=[.str p.n0,.int p.c]) (bE (v_ E.cJ.1) (bE (vU (t:=.sh (.int p.c)) (bI (aq E.jJ) az).1 (fun q=>aF (v_ E.mG.1) ?m1) (fun q=>aF (cS (aq E.mG)) ?m2)) cj)) aK) ?fin
 case m1=>
   have q:EV p.c="+":=aBv q;rw[EV]at q;split at q
   . exact congrArg (fun z=>T.sh (.int z)) Q.a
   . exact absurd q Q.b
 case m2=>
   have q:¬ EV p.c="+":=aBG q;rw[EV]at q;split at q
   . exact absurd rfl q
   . exact congrArg (fun z=>T.sh (.int z)) Q.a
 case fin=>
   show T.sh _=T.sh (.tup [.str p.tn,.int p.c]);rw[etn]
def gk:FG Rl ["text","row"] ["is_number","int","name_of","are_figures"] (au Hw):=fG
abbrev Hy:=top 61
abbrev Hz:=AT×D×Int
abbrev Rm:AT:=["words","row"]
def qB:Hz->Ap:=fun(bn,d,r)=>[.lst ((dW bn d).map .str),.int r]
def kB:Hz->Prop:=fun(bn,d,r)=>uF bn/\J8 bn.length d
def qC:Hz->T:=fun(bn,d,r)=>(.sh (dC bn d):T)
structure afI(X:Cx)(CL:BA):Prop extends bB X where
 aN:Ln X 0 "words"
 bS:Ln X 1 "row"
 bf:Gl X "len"
 cQ:Gl X "name_of"
 sV:Gl X "term_of"
 bq:X.mg "len" = none
 dg:Fc X CL "name_of" 2 2 gU gV gX
 Cb:Fc X CL "term_of" 3 2 qy qz qA
def afJ(E:afI X CL) :
   lA X CL b Hy Rm qB kB qC:=by
 rintro⟨bn,d,r⟩ h;dsimp only [kB,qB,qC]at h ⊢;obtain⟨hb,hd⟩:=h;rcases Af hb hd with⟨n,hn,e1,e2⟩|⟨w,n,t,hw,hn,ht,e1,e2⟩
 . rw[e1,e2];refine aS (jg (gy (cg (ak (bF (n:=2) rfl E.bq (aq E.aN) E.bf)) ai).1 fun _=>nj (bI (aI (aq E.aN) ai iK) az).1)) (fun _=>?_) (fun z=>absurd z Q.b);exact aH (aU (bE b9 (bE (c_ (n,r) E.dg E.cQ (ah (aI (aq E.aN) ai jX) (ah (aq E.bS) av)) hn rfl) cj)) aK) rfl
 . obtain⟨p,hp,e3,e4⟩:=MY hb ht;rw[e1,e2,← e3,← e4];refine aS (jg (gy (q:=false) (cg (ak (bF (n:=3) rfl E.bq (aq E.aN) E.bf)) ai).1 fun z=>absurd (aBv z) Q.c)) (fun z=>absurd z Q.b) (fun _=>aj ?_);refine aS (jg (gy (cg (ak (bF (n:=3) rfl E.bq (aq E.aN) E.bf)) ai).1 fun _=>nj (ji (aI (aq E.aN) ai iK) (e7 rfl)).1)) (fun _=>?_) (fun z=>?_)
   . exact aH (aU (bE (aG (aI (aq E.aN) ai iK) rfl) (bE (c_ (n,r) E.dg E.cQ (ah (aI (aq E.aN) ai jX) (ah (aq E.bS) av)) hn rfl) (bE (c_ (p,r) E.Cb E.sV (ah (aI (aq E.aN) ai oU) (ah (aq E.bS) av)) hp rfl) cj))) aK) rfl
   . rw[aBH hw]at z;exact absurd z Q.c
def pF:FG Rm ["words","row"] ["len","name_of","term_of"] (au Hy):=fG
def lT(p:AT):T:=.lst ((p.map D.str).map T.sh)
def lD(p:AT):D:=.lst (p.map .str)
def an0(l:DO):T.fj (.lst (l.map lT))=.lst (l.map lD):=by
 rw[T.fj];congr 1
 induction l with
 | nil=>rfl
 | cons p l ih=>
   rw[aBK,T.ni,ih,aBK];congr 1;exact di _
def afK(l:DO):T.clean (.lst (l.map lT))=true:=by
 rw[jA]
 induction l with
 | nil=>rfl
 | cons p l ih=>
   rw[aBK,T.fZ,ih];have:(lT p).clean=true:=mF _;rw[this];rfl
abbrev DJ:=top 64
abbrev DK:=DO
abbrev N1:AT:=["words","parts","word"]
def su:DK->Ap:=fun ps=>[.lst (ps.flatten.map .str)]
def nV:DK->Prop:=fun ps=>(∀p∈ps,Prt p)/\ps.flatten.length<=1000
def sy:DK->T:=fun ps=>(.lst (ps.map lT):T)
structure aao(X:Cx)(CL:BA):Prop extends bB X where
 aN:Ln X 0 "words"
 bL:Ln X 1 "parts"
 aR:Ln X 2 "word"
 AX:Gl X "FOLLOWERS"
 qD:L2.GE X "FOLLOWERS" [("on",["if","do","to"]),("if",["and","do","to"]),("and",["and","do","to"]),("do",["then","to"]),("then",["then","to"]),("to",[])]
def aap(E:aao X CL) :
   lA X CL b DJ N1 su nV sy:=by
 intro ps h;dsimp only [nV,su,sy]at h ⊢;obtain⟨hp,hl⟩:=h;refine aD E.g E.bL (dM cj (aB0 _)) ?_;refine j4 E.g E.aR (fun j δ=>∃o,δ=[some (.sh (.lst (ps.flatten.map .str))),some (.lst (((ps.flatten.take j).foldl pS []).map lT)),o]) (cY (v_ E.aN.1)) ⟨_,rfl⟩ (fun j δ ⟨_,e⟩=>by subst e;exact aBu rfl) ?turn ?fin
 case turn=>
   rintro j d δ hj ⟨o,rfl⟩;obtain⟨x,rfl,hx,_,E3,_,_⟩:=vV hj;have el:(ps.flatten.take (j+1)).foldl pS []=pS ((ps.flatten.take j).foldl pS []) x:=by
     rw[wZ hx,aCt];rfl
   have hn:=ZF (ps.flatten.take j) [];rw[aCe]at hn;have hlen:((ps.flatten.take j).foldl pS []).length<=1000:=by
     have:=hn.2;simp at this;omega
   have M8:x∉fk->0<((ps.flatten.take j).foldl pS []).length:=fun hxf=>by
     cases ps with
     | nil=>rw[List.flatten_nil]at hx;cases hx
     | cons p ps=>
       obtain⟨f,l,rfl,hf,_⟩:=hp p aBr;cases j with
       | zero=>
         cases hx;exact absurd hf hxf
       | succ j=>
         rw[aCQ,aB3,List.take_succ_cons,aCf];have e:pS [] f=[[f]]:=aBE hf;rw[e];have:=(ZF ((l++ps.flatten).take j) [[f]]).1;exact aCn Nat.zero_lt_one this
   rw[el];have hpl:∀p∈(ps.flatten.take j).foldl pS [],p.length<=1000000:=fun p hq=>by
     have:=ajs (ps.flatten.take j) [] 0 (fun q hq=>by(cases hq)) p hq;rw[aCe]at this;omega
   generalize (ps.flatten.take j).foldl pS []=st at hlen M8 hpl ⊢;refine aS (arK (l:=ZE) E.qD E.AX (aq E.aR)) (fun z=>?_) (fun z=>?_)
   . rw[ajq]at z;refine My (xV E.bL.1 rfl) rfl rfl (aF (dM (tl:=[.sh (.str x)]) (bE (v_ E.aR.1) cj) aK) (t2:=lT [x]) rfl) rfl rfl (by rw[aBp];omega) (aj (aj ?_));have:pS st x=st++[[x]]:=aBE (aBv z);rw[this,aBF];exact⟨_,rfl⟩
   . rw[ajq]at z;have hxf:=aBG z;have h0:=M8 hxf;have hix:YD (st.map lT).length (-1)=some (st.length-1):=by
       rw[aBp];exact ER h0
     have hk:(st.map lT)[st.length-1]? = some (lT (st.getD (st.length-1) [])):=by
       rw[aBR,aBs,aBC (show st.length-1<st.length by omega)];rfl
     have hpt:T.J5 [.ix (st.length-1)] (lT (st.getD (st.length-1) []++[x])) (.lst (st.map lT))=.lst ((st.map lT).set (st.length-1) (lT (st.getD (st.length-1) []++[x]))):=by
       show(match (st.map lT)[st.length-1]? with|some k=>_|none=>_)=_;rw[hk];rfl
     have hap:T.lst (((st.getD (st.length-1) []).map D.str).map T.sh++[T.sh (.str x)])=lT (st.getD (st.length-1) []++[x]):=by
       unfold lT;rw[aBF,aBF];rfl
     have hge:T.Df [.ix (st.length-1)] (.lst (st.map lT))=some (lT (st.getD (st.length-1) [])):=by
       show((st.map lT)[st.length-1]?).bind (fun x=>some x.core)=_;rw[hk];rfl
     refine My (p:=[.ix (st.length-1)]) (ait (xV E.bL.1 rfl) rfl rfl (ak (cS ai)) hix) rfl hge (v_ E.aR.1) rfl hge (by rw[aBp,aBp];exact hpl _ (rM [] h0)) (aj (aj ?_));have:pS st x=st.set (st.length-1) (st.getD (st.length-1) []++[x]):=aBx hxf;rw[this,aDF,← hpt,← hap];exact⟨_,rfl⟩
 case fin=>
   rintro δ ⟨o,rfl⟩;have e:(ps.flatten.take (ps.flatten.map D.str).length).foldl pS []=ps:=by
     rw[aBp,aCv,ajr ps [] hp];rfl
   rw[e];exact aH (vM E.bL.1) rfl
def qE:FG N1 ["words"] ["FOLLOWERS"] (au DJ):=fG
abbrev HB:=top 65
abbrev HC:=AT×WY×AT×Int
abbrev Rn:AT:=["part","row"]
def vf:HC->Ap:=fun(ns,w,p,r)=>[.lst (p.map .str),.int r]
def qF:HC->Prop:=fun(ns,w,p,r)=>uF ns/\((w.tg=-1/\w.md="new" /\ ∃x l,p=x::l/\x≠"to")\/((0<=w.tg/\w.tg<ns.length)/\w.md∈(["new","near","far"]:AT)/\p=("to":Str)::ns.getD w.tg.toNat Str.empty::Ql w))
def vg:HC->T:=fun(ns,w,p,r)=>(.sh (.tup [.str (tgC ns w),.str w.md]):T)
structure afL(X:Cx)(CL:BA):Prop extends bB X where
 mJ:Ln X 0 "part"
 bS:Ln X 1 "row"
 bf:Gl X "len"
 cQ:Gl X "name_of"
 bq:X.mg "len" = none
 dg:Fc X CL "name_of" 2 2 gU gV gX
def afM(E:afL X CL) :
   lA X CL b HB Rn vf qF vg:=by
 rintro⟨ns,w,p,r⟩ h;dsimp only [qF,vf,vg]at h ⊢;obtain⟨hn,⟨h1,h2,x,l,rfl,hx⟩|⟨h1,h2,rfl⟩⟩:=h
 . have e:tgC ns w="":=aBE h1;rw[e,h2];refine aS (vS (aI (aq E.mJ) ai iK) az).1 (fun _=>?_) (fun z=>?_)
   . exact aH (aU (ao b9 (ao b9 aZ)) aK) rfl
   . rw[aBS hx]at z;cases z
 . have e:tgC ns w=ns.getD w.tg.toNat Str.empty:=aBx Q.a;have hm:=kh hn h1.1 h1.2;rw[e];generalize ns.getD w.tg.toNat Str.empty=n at hm ⊢;unfold Ql;by_cases hw:w.md="new"
   . rw[aBE hw,hw];refine aS (vS (aI (aq E.mJ) ai iK) az).1 (fun z=>absurd z Q.b) (fun _=>aj ?_);refine aS (cg (ak (bF (n:=2) rfl E.bq (aq E.mJ) E.bf)) ai).1 (fun _=>?_) (fun z=>absurd (aBG z) Q.c);exact aH (aU (ds:=[.str n,.str "new"]) (ao (c_ (n,r) E.dg E.cQ (ah (aI (aq E.mJ) ai jX) (ah (aq E.bS) av)) hm rfl) (ao b9 aZ)) aK) rfl
   . rw[aBx hw];have hw2:w.md∈(["near","far"]:AT):=by
       rcases aBq.mp h2 with z|z
       . exact absurd z hw
       . exact z
     generalize w.md=m at hw2 ⊢;refine aS (vS (aI (aq E.mJ) ai iK) az).1 (fun z=>absurd z Q.b) (fun _=>aj ?_);refine aS (cg (ak (bF (n:=3) rfl E.bq (aq E.mJ) E.bf)) ai).1 (fun z=>absurd (aBv z) Q.c) (fun _=>aj ?_);refine aS (jg (gy (cg (ak (bF (n:=3) rfl E.bq (aq E.mJ) E.bf)) ai).1 fun _=>nj (ji (aI (aq E.mJ) ai oU) (e7 rfl)).1)) (fun _=>?_) (fun z=>?_)
     . exact aH (aU (ds:=[.str n,.str m]) (ao (c_ (n,r) E.dg E.cQ (ah (aI (aq E.mJ) ai jX) (ah (aq E.bS) av)) hm rfl) (ao (aG (aI (aq E.mJ) ai oU) rfl) aZ)) aK) rfl
     . rw[aBH hw2]at z;exact absurd z Q.c
def t8:FG Rn ["part","row"] ["len","name_of"] (au HB):=fG
abbrev N2:=top 62
abbrev N3:=AT×AT×D×Int
abbrev WW:AT:=["words","row"]
def yx:N3->Ap:=fun(bn,ns,d,r)=>[.lst ((aW bn ns d).map .str),.int r]
def t9:N3->Prop:=fun(bn,ns,d,r)=>uF bn/\uF ns/\tL bn.length ns.length d
def yy:N3->T:=fun(bn,ns,d,r)=>(.sh (aC bn ns d):T)
structure akl(X:Cx)(CL:BA):Prop extends bB X where
 aN:Ln X 0 "words"
 bS:Ln X 1 "row"
 bf:Gl X "len"
 cQ:Gl X "name_of"
 T7:Gl X "MARKS"
 sV:Gl X "term_of"
 bq:X.mg "len" = none
 dg:Fc X CL "name_of" 2 2 gU gV gX
 Fi:GT X "MARKS" ["<","<=","=","!="]
 Cb:Fc X CL "term_of" 3 2 qy qz qA
def akm(E:akl X CL) :
   lA X CL b N2 WW yx t9 yy:=by
 rintro⟨bn,ns,d,r⟩ h;dsimp only [t9,yx,yy]at h ⊢;obtain⟨hb,hns,hd⟩:=h;rcases hd with⟨w,k,rfl,hw,hk⟩|⟨w,s,t,rfl,hw,hs,ht⟩
 . have hn:=kh hns hk.1 hk.2;have hw2:w∈(["open","shut"]:AT):=by rcases hw with rfl|rfl<;>decide +kernel
   show gw X CL b _ [some (.sh (.lst ([w,ns.getD k.toNat Str.empty].map .str))),some (.sh (.int r))] {nx:=_,rt:=fun v__ _=>v__=.sh (.tup [.str w,.str (ns.getD k.toNat Str.empty)])};generalize ns.getD k.toNat Str.empty=n at hn;refine aS (jg (gy (cg (ak (bF (n:=2) rfl E.bq (aq E.aN) E.bf)) ai).1 fun _=>nj (ji (aI (aq E.aN) ai iK) (e7 rfl)).1)) (fun _=>?_) (fun z=>?_)
   . exact aH (aU (bE (aG (aI (aq E.aN) ai iK) rfl) (bE (c_ (n,r) E.dg E.cQ (ah (aI (aq E.aN) ai jX) (ah (aq E.bS) av)) hn rfl) cj)) aK) rfl
   . rw[aBH hw2]at z;exact absurd z Q.c
 . obtain⟨p,hp,p1,p2⟩:=MY hb hs;obtain⟨q,hq,q1,q2⟩:=MY hb ht;show gw X CL b _ [some (.sh (.lst ([dO bn s,w,dO bn t].map .str))),some (.sh (.int r))] {nx:=_,rt:=fun v__ _=>v__=.sh (.tup [.str w,tC bn s,tC bn t])};rw[← p1,← q1,← p2,← q2];refine aS (jg (gy (q:=false) (cg (ak (bF (n:=3) rfl E.bq (aq E.aN) E.bf)) ai).1 fun z=>absurd (aBv z) Q.c)) (fun z=>absurd z Q.b) (fun _=>aj ?_);refine aS (jg (gy (cg (ak (bF (n:=3) rfl E.bq (aq E.aN) E.bf)) ai).1 fun _=>nj (tE (aI (aq E.aN) ai jX) (ak (dP E.Fi E.T7)) rfl).1)) (fun _=>?_) (fun z=>?_)
   . exact aH (aU (bE (aG (aI (aq E.aN) ai jX) rfl) (bE (c_ (p,r) E.Cb E.sV (ah (aI (aq E.aN) ai iK) (ah (aq E.bS) av)) hp rfl) (bE (c_ (q,r) E.Cb E.sV (ah (aI (aq E.aN) ai oU) (ah (aq E.bS) av)) hq rfl) cj))) aK) rfl
   . rw[aBH hw]at z;exact absurd z Q.c
def pG:FG WW ["words","row"] ["len","name_of","MARKS","term_of"] (au N2):=fG
def asp(x:D)(l:Ap):cutD (x::l) (some 1) none=l:=by
 unfold cutD;have h1:HT.jF (x::l).length 0 (some 1)=1:=by
   unfold HT.jF;simp
 have h2:HT.jF (x::l).length (x::l).length none=(x::l).length:=rfl;rw[h1,h2];simp
def itS:D->AT
 | .lst ds=>ds.map D.toS
 | _=>[]
def aaq(p:AT):itS (lD p)=p:=by
 show(p.map D.str).map D.toS=p;rw[aBL];exact List.map_id' p
open Classical in
def Kn(W:D->AT)(C:D->D)(qs:Ap)(d:D):D:=if h:∃q,q∈qs/\(itS d).tail=W q then C (Classical.choose h) else .non
def aar{W:D->AT}{q:D}(hq:q∈qs):∃q',q'∈qs/\W q'=W q/\Kn W C qs (lD (f::W q))=C q':=by
 have h:∃q',q'∈qs/\(itS (lD (f::W q))).tail=W q':=⟨q,hq,by rw[aaq];rfl⟩;refine⟨Classical.choose h,(aDG h).1,?_,dif_pos h⟩;exact(aDG h).2.symm.trans (congrArg List.tail (aaq _))
def adJ{W:D->AT}(hi:∀q∈qs,∀q'∈qs,W q'=W q->C q'=C q)(f g:Str):((lk f g (qs.map W)).map lD).map (Kn W C qs)=qs.map C:=by
 have one:∀(f:Str) (q:D),q∈qs->Kn W C qs (lD (f::W q))=C q:=fun f q hq=>by
   obtain⟨q',h1,h2,h3⟩:=aar (C:=C) (f:=f) hq;rw[h3,hi q hq q' h1 h2]
 cases qs with
 | nil=>rfl
 | cons q r=>
   show Kn W C (q::r) (lD (f::W q))::(((r.map W).map (g::·)).map lD).map _=C q::r.map C;rw[one f q aBr,aBL,aBL,aBL];congr 1;exact aCp fun p hp=>one g p (aBt _ hp)
def apC{W:D->AT}{p:AT}(h:p∈lk f g (qs.map W)):∃x q,q∈qs/\p=x::W q:=by
 obtain⟨x,hx,e⟩:=Ae h;obtain⟨q,hq,rfl⟩:=aBI.mp hx;rcases e with e|e
 . exact⟨_,q,hq,e⟩
 . exact⟨_,q,hq,e⟩
def an2(hb:uF bn)(hn:uF ns)(h:WyN bn.length ns.length w):(w.tg=-1/\w.md="new" /\ ∃x l,(wP bn ns w).getD ((wP bn ns w).length-1) []=x::l/\x≠"to")\/((0<=w.tg/\w.tg<ns.length)/\w.md∈(["new","near","far"]:AT)/\(wP bn ns w).getD ((wP bn ns w).length-1) []=("to":Str)::ns.getD w.tg.toNat Str.empty::Ql w):=by
 rcases h.t with⟨h1,h2⟩|⟨h1,h2⟩
 . refine .inl ⟨h1,h2,?_⟩;have hp:=rM (l:=wP bn ns w) [] (Nat.succ_pos _);obtain⟨f,l,e,hf,_⟩:=aju hb hn h _ hp;refine⟨f,l,e,fun z=>?_⟩;subst z;rw[e]at hp;have et:YK ns w=[]:=aBE h1;unfold wP at hp;rw[et,aBW]at hp;rcases aBq.mp hp with z|hp
   . exact absurd (aBT z).1 Q.b
   rcases aBy.mp hp with hp|hp
   . obtain⟨x,_,z|z⟩:=Ae hp
     . exact absurd (aBT z).1 Q.b
     . exact absurd (aBT z).1 Q.b
   . obtain⟨x,_,z|z⟩:=Ae hp
     . exact absurd (aBT z).1 Q.b
     . exact absurd (aBT z).1 Q.b
 . refine .inr ⟨h1,h2,?_⟩;have et:YK ns w=[("to":Str)::ns.getD w.tg.toNat Str.empty::Ql w]:=aBx Q.a;have e:wP bn ns w=([("on":Str),w.sg]::(lk "if" "and" (w.qs.map (aW bn ns))++lk "do" "then" (w.ds.map (dW bn))))++[("to":Str)::ns.getD w.tg.toNat Str.empty::Ql w]:=by
     unfold wP;rw[et,aB3]
   rw[e,aBz,aBV,aCE,aBs,aCA (aBD _),aDl];rfl
abbrev Fj:=top 63
abbrev N4:=AT×AT×WY×Int
abbrev WX:AT:=["words","row","parts","last","part","asks","deeds","goal"]
def yz:N4->Ap:=fun(bn,ns,w,r)=>[.lst ((wP bn ns w).flatten.map .str),.int r]
def ua:N4->Prop:=fun(bn,ns,w,r)=>uF bn/\uF ns/\WyN bn.length ns.length w
def yC:N4->T:=fun(bn,ns,w,r)=>((RW.wy 0 w).ct bn ns:T)
structure akn(X:Cx)(CL:BA):Prop extends bB X where
 aN:Ln X 0 "words"
 bS:Ln X 1 "row"
 WN:X.env.kindOf "row" = some .cell
 bL:Ln X 2 "parts"
 nG:Ln X 3 "last"
 mJ:Ln X 4 "part"
 NK:Ln X 5 "asks"
 ve:Ln X 6 "deeds"
 aas:Ln X 7 "goal"
 DL:Gl X "parts_of"
 AX:Gl X "FOLLOWERS"
 bf:Gl X "len"
 HD:Gl X "goal_of"
 cQ:Gl X "name_of"
 aat:Fc X CL "parts_of" 1 1 su nV sy
 qD:L2.GE X "FOLLOWERS" [("on",["if","do","to"]),("if",["and","do","to"]),("and",["and","do","to"]),("do",["then","to"]),("then",["then","to"]),("to",[])]
 bq:X.mg "len" = none
 afN:Fc X CL "goal_of" 3 2 vf qF vg
 dg:Fc X CL "name_of" 2 2 gU gV gX
 ako:Fc X CL "ask_of" 4 2 yx t9 yy
 HF:Fc X CL "deed_of" 4 2 qB kB qC
def akp(E:akn X CL) :
   lA X CL b Fj WX yz ua yC:=by
 rintro⟨bn,ns,w,r⟩ h;dsimp only [ua,yz,yC]at h ⊢;obtain⟨hb,hn,hw⟩:=h;obtain⟨hl1,hl2⟩:=apk hb hn hw;have auV:=aju hb hn hw;have hfl:=V3 fun p hp=>(hl2 p hp).1;have hix:∀p∈wP bn ns w,∃x l,p=x::l:=fun p hp=>by
   obtain⟨f,l,e,_⟩:=auV p hp;exact⟨f,l,e⟩
 refine aD E.g E.bL (kM (d:=.lst ((wP bn ns w).map lD)) (c_ (wP bn ns w) E.aat E.DL (ah (aq E.aN) av) (by dsimp only [nV];exact⟨auV,We⟩) (afK _)) (an0 _)) ?_;refine aD E.g E.nG b9 ?_;refine j4 E.g E.mJ (fun j δ=>∃o5 o6 o7 o8,δ=[some (.sh (.lst ((wP bn ns w).flatten.map .str))),some (.sh (.int r)),some (.sh (.lst ((wP bn ns w).map lD))),some (.sh (.str (if j=0 then "" else Cr ((wP bn ns w).getD (j-1) [])))),o5,o6,o7,o8]) (cY (v_ E.bL.1)) ⟨_,_,_,_,rfl⟩ (fun j δ ⟨_,_,_,_,e⟩=>by subst e;exact aBu rfl) ?turn ?fin
 case turn=>
   rintro j d δ hj ⟨o5,o6,o7,o8,rfl⟩;obtain⟨p,rfl,hp,hpm,E3,_,_⟩:=vV hj;obtain⟨x,l,rfl⟩:=hix p hpm;have e1:Cr ((wP bn ns w).getD (j+1-1) [])=x:=by
     rw[aCE,aBs,hp];rfl
   have akq:∀o6 o7 o8,∃o5' o6' o7' o8',[some (T.sh (.lst ((wP bn ns w).flatten.map .str))),some (T.sh (.int r)),some (T.sh (.lst ((wP bn ns w).map lD))),some (T.sh (.str x)),some (T.sh (lD (x::l))),o6,o7,o8]=[some (T.sh (.lst ((wP bn ns w).flatten.map .str))),some (T.sh (.int r)),some (T.sh (.lst ((wP bn ns w).map lD))),some (T.sh (.str (if j+1=0 then "" else Cr ((wP bn ns w).getD (j+1-1) [])))),o5',o6',o7',o8']:=fun o6 o7 o8=>by
     rw[aBx (aCY j),e1];exact⟨_,_,_,_,rfl⟩
   cases j with
   | zero=>
     rw[aBE rfl];refine aS (jg (gy (q:=false) (vS (aq E.nG) az).1 fun z=>absurd z Q.b)) (fun z=>absurd z Q.b) (fun _=>aj ?_);exact aD E.g E.nG (aG (aI (ds:=(x::l).map .str) (aq E.mJ) ai iK) rfl) (aj (akq _ _ _))
   | succ k=>
     obtain⟨y,m,ey⟩:=hix ((wP bn ns w).getD k []) (by
       rw[aBs,aBC Q.a];exact aDf _)
     have ec:=ajv (asa bn ns w) k x (by
       have hp:(wP bn ns w)[k+1]? = some (x::l):=hp;unfold wP at hp;rw[List.getElem?_cons_succ]at hp;rw[aBR,hp];rfl)
     have eh:((("on":Str)::((lk "if" "and" (w.qs.map (aW bn ns))++lk "do" "then" (w.ds.map (dW bn))++YK ns w).map Cr)).getD k Str.empty)=y:=by
       show(((wP bn ns w).map Cr).getD k Str.empty)=y;rw[aBs,aBR,aBC Q.a];rw[aBs,aBC Q.a]at ey;show Cr (wP bn ns w)[k]=y;rw[show(wP bn ns w)[k]=y::m from ey];rfl
     rw[eh]at ec;have el:(if k+1=0 then("":Str) else Cr ((wP bn ns w).getD (k+1-1) []))=y:=by
       rw[aBx (aCY k),aCE,ey];rfl
     have hy:ZE.lookup y=some (M3 y):=by
       unfold M3 at ec ⊢;cases e:ZE.lookup y with
       | none=>rw[e]at ec;cases ec
       | some ts=>rfl
     rw[el];have hne:y≠"":=fun z=>by
       subst z;exact absurd hy Q.b
     refine aS (jg (gy (vS (aq E.nG) az).1 fun _=>nj (EC (aI (ds:=(x::l).map .str) (aq E.mJ) ai iK) (ak (arL (l:=ZE) E.qD E.AX (aq E.nG) hy)) rfl rfl).1)) (fun z=>?_) (fun _=>aj ?_)
     . rw[aBH ec,Bool.not_true,aCx]at z;cases z
     . exact aD E.g E.nG (aG (aI (ds:=(x::l).map .str) (aq E.mJ) ai iK) rfl) (aj (akq _ _ _))
 case fin=>
   rintro δ ⟨o5,o6,o7,o8,rfl⟩;generalize (if ((wP bn ns w).map lD).length=0 then("":Str) else Cr ((wP bn ns w).getD (((wP bn ns w).map lD).length-1) []))=la;have h0:Cu ((wP bn ns w).map lD) 0=some (lD ["on",w.sg]):=jf (j:=0) (by unfold wP;rfl);refine aS (lC (ak (bF (ds:=[.str "on",.str w.sg]) (n:=2) rfl E.bq (aI (aq E.bL) ai h0) E.bf)) ai).1 (fun z=>absurd z Q.c) (fun _=>aj ?_);refine tF (p:=fun d=>decide (Cr (itS d)∈(["if","and"]:AT))) (gg:=fun d=>.sh (Kn (aW bn ns) (aC bn ns) w.qs d)) E.g E.NK (bC (.cons E.bS.1 (.inl E.WN) .nil) Q.b) (cY (v_ E.bL.1)) (.inr rfl) (fun C s0 H0 f0 b' d hd=>?Nn) (aCj (bz (by rw[aBp];omega))) ?xm (by exact aBu rfl) (jt ⟨_,rfl⟩)
   case Nn=>
     obtain⟨p,hp,rfl⟩:=aBI.mp hd;obtain⟨x,l,rfl⟩:=hix p hp;refine⟨(ji (aI (ds:=(x::l).map .str) (eN 0) ai iK) (e7 rfl)).1,fun z=>?_⟩;have hf:(x::l)∈(wP bn ns w).filter (fun p=>decide (Cr p∈(["if","and"]:AT))):=aCF.mpr ⟨hp,z⟩;rw[apn]at hf;obtain⟨x',q,hq,e⟩:=apC hf;obtain⟨rfl,rfl⟩:=aBT e;obtain⟨q',h1,h2,h3⟩:=aar (W:=aW bn ns) (C:=aC bn ns) (f:=x) hq;show bU _ _ _ _ _ (T.sh (Kn (aW bn ns) (aC bn ns) w.qs (lD (x::aW bn ns q)))) _;rw[h3];exact c_ (bn,ns,q',r) (l0 E.ako) oZ (ah (d:=.lst ((aW bn ns q').map .str)) (bZ (aF (wW (ds:=(x::aW bn ns q).map .str) (eN 0) (j6 _) (nA ai) ny) (by rw[List.map_cons,asp,h2]))) (ah (mX 1) av)) (by dsimp only [t9];exact⟨hb,hn,hw.q q' h1⟩) (ajo bn ns (hw.q q' h1))
   case xm=>
   have fm:∀(z:AT),((wP bn ns w).map lD).filter (fun d=>decide (Cr (itS d)∈z))=((wP bn ns w).filter (fun p=>decide (Cr p∈z))).map lD:=fun z=>by
     rw[List.filter_map];refine congrArg _ (congrArg (fun f=>List.filter f _) (funext fun p=>?_));show decide (Cr (itS (lD p))∈z)=_;rw[aaq]
   have ea:T.lst ((((wP bn ns w).map lD).filter (fun d=>decide (Cr (itS d)∈(["if","and"]:AT)))).map (fun d=>T.sh (Kn (aW bn ns) (aC bn ns) w.qs d)))=.lst ((w.qs.map (aC bn ns)).map T.sh):=by
     rw[fm,apn,← adJ (fun q hq q' Ve e=>ar8 hb (hw.q q' Ve) (hw.q q hq) e) "if" "and",aBL (f:=Kn _ _ _)];rfl
   have ed:T.lst ((((wP bn ns w).map lD).filter (fun d=>decide (Cr (itS d)∈(["do","then"]:AT)))).map (fun d=>T.sh (Kn (dW bn) (dC bn) w.ds d)))=.lst ((w.ds.map (dC bn)).map T.sh):=by
     rw[fm,apo,← adJ (fun q hq q' Ve e=>ar7 hb (hw.d q' Ve) (hw.d q hq) e) "do" "then",aBL (f:=Kn _ _ _)];rfl
   rw[ea];show gw X CL b _ [some (.sh (.lst ((wP bn ns w).flatten.map .str))),some (.sh (.int r)),some (.sh (.lst ((wP bn ns w).map lD))),some (.sh (.str la)),o5,some (.lst ((w.qs.map (aC bn ns)).map T.sh)),o7,o8] _;refine tF (p:=fun d=>decide (Cr (itS d)∈(["do","then"]:AT))) (gg:=fun d=>.sh (Kn (dW bn) (dC bn) w.ds d)) E.g E.ve (bC (.cons E.bS.1 (.inl E.WN) .nil) Q.b) (cY (v_ E.bL.1)) (.inr rfl) (fun C s0 H0 f0 b' d hd=>?Np) (aCj (bz (by rw[aBp];omega))) ?Ao (by exact aBu rfl) (jt ⟨_,rfl⟩)
   case Np=>
     obtain⟨p,hp,rfl⟩:=aBI.mp hd;obtain⟨x,l,rfl⟩:=hix p hp;refine⟨(ji (aI (ds:=(x::l).map .str) (eN 0) ai iK) (e7 rfl)).1,fun z=>?_⟩;have hf:(x::l)∈(wP bn ns w).filter (fun p=>decide (Cr p∈(["do","then"]:AT))):=aCF.mpr ⟨hp,z⟩;rw[apo]at hf;obtain⟨x',q,hq,e⟩:=apC hf;obtain⟨rfl,rfl⟩:=aBT e;obtain⟨q',h1,h2,h3⟩:=aar (W:=dW bn) (C:=dC bn) (f:=x) hq;show bU _ _ _ _ _ (T.sh (Kn (dW bn) (dC bn) w.ds (lD (x::dW bn q)))) _;rw[h3];exact c_ (bn,q',r) (l0 E.HF) oZ (ah (d:=.lst ((dW bn q').map .str)) (bZ (aF (wW (ds:=(x::dW bn q).map .str) (eN 0) (j6 _) (nA ai) ny) (by rw[List.map_cons,asp,h2]))) (ah (mX 1) av)) (by dsimp only [kB];exact⟨hb,hw.d q' h1⟩) (Te bn (hw.d q' h1))
   case Ao=>
   rw[ed];show gw X CL b _ [some (.sh (.lst ((wP bn ns w).flatten.map .str))),some (.sh (.int r)),some (.sh (.lst ((wP bn ns w).map lD))),some (.sh (.str la)),o5,some (.lst ((w.qs.map (aC bn ns)).map T.sh)),some (.lst ((w.ds.map (dC bn)).map T.sh)),o8] _;refine aD E.g E.aas (c_ (ns,w,(wP bn ns w).getD ((wP bn ns w).length-1) [],r) E.afN E.HD (ah (aI (aq E.bL) (ak (cS ai)) (Ac (f:=lD) [] (Nat.succ_pos _))) (ah (aq E.bS) av)) (by dsimp only [qF];exact⟨hn,an2 hb hn hw⟩) rfl) ?_;exact aH (Zb (bE (c_ (w.sg,r) E.dg E.cQ (ah (aI (ds:=[.str "on",.str w.sg]) (aI (aq E.bL) ai h0) ai jX) (ah (aq E.bS) av)) hw.s rfl) (bE (vM E.NK.1) (bE (vM E.ve.1) (bE (aG (ay (ds:=[.str (tgC ns w),.str w.md]) (aq E.aas) ai iK) rfl) (bE (aG (ay (ds:=[.str (tgC ns w),.str w.md]) (aq E.aas) ai jX) rfl) cj))))) aK) rfl
def fc:chk (au Fj) ([("words",fF),("row",.cell),("parts",fF),("last",fF),("part",fF),("asks",fF),("deeds",fF),("goal",fF),("parts_of",c6),("FOLLOWERS",c6),("len",c6),("goal_of",c6),("name_of",c6)])=true:=Q.f
def afO:gF WX ["words","row"] (au Fj):=rL
abbrev yE:=top 55
abbrev yF:=AT×AT×RW×Int
abbrev Fl:AT:=["words","row","word"]
def nW:yF->Ap:=fun(bn,ns,q,r)=>[.lst ((q.ws bn ns).map .str),.int r]
def kC:yF->Prop:=fun(bn,ns,q,r)=>uF bn/\uF ns/\q.Ok bn ns
def nX:yF->T:=fun(bn,ns,q,r)=>(q.ct bn ns:T)
structure T8(X:Cx)(CL:BA):Prop extends bB X where
 aN:Ln X 0 "words"
 bS:Ln X 1 "row"
 aR:Ln X 2 "word"
 bf:Gl X "len"
 cQ:Gl X "name_of"
 AY:Gl X "number_of"
 HG:Gl X "deed_of"
 N5:Gl X "way_of"
 bq:X.mg "len" = none
 dg:Fc X CL "name_of" 2 2 gU gV gX
 WZ:Fc X CL "number_of" 3 2 pY pZ p6
 HF:Fc X CL "deed_of" 4 2 qB kB qC
 akr:Fc X CL "way_of" 5 2 yz ua yC
def T9(E:T8 X CL) :
   lA X CL b yE Fl nW kC nX:=by
 rintro⟨bn,ns,q,r⟩ h;dsimp only [kC,nW,nX]at h ⊢;obtain⟨hb,hn,hq⟩:=h;obtain⟨_,_,xx,ll,ew⟩:=G0 hb hn hq;have h0:Cu ((q.ws bn ns).map D.str) 0=some (.str q.word):=by
   rw[ew];exact jf (j:=0) rfl
 refine aD E.g E.aR (aG (aI (aq E.aN) ai h0) rfl) ?_;have nb:q.word≠"box"->(decide (q.word="box")&&false)=true->False:=fun h z=>by
   rw[aCx]at z;cases z
 cases q with
 | bx n k=>
   obtain⟨h1,h2⟩:=hq;show gw X CL b _ [some (.sh (.lst ([("box":Str),n,sI k].map .str))),some (.sh (.int r)),some (.sh (.str "box"))] _;refine aS (jg (gy (bI (aq E.aR) az).1 fun _=>nj (cg (ak (bF (n:=3) rfl E.bq (aq E.aN) E.bf)) ai).1)) (fun _=>?_) (fun z=>absurd z Q.b);exact aH (aU (ds:=[.str n,.int k]) (ao (c_ (n,r) E.dg E.cQ (ah (aI (aq E.aN) ai jX) (ah (aq E.bS) av)) h1 rfl) (ao (c_ (k,r) E.WZ E.AY (ah (aI (aq E.aN) ai oU) (ah (aq E.bS) av)) h2 rfl) aZ)) aK) rfl
 | md n k x st z=>
   obtain⟨_,hk,hx,hz⟩:=hq;have hkb:k≠"box":=fun e=>by
     rw[e]at hk;exact absurd hk Q.b
   refine aS (jg (gy (q:=false) (bI (aq E.aR) az).1 fun z=>absurd (aBv z) hkb)) (fun z=>(nb hkb z).elim) (fun _=>aj ?_);rcases hz with⟨rfl,hz,rfl⟩|⟨h1,rfl,rfl⟩
   . have hs:=kh hn hz.1 hz.2;have hw:(RW.md n "one" x (ns.getD z.toNat Str.empty) z).ws bn ns=[("one":Str),x,ns.getD z.toNat Str.empty]:=by
       show("one":Str)::x::(if ns.getD z.toNat Str.empty="" then [] else [ns.getD z.toNat Str.empty])=_;rw[aBx (V1 hs)]
     rw[hw];show gw X CL b _ [some (.sh (.lst ([("one":Str),x,ns.getD z.toNat Str.empty].map .str))),some (.sh (.int r)),some (.sh (.str "one"))] {nx:=_,rt:=fun v__ _=>v__=.sh (.tup [.str x,.str (ns.getD z.toNat Str.empty)])};generalize ns.getD z.toNat Str.empty=s at hs ⊢;refine aS (jg (gy (bI (aq E.aR) az).1 fun _=>nj (cg (ak (bF (n:=3) rfl E.bq (aq E.aN) E.bf)) ai).1)) (fun _=>?_) (fun z=>absurd z Q.b);exact aH (aU (ds:=[.str x,.str s]) (ao (c_ (x,r) E.dg E.cQ (ah (aI (aq E.aN) ai jX) (ah (aq E.bS) av)) hx rfl) (ao (c_ (s,r) E.dg E.cQ (ah (aI (aq E.aN) ai oU) (ah (aq E.bS) av)) hs rfl) aZ)) aK) rfl
   . have hw:(RW.md n k x "" (-1)).ws bn ns=[k,x]:=by
       show k::x::(if ("":Str)="" then [] else _)=_;rw[aBE rfl]
     have hk2:k∈(["leaf","all"]:AT):=by
       simp only[fM,aBq,aBJ,aCg]at hk ⊢;rcases hk with e|e|e
       . exact .inl e
       . exact absurd e h1
       . exact .inr e
     rw[hw];refine aS (jg (gy (q:=false) (bI (aq E.aR) az).1 fun z=>absurd (aBv z) h1)) (fun z=>by rw[aCx]at z;cases z) (fun _=>aj ?_);refine aS (jg (gy (ji (aq E.aR) (e7 rfl)).1 fun _=>nj (cg (ak (bF (n:=2) rfl E.bq (aq E.aN) E.bf)) ai).1)) (fun _=>?_) (fun z=>?_)
     . exact aH (aU (ds:=[.str x,.str ""]) (ao (c_ (x,r) E.dg E.cQ (ah (aI (aq E.aN) ai jX) (ah (aq E.bS) av)) hx rfl) (ao b9 aZ)) aK) rfl
     . have:decide (k∈(["leaf","all"]:AT))=true:=aBH hk2;have z:(decide (k∈(["leaf","all"]:AT))&&decide ((2:Int)=2))=false:=z;rw[this]at z;exact absurd z Q.c
 | io n w d=>
   obtain⟨_,hw,hd⟩:=hq;have hw1:w≠"box" /\ w≠"one" /\ w∉(["leaf","all"]:AT):=by
     simp only[aBq,aBJ,aCg]at hw;rcases hw with rfl|rfl<;>decide +kernel
   refine aS (jg (gy (q:=false) (bI (aq E.aR) az).1 fun z=>absurd (aBv z) hw1.1)) (fun z=>by rw[aCx]at z;cases z) (fun _=>aj ?_);refine aS (jg (gy (q:=false) (bI (aq E.aR) az).1 fun z=>absurd (aBv z) hw1.2.1)) (fun z=>by rw[aCx]at z;cases z) (fun _=>aj ?_);refine aS (jg (gy (q:=false) (ji (aq E.aR) (e7 rfl)).1 fun z=>absurd (aBv z) hw1.2.2)) (fun z=>by rw[aCx]at z;cases z) (fun _=>aj ?_);refine aS (ji (aq E.aR) (e7 rfl)).1 (fun _=>?_) (fun z=>absurd hw (aBG z));exact aH (aF (c_ (bn,d,r) E.HF E.HG (ah (d:=.lst ((dW bn d).map .str)) (bZ (aF (wW (ds:=(w::dW bn d).map .str) (aq E.aN) (j6 _) (nA ai) ny) (by rw[List.map_cons,asp]))) (ah (aq E.bS) av)) (by dsimp only [kB];exact⟨hb,hd⟩) (Te bn hd)) (t2:=.sh (dC bn d)) rfl) rfl
 | wy n w=>
   show gw X CL b _ [some (.sh (.lst ((wP bn ns w).flatten.map .str))),some (.sh (.int r)),some (.sh (.str "on"))] _;refine aS (jg (gy (q:=false) (bI (aq E.aR) az).1 fun z=>absurd (aBv z) Q.b)) (fun z=>by rw[aCx]at z;cases z) (fun _=>aj ?_);refine aS (jg (gy (q:=false) (bI (aq E.aR) az).1 fun z=>absurd (aBv z) Q.b)) (fun z=>by rw[aCx]at z;cases z) (fun _=>aj ?_);refine aS (jg (gy (q:=false) (ji (aq E.aR) (e7 rfl)).1 fun z=>absurd (aBv z) Q.b)) (fun z=>by rw[aCx]at z;cases z) (fun _=>aj ?_);refine aS (ji (aq E.aR) (e7 rfl)).1 (fun z=>absurd (aBv z) Q.b) (fun _=>aj ?_);refine aS (bI (aq E.aR) az).1 (fun _=>?_) (fun z=>absurd (aBG z) Q.b);exact aH (c_ (bn,ns,w,r) E.akr E.N5 (ah (aq E.aN) (ah (aq E.bS) av)) (by dsimp only [ua];exact⟨hb,hn,hq.2⟩) (MZ hb hn hq)) rfl
def eF:FG Fl ["words","row"] ["len","name_of","number_of","deed_of","way_of"] (au yE):=fG
abbrev HJ:=top 54
abbrev HK:=AT×AT×RW×Int
abbrev Ro:AT:=["line","row","rest","words"]
def vh:HK->Ap:=fun(bn,ns,q,r)=>[.str (q.line bn ns),.int r]
def qG:HK->Prop:=fun(bn,ns,q,r)=>uF bn/\uF ns/\q.Ok bn ns
def vm:HK->T:=fun(bn,ns,q,r)=>(q.fm bn ns r:T)
structure afP(X:Cx)(CL:BA):Prop extends bB X where
 mK:Ln X 0 "line"
 bS:Ln X 1 "row"
 yc:Ln X 2 "rest"
 aN:Ln X 3 "words"
 bf:Gl X "len"
 yG:Gl X "content_of"
 bq:X.mg "len" = none
 Ua:Fc X CL "content_of" 6 2 nW kC nX
def afQ(E:afP X CL) :
   lA X CL b HJ Ro vh qG vm:=by
 rintro⟨bn,ns,q,r⟩ h;dsimp only [qG,vh,vm]at h ⊢;obtain⟨hb,hn,hq⟩:=h;obtain⟨h1,h2,h3⟩:=ar0 hb hn hq;obtain⟨_,h4,xx,ll,ew⟩:=G0 hb hn hq;have h0:Cu ((q.ws bn ns).map D.str) 0=some (.str q.word):=by
   rw[ew];exact jf (j:=0) rfl
 obtain⟨k1,k2⟩:=afh hb hn hq;refine aD E.g E.yc (ae5 (aq E.mK) az (sz Q.a) (afi hb hn hq)) ?_;refine aD E.g E.aN (VF (aq E.yc) az k1 (sz Q.a) k2 (sz Q.a)) ?_;have eb:((q.line bn ns).length:Int)-((q.rest bn ns).length:Int)=(q.bl:Nat):=by omega
 exact aH (Zb (bE (v_ E.bS.1) (bE (aF (tu (ak (Lp E.bq (aq E.mK) (sz Q.a) E.bf)) (ak (Lp E.bq (aq E.yc) (sz Q.a) E.bf))) (t2:=.sh (.int (q.bl:Nat))) (congrArg (fun z=>T.sh (.int z)) eb)) (bE (aG (aI (vL E.aN.1) ai h0) rfl) (bE (c_ (bn,ns,q,r) E.Ua E.yG (ah (vL E.aN.1) (ah (aq E.bS) av)) (by dsimp only [kC];exact⟨hb,hn,hq⟩) (MZ hb hn hq)) cj)))) aK) rfl
def mL:FG Ro ["line","row"] ["len","content_of"] (au HJ):=fG
abbrev AZ:=top 79
abbrev A0:=AT×AT×RW×Int×Str×Int
abbrev Jy:AT:=["form","last_word","mood_blanks","word","blanks"]
def p7:A0->Ap:=fun(bn,ns,q,r,pw,mb)=>[(q.fm bn ns r).fj,.str pw,.int mb]
def p8:A0->Prop:=fun(bn,ns,q,r,pw,mb)=>stP pw mb q
def p9:A0->T:=fun(bn,ns,q,r,pw,mb)=>(.sh (.bl true):T)
structure W0(X:Cx)(CL:BA):Prop extends bB X where
 dX:Ln X 0 "form"
 kD:Ln X 1 "last_word"
 cM:Ln X 2 "mood_blanks"
 aR:Ln X 3 "word"
 lP:Ln X 4 "blanks"
 t6:Gl X "WORD"
 qv:Gl X "BLANKS"
 gT:Gl X "KINDS"
 LQ:Gl X "RANKS"
 jK:∃u,X.mg "WORD" = some (.int 2 u)
 lR:∃u,X.mg "BLANKS" = some (.int 1 u)
 dG:GT X "KINDS" ["leaf","one","all"]
 Cd:L2.GD X "RANKS" (fun k=>([("leaf",0),("one",0),("all",0),("in",1),("out",2),("on",3)]:Cf).lookup k)
def W3(E:W0 X CL) :
   lA X CL b AZ Jy p7 p8 p9:=by
 rintro⟨bn,ns,q,r,pw,mb⟩ h;dsimp only [p8,p7,p9]at h ⊢;rw[G3];refine aD E.g E.aR (aG (ay (aq E.dX) (ak (aP E.jK E.t6)) oU) rfl) ?_;refine aD E.g E.lP (aG (ay (aq E.dX) (ak (aP E.lR E.qv)) jX) rfl) ?_;cases q with
 | bx n k=>
   have h:mb=-1:=h;subst h;refine aS (bI (aq E.aR) az).1 (fun _=>?_) (fun z=>absurd (show("box":Str)="box" from rfl) (aBG z));exact aH (aF (lE (cg (aq E.lP) ai).2 (fun _=>mD (cg (aq E.cM) (ak (cS ai))).2)) (t2:=.sh (.bl true)) rfl) rfl
 | md n k x st z=>
   obtain⟨hk,hz⟩:=h;have hkb:k≠"box":=fun e=>by
     rw[e]at hk;exact absurd hk Q.b
   refine aS (bI (aq E.aR) az).1 (fun z=>absurd (aBv z) hkb) (fun _=>aj ?_);rcases hz with⟨rfl,rfl⟩|⟨h1,h2,h3⟩
   . refine aS (cg (aq E.cM) (ak (cS ai))).1 (fun _=>?_) (fun z=>absurd (aBG z) Q.c);exact aH (aF (lE (cg (aq E.lP) ai).2 (fun _=>mD (tE (aq E.aR) (ak (dP E.dG E.gT)) rfl).2)) (t2:=.sh (.bl true)) (congrArg (fun z=>T.sh (.bl z)) (by
       show(decide ((((0:Nat)):Int)=0)&&decide (k∈fM))=true;rw[aBH hk];rfl))) rfl
   . refine aS (cg (aq E.cM) (ak (cS ai))).1 (fun z=>absurd (aBv z) h1) (fun _=>aj ?_);refine aS (tE (aq E.aR) (ak (dP E.dG E.gT)) rfl).1 (fun _=>?_) (fun z=>absurd hk (aBG z));exact aH (aF (aik acu acu ai (aq E.lP) (ak (mC (aq E.cM) ai)) (by with_unfolding_all rfl)).2 (t2:=.sh (.bl true)) (congrArg (fun z=>T.sh (.bl z)) (by
       show(decide ((1:Int)<=(n:Nat))&&decide (((n:Nat):Int)<=mb+1))=true;rw[aBH h3,aBH Q.a];rfl))) rfl
 | io n w d=>
   obtain⟨hw,h1,h2,a,c,ha,hc,hac⟩:=h;have hw1:w≠"box" /\ w∉fM:=by
     simp only[aBq,aBJ,aCg]at hw;rcases hw with rfl|rfl<;>decide +kernel
   refine aS (bI (aq E.aR) az).1 (fun z=>absurd (aBv z) hw1.1) (fun _=>aj ?_);refine aS (cg (aq E.cM) (ak (cS ai))).1 (fun z=>absurd (aBv z) h1) (fun _=>aj ?_);refine aS (tE (aq E.aR) (ak (dP E.dG E.gT)) rfl).1 (fun z=>absurd (aBv z) hw1.2) (fun _=>aj ?_);exact aH (aF (lE (cg (aq E.lP) (ak (mC (aq E.cM) ai))).2 (fun _=>mD (aoV (i:=a) (j:=c) (ak (acX E.Cd E.LQ (aq E.kD) ha)) (ak (acX E.Cd E.LQ (aq E.aR) hc))).2)) (t2:=.sh (.bl true)) (congrArg (fun z=>T.sh (.bl z)) (by
     show(decide (((n+1:Nat):Int)=mb+1)&&decide (a<=c))=true;rw[aBH hac,aBH Q.a];rfl))) rfl
 | wy n w=>
   obtain⟨h1,h2,a,ha,hac⟩:=h;refine aS (bI (aq E.aR) az).1 (fun z=>absurd (show("on":Str)="box" from aBv z) Q.b) (fun _=>aj ?_);refine aS (cg (aq E.cM) (ak (cS ai))).1 (fun z=>absurd (aBv z) h1) (fun _=>aj ?_);refine aS (tE (aq E.aR) (ak (dP E.dG E.gT)) rfl).1 (fun z=>absurd (show("on":Str)∈fM from aBv z) Q.b) (fun _=>aj ?_);exact aH (aF (lE (cg (aq E.lP) (ak (mC (aq E.cM) ai))).2 (fun _=>mD (aoV (i:=a) (j:=3) (ak (acX E.Cd E.LQ (aq E.kD) ha)) (ak (acX E.Cd E.LQ (aq E.aR) (show zc.lookup ("on":Str)=some 3 by decide +kernel)))).2)) (t2:=.sh (.bl true)) (congrArg (fun z=>T.sh (.bl z)) (by
     show(decide (((n+1:Nat):Int)=mb+1)&&decide (a<=3))=true;rw[aBH hac,aBH Q.a];rfl))) rfl
def eG:FG Jy ["form","last_word","mood_blanks"] ["WORD","BLANKS","KINDS","RANKS"] (au AZ):=fG
abbrev N6:=top 78
abbrev N7:=CH
abbrev W4:AT:=["text","forms","last_word","mood_blanks","place","line","form"]
def yH:N7->Ap:=fun c=>[.str c.text]
def yI:N7->Prop:=fun c=>xh c
def yJ:N7->T:=fun c=>(.lst c.V7:T)
structure aks(X:Cx)(CL:BA):Prop extends bB X where
 b6:Ln X 0 "text"
 fN:Ln X 1 "forms"
 kD:Ln X 2 "last_word"
 cM:Ln X 3 "mood_blanks"
 Fe:Ln X 4 "place"
 mK:Ln X 5 "line"
 dX:Ln X 6 "form"
 eU:Gl X "enumerate"
 HL:Gl X "form_of"
 A1:Gl X "may_stand"
 apz:Gl X "ROW"
 t6:Gl X "WORD"
 gT:Gl X "KINDS"
 qv:Gl X "BLANKS"
 eV:X.mg "enumerate" = none
 afR:Fc X CL "form_of" 7 2 vh qG vm
 W5:Fc X CL "may_stand" 1 3 p7 p8 p9
 apA:∃u,X.mg "ROW" = some (.int 0 u)
 jK:∃u,X.mg "WORD" = some (.int 2 u)
 dG:GT X "KINDS" ["leaf","one","all"]
 lR:∃u,X.mg "BLANKS" = some (.int 1 u)
def akt(E:aks X CL) :
   lA X CL b N6 W4 yH yI yJ:=by
 intro c h;dsimp only [yI,yH,yJ]at h ⊢;have h:xh c:=h;have dI:=rN h;have YM:=V9 h;have hsp:=V4 h.b.n h.n.n dI (anF h.ok);have hrl:=h.rl;refine aD E.g E.fN (dM cj (aB0 _)) ?_;refine aD E.g E.kD b9 ?_;refine aD E.g E.cM (cS ai) ?_;refine Dd E.g (uK E.g.nd E.g.calm E.Fe E.mK) (fun j δ=>∃o5 o6 o7,δ=[some (.sh (.str c.text)),some (.lst (c.V7.take j)),some (.sh (.str (if j=0 then "" else(c.rows.getD (j-1) (.bx "" 0)).word))),some (.sh (.int ((c.rows.take j).foldl mbS (-1)))),o5,o6,o7])
   (wY (f:=fun r:RW=>D.str (r.line c.bn c.ns)) (l:=c.rows) (.bx "" 0) E.eV (kM (ae7 (aq E.b6) az Q.b h.tl hsp (by rw[aBp,aB8];omega)) (by rw[di,aBL];rfl)) E.eU) ⟨_,_,_,rfl⟩
   (fun j δ ⟨_,_,_,e⟩=>by subst e;intro i hi;simp only[aBq,aBJ,aCg]at hi;rcases hi with rfl|rfl<;>exact aBu rfl) ?turn ?fin
 case turn=>
   rintro j d δ hj ⟨o5,o6,o7,rfl⟩;obtain⟨i,rfl,hi,Jo,_,_,_⟩:=vV hj;have YL:i<c.rows.length:=by
     have:=aB5.mp Jo;exact this
   have ei:i=j:=by
     rw[aB9 (by have:=(aB4.mp hi).1;rwa [aBO]at this)]at hi;exact(aBX hi).symm
   subst ei;have hq:c.rows[i]? = some (c.rows.getD i (.bx "" 0)):=by
     rw[aBs,aBC YL];rfl
   have hqm:=aBQ hq;have hp:=ZH YM i _ hq;have hfs:c.V7.take i++[(c.rows.getD i (.bx "" 0)).fm c.bn c.ns ((i:Nat)+1:Int)]=c.V7.take (i+1):=by
     have hx:c.V7[i]? = some ((c.rows.getD i (.bx "" 0)).fm c.bn c.ns ((i:Nat)+1:Int)):=by
       unfold CH.V7;rw[aBR,aB9 YL];rfl
     rw[aCH,hx];rfl
   have hmb:(c.rows.take (i+1)).foldl mbS (-1)=mbS ((c.rows.take i).foldl mbS (-1)) (c.rows.getD i (.bx "" 0)):=by
     rw[aCH,hq,aCt];rfl
   have hfl:(c.V7.take i).length<=1000000:=by
     rw[aCe,CH.V7,aBp,aBO];omega
   have hpw:(if i+1=0 then("":Str) else(c.rows.getD (i+1-1) (.bx "" 0)).word)=(c.rows.getD i (.bx "" 0)).word:=by
     rw[aBx (aCY i),aCE]
   refine⟨_,rfl,?_⟩;have aku:=dI _ hqm;show gw X CL b _ [some (.sh (.str c.text)),some (.lst (c.V7.take i)),some (.sh (.str (if i=0 then "" else(c.rows.getD (i-1) (.bx "" 0)).word))),some (.sh (.int ((c.rows.take i).foldl mbS (-1)))),some (.sh (.int i)),some (.sh (.str ((c.rows.getD i (.bx "" 0)).line c.bn c.ns))),o7] _;dsimp only;rw[← hfs,hmb,hpw];generalize c.rows.getD i (.bx "" 0)=q at aku hp ⊢;generalize (if i=0 then("":Str) else(c.rows.getD (i-1) (.bx "" 0)).word)=pw at hp ⊢;generalize (c.rows.take i).foldl mbS (-1)=mb at hp ⊢;generalize c.V7.take i=fs at hfl ⊢;refine aD E.g E.dX (c_ (c.bn,c.ns,q,((i:Nat)+1:Int)) E.afR E.HL (ah (aq E.mK) (ah (ak (mC (aq E.Fe) ai)) av)) (by dsimp only [qG];exact⟨h.b.n,h.n.n,aku⟩) (V5 h.b.n h.n.n aku)) ?_;refine aS (iC (f6 (aF (c_ (c.bn,c.ns,q,((i:Nat)+1:Int),pw,mb) E.W5 E.A1 (ah (vB E.dX.1) (ah (aq E.kD) (ah (aq E.cM) av))) hp rfl) (t2:=.sh (.bl true)) rfl))) (fun z=>absurd z Q.c) (fun _=>aj ?_);refine aD E.g E.kD (aG (ay (vE E.dX.1 rfl (G3 _ _ _ _)) (ak (aP E.jK E.t6)) oU) rfl) ?_;refine aS (tE (aq E.kD) (ak (dP E.dG E.gT)) rfl).1 (fun z=>?_) (fun z=>aj ?_)
   . have hm:mbS mb q=(q.bl:Int):=by
       cases q with
       | bx n k=>exact absurd (show("box":Str)∈fM from aBv z) Q.b
       | md n k x st y=>rfl
       | io n w d=>
         have z:w∈fM:=aBv z;have hw:=aku.2.1;simp only[aBq,aBJ,aCg]at hw;rcases hw with rfl|rfl<;>exact absurd z Q.b
       | wy n w=>exact absurd (show("on":Str)∈fM from aBv z) Q.b
     rw[hm];refine aD E.g E.cM (aG (ay (vE E.dX.1 rfl (G3 _ _ _ _)) (ak (aP E.lR E.qv)) jX) rfl) (aj ?_);exact lz E.fN.1 rfl (vM E.dX.1) rfl hfl (aj ⟨_,_,_,rfl⟩)
   . have hm:mbS mb q=mb:=by
       cases q with
       | md n k x st y=>exact absurd aku.2.1 (aBG z)
       | bx n k=>rfl
       | io n w d=>rfl
       | wy n w=>rfl
     rw[hm];exact lz E.fN.1 rfl (vM E.dX.1) rfl hfl (aj ⟨_,_,_,rfl⟩)
 case fin=>
   rintro δ ⟨o5,o6,o7,rfl⟩;have e:c.V7.take ((List.range c.rows.length).map fun(i:Nat)=>D.tup [.int i,(fun r:RW=>D.str (r.line c.bn c.ns)) (c.rows.getD i (.bx "" 0))]).length=c.V7:=by
     rw[aBp,aBO];refine List.take_of_length_le ?_;rw[CH.V7,aBp,aBO];exact aBD _
   rw[e];exact aH (vM E.fN.1) rfl
def dY:FG W4 ["text"] ["enumerate","form_of","may_stand","ROW","WORD","KINDS","BLANKS"] (au N6):=fG
def rdL(es:BB)(j:Nat):BB:=if j=0 then [] else(((j-1:Nat):Int)::eY es ((j-1:Nat):Int)).reverse
theorem asq(h:uO es)(hj:j<es.length):(rdL es j).take (eY es (j:Int)).length=(eY es (j:Int)).reverse/\((eY es (j:Int)).reverse.getLast? = if es.getD j 0=-1 then none else some (es.getD j 0)):=by
 have e:=MB h.1 (m:=(j:Int)) Q.a Q.a;rw[aCl]at e;cases j with
 | zero=>
   obtain⟨e0,e1⟩:=ch0 h.1 hj;rw[e1,aBE e0];exact⟨rfl,rfl⟩
 | succ k=>
   have hp:=h.2 k hj;generalize es.getD (k+1) 0=x at hp e ⊢;have hx:0<=x:=by
     rcases hp with z|z
     . omega
     . exact(Ls h.1 Q.a Q.a z).1
   rw[e,aBx Q.a,aBx Q.a];refine⟨?_,?_⟩
   . unfold rdL;rw[aBx (aCY k),aCE];rcases hp with z|z
     . subst z;rw[← List.length_reverse,aCv]
     . obtain⟨pre,ep,_⟩:=BL h.1 (k+1) (m:=(k:Int)) Q.a Q.a Q.a z;have e2:(k:Int)::eY es (k:Int)=((k:Int)::pre)++(x::eY es x):=by rw[ep];rfl
       rw[e2,List.reverse_append,← List.length_reverse,List.take_left]
   . rw[aC2,List.getLast?_concat]
def akv(xs:List α)(k:Nat):cutD xs none (some (k:Int))=xs.take k:=by
 unfold cutD;rw[HT.acB,HT.ahn,List.drop_zero,Nat.sub_zero];by_cases h:k<=xs.length
 . rw[Nat.min_eq_left h]
 . rw[Nat.min_eq_right Q.a,aCv,List.take_of_length_le Q.a]
def an3:(eY es (j:Int)).reverse++[(j:Int)]=rdL es (j+1):=by
 unfold rdL;rw[aBx (aCY j),aCE,aC2]
abbrev A2:=top 80
abbrev A3:=BB
abbrev Jz:AT:=["depths","elders","line","mood","deep"]
def qa:A3->Ap:=fun es=>[.lst ((G4 es).map .int)]
def lW:A3->Prop:=fun es=>uO es/\es.length<=41
def qb:A3->T:=fun es=>(.lst ((es.map .int).map T.sh):T)
structure W6(X:Cx)(CL:BA):Prop extends bB X where
 akw:Ln X 0 "depths"
 bR:Ln X 1 "elders"
 mK:Ln X 2 "line"
 bM:Ln X 3 "mood"
 akx:Ln X 4 "deep"
 eU:Gl X "enumerate"
 eV:X.mg "enumerate" = none
def W7(E:W6 X CL) :
   lA X CL b A2 Jz qa lW qb:=by
 intro es h;dsimp only [lW,qa,qb]at h ⊢;obtain⟨h,hl⟩:=h;refine aD E.g E.bR (dM cj (aB0 _)) ?_;refine aD E.g E.mK (dM cj (aB0 _)) ?_;have hdl:G4 es=(List.range es.length).map fun(m:Nat)=>((eY es m).length:Int):=rfl;refine Dd E.g (uK E.g.nd E.g.calm E.bM E.akx) (fun j δ=>∃o4 o5,δ=[some (.sh (.lst ((G4 es).map .int))),some (.lst (((es.take j).map .int).map T.sh)),some (.lst (((rdL es j).map .int).map T.sh)),o4,o5])
   (wY (f:=D.int) (l:=G4 es) 0 E.eV (v_ E.akw.1) E.eU) ⟨_,_,rfl⟩
   (fun j δ ⟨_,_,e⟩=>by subst e;intro i hi;simp only[aBq,aBJ,aCg]at hi;rcases hi with rfl|rfl<;>exact aBu rfl) ?turn ?fin
 case turn=>
   rintro j d δ hj ⟨o4,o5,rfl⟩;obtain⟨i,rfl,hi,Jo,_,_,_⟩:=vV hj;have YL:i<(G4 es).length:=by
     have:=aB5.mp Jo;exact this
   have ei:i=j:=by
     rw[aB9 (by have:=(aB4.mp hi).1;rwa [aBO]at this)]at hi;exact(aBX hi).symm
   subst ei;have hie:i<es.length:=by rwa [hdl,aBp,aBO]at YL
   have eg:(G4 es).getD i 0=((eY es (i:Int)).length:Int):=by
     rw[hdl,aBs,aBR,aB9 hie];rfl
   obtain⟨r1,r2⟩:=asq h hie;refine⟨_,rfl,?_⟩;rw[eg];have axV:cutD ((rdL es i).map D.int) none (some ((eY es (i:Int)).length:Int))=((eY es (i:Int)).reverse).map .int:=by
     rw[akv,← List.map_take,r1]
   have hrl:((eY es (i:Int)).reverse).length<=es.length+1:=by
     rw[List.length_reverse];exact BO _ _ _
   refine aD E.g E.mK (aF (wW (ds:=(rdL es i).map .int) (vL E.mK.1) (j5 _) ny (nA (aq E.akx))) (t2:=.lst ((((eY es (i:Int)).reverse).map .int).map T.sh)) (by rw[axV])) ?_;have hsz:((((eY es (i:Int)).reverse).map D.int).map T.sh).length<=1000000:=by
     rw[aBp,aBp];omega
   have zF:(((es.take i).map D.int).map T.sh).length<=1000000:=by
     rw[aBp,aBp,aCe];omega
   have htk:((es.take i).map D.int).map T.sh++[T.sh (.int (es.getD i 0))]=((es.take (i+1)).map D.int).map T.sh:=by
     rw[aCH,aBC hie,aBs,aBC hie,aBF,aBF];rfl
   have hln:(((eY es (i:Int)).reverse).map D.int).map T.sh++[T.sh (.int (i:Int))]=((rdL es (i+1)).map D.int).map T.sh:=by
     rw[← an3,aBF,aBF];rfl
   generalize (eY es (i:Int)).reverse=ln at r2 hsz hln ⊢;generalize ((eY es (i:Int)).length:Int)=dp;show gw X CL b _ [some (.sh (.lst ((G4 es).map .int))),some (.lst (((es.take i).map .int).map T.sh)),some (.lst ((ln.map .int).map T.sh)),some (.sh (.int i)),some (.sh (.int dp))] _;refine lz (δ1:=[some (.sh (.lst ((G4 es).map .int))),some (.lst (((es.take i).map .int).map T.sh)),some (.lst ((ln.map .int).map T.sh)),some (.sh (.int i)),some (.sh (.int dp))]) E.bR.1 rfl (vU (t:=.sh (.int (es.getD i 0))) (aih (ds:=ln.map .int) (vL E.mK.1)) (fun q=>?el1) (fun q=>?el2)) rfl zF ?rest
   case el1=>
     have h0:0<ln.length:=by
       cases ln with
       | nil=>cases q
       | cons a l=>exact Nat.succ_pos _
     have e1:ln.getD (ln.length-1) 0=es.getD i 0:=by
       rw[List.getLast?_eq_getElem?,aBC Q.a]at r2;rw[aBs,aBC Q.a];split at r2
       . cases r2
       . exact aBX r2
     exact aF (aG (aI (vL E.mK.1) (ak (cS ai)) (Ac (f:=D.int) 0 h0)) rfl) (congrArg (fun z=>T.sh (.int z)) e1)
   case el2=>
     have e0:ln=[]:=by
       cases ln with
       | nil=>rfl
       | cons a l=>cases q
     subst e0;have e1:es.getD i 0=-1:=by
       by_cases z:es.getD i 0=-1
       . exact z
       . rw[aBx z]at r2;cases r2
     exact aF (cS ai) (by rw[e1])
   case rest=>
   refine lz E.mK.1 rfl (v_ E.bM.1) rfl hsz (aj ?_);rw[htk,hln];exact⟨_,_,rfl⟩
 case fin=>
   rintro δ ⟨o4,o5,rfl⟩;have e:es.take ((List.range (G4 es).length).map fun(i:Nat)=>D.tup [.int i,D.int ((G4 es).getD i 0)]).length=es:=by
     rw[aBp,aBO,hdl,aBp,aBO,aCv]
   rw[e];exact aH (vM E.bR.1) rfl
def jm:FG Jz ["depths"] ["enumerate"] (au A2):=fG
abbrev DM:=top 81
abbrev DN:=CH×Bool
abbrev N8:AT:=["forms","word","found","form"]
def sA:DN->Ap:=fun(c,b)=>[.lst c.M4,.str (if b then "in" else "out")]
def sC:DN->Prop:=fun(c,b)=>xh c
def sE:DN->T:=fun(c,b)=>(.lst (((c.dl b).map D.tup).map T.sh):T)
structure aau(X:Cx)(CL:BA):Prop extends bB X where
 fN:Ln X 0 "forms"
 aR:Ln X 1 "word"
 aX:Ln X 2 "found"
 dX:Ln X 3 "form"
 t6:Gl X "WORD"
 gT:Gl X "KINDS"
 xC:Gl X "CONTENT"
 jK:∃u,X.mg "WORD" = some (.int 2 u)
 dG:GT X "KINDS" ["leaf","one","all"]
 gA:∃u,X.mg "CONTENT" = some (.int 3 u)
 kW:X.mg "tuple" = none
def aav(E:aau X CL) :
   lA X CL b DM N8 sA sC sE:=by
 rintro⟨c,b⟩ h;dsimp only [sC,sA,sE]at h ⊢;have h:xh c:=h;have dI:=rN h;have YM:=V9 h;have hrl:=h.rl;have hwb:∀k∈fM,k≠(if b then("in":Str) else "out"):=by
   cases b<;>decide +kernel
 generalize ew:(if b then("in":Str) else "out")=w at hwb ⊢;have hw3:w="in" \/ w="out":=by
   cases b with
   | true=>exact .inl ew.symm
   | false=>exact .inr ew.symm
 have hwx:w≠"box" /\ w≠"on":=by
   rcases hw3 with e|e<;>rw[e]<;>decide +kernel
 have akq:c.rows.foldl (gD w) []=c.dl b:=ew▸anG h.ok b;refine aD E.g E.aX (dM cj (aB0 _)) ?_;refine j4 E.g E.dX (fun j δ=>∃o,δ=[some (.sh (.lst c.M4)),some (.sh (.str w)),some (.lst (((c.rows.take j).foldl (gD w) []).map tT)),o]) (cY (v_ E.fN.1)) ⟨_,rfl⟩ (fun j δ ⟨_,e⟩=>by subst e;exact aBu rfl) ?turn ?fin
 case turn=>
   rintro j d δ hj ⟨o,rfl⟩;have E3:j<c.rows.length:=by
     have:=(aB4.mp hj).1
     rwa [CH.M4,aBp,aBO]at this
   have hq:c.rows[j]? = some (c.rows.getD j (.bx "" 0)):=by
     rw[aBs,aBC E3];rfl
   have ed:d=(c.rows.getD j (.bx "" 0)).nf ((j:Nat)+1:Int):=by
     unfold CH.M4 at hj;rw[aBR,aB9 E3]at hj;exact(aBX hj).symm
   subst ed;have hqo:=dI _ (aBQ hq);have hp:=ZH YM j _ hq;have hn:(c.rows.take (j+1)).foldl (gD w) []=gD w ((c.rows.take j).foldl (gD w) []) (c.rows.getD j (.bx "" 0)):=by
     rw[aCH,hq,aCt];rfl
   have hl1:=ZJ (w:=w) (c.rows.take j) [];rw[aCe]at hl1;have hlen:((c.rows.take j).foldl (gD w) []).length<=1000000:=by
     have:([]:Ch).length=0:=rfl;omega
   have hml:∀p∈(c.rows.take j).foldl (gD w) [],p.length<=1000000:=fun p hp=>by
     have:=ajN (w:=w) (c.rows.take j) [] 0 (fun q hq=>by(cases hq)) p hp;rw[aCe]at this;omega
   have M8:=ajM (w:=w) (c.rows.take j) (-1) [] (fun z=>absurd rfl z);dsimp only;rw[hn];generalize c.rows.getD j (.bx "" 0)=q at hqo hp ⊢;generalize (c.rows.take j).foldl (gD w) []=st at hlen hml M8 ⊢;generalize (c.rows.take j).foldl mbS (-1)=mb at hp M8;have hM:=G5 hqo;have Jo:q.cn.kK=true:=B3 hqo;refine aS (tE (ay (ds:=[.int ((j:Nat)+1:Int),.int q.bl,.str q.word,q.cn]) (aq E.dX) (ak (aP E.jK E.t6)) oU) (ak (dP E.dG E.gT)) rfl).1 (fun z=>?_) (fun z=>?_)
   . cases q with
     | bx n k=>exact nomatch (hM.symm.trans z)
     | io n v d=>exact nomatch (hM.symm.trans z)
     | wy n v=>exact nomatch (hM.symm.trans z)
     | md n k x s y=>
       refine My (xV E.aX.1 rfl) rfl rfl (dM (tl:=[]) cj (aB0 _)) rfl rfl (by rw[aBp];exact hlen) (aj (aj ?_));show ∃o,_=[_,_,some (T.lst ((st++[[]]).map tT)),o];rw[aBF];exact⟨_,rfl⟩
   . refine aS (bI (ay (ds:=[.int ((j:Nat)+1:Int),.int q.bl,.str q.word,q.cn]) (aq E.dX) (ak (aP E.jK E.t6)) oU) (aq E.aR)).1 (fun y=>?_) (fun y=>aj (aj (aj ?_)))
     . have y:q.word=w:=aBv y;cases q with
       | bx n k=>exact absurd (show("box":Str)=w from y) fun e=>hwx.1 e.symm
       | md n k x s u=>exact nomatch (hM.symm.trans z)
       | wy n v=>exact absurd (show("on":Str)=w from y) fun e=>hwx.2 e.symm
       | io n v d=>
         have y:v=w:=y;have h0:0<st.length:=M8 hp.2.1;have hix:YD (st.map tT).length (-1)=some (st.length-1):=by
           rw[aBp];exact ER h0
         have hk:(st.map tT)[st.length-1]? = some (tT (st.getD (st.length-1) [])):=by
           rw[aBR,aBs,aBC (show st.length-1<st.length by omega)];rfl
         have hpt:T.J5 [.ix (st.length-1)] (tT (st.getD (st.length-1) []++[d])) (.lst (st.map tT))=.lst ((st.map tT).set (st.length-1) (tT (st.getD (st.length-1) []++[d]))):=by
           show(match (st.map tT)[st.length-1]? with|some k=>_|none=>_)=_;rw[hk];rfl
         have hap:T.lst ((st.getD (st.length-1) []).map T.sh++[T.sh d])=tT (st.getD (st.length-1) []++[d]):=by
           unfold tT;rw[aBF];rfl
         have hge:T.Df [.ix (st.length-1)] (.lst (st.map tT))=some (tT (st.getD (st.length-1) [])):=by
           show((st.map tT)[st.length-1]?).bind (fun x=>some x.core)=_;rw[hk];rfl
         refine My (p:=[.ix (st.length-1)]) (ait (xV E.aX.1 rfl) rfl rfl (ak (cS ai)) hix) rfl hge (aG (ay (ds:=[.int ((j:Nat)+1:Int),.int (n+1:Nat),.str v,d]) (aq E.dX) (ak (aP E.gA E.xC)) Qj) Jo) rfl hge (by rw[aBp];exact hml _ (rM [] h0)) (aj (aj (aj ?_)));have:gD w st (.io n v d)=st.set (st.length-1) (st.getD (st.length-1) []++[d]):=aBE y;rw[this,aDF,← hpt,← hap];exact⟨_,rfl⟩
     . have y:¬ q.word=w:=aBG y;have:gD w st q=st:=by
         cases q with
         | bx n k=>rfl
         | md n k x s u=>exact nomatch (hM.symm.trans z)
         | wy n v=>rfl
         | io n v d=>exact aBx y
       rw[this];exact⟨_,rfl⟩
 case fin=>
   rintro δ ⟨o,rfl⟩;have e:(c.rows.take c.M4.length).foldl (gD w) []=c.dl b:=by
     rw[CH.M4,aBp,aBO,aCv,akq]
   rw[e];have hdi:∀l∈c.dl b,D.bY l=true:=fun l hl=>mh fun d hd=>by
     cases b with
     | true=>exact ajO (h.is l hl d hd)
     | false=>exact ajO (h.os l hl d hd)
   have hdl:(c.dl b).length<=sizeLine:=by
     have:=ZJ (w:=w) c.rows [];rw[akq]at this;have e0:([]:Ch).length=0:=rfl;rw[aB8];omega
   refine aH (aF (jN (p:=fun _=>true) (g:=fun d=>.sh (.tup (axN d))) (bC .nil Q.b) E.g.calm (cY (kM (d:=.lst ((c.dl b).map .lst)) (vM E.aX.1) (anI _))) (.inr rfl) (fun C s0 H0 f0 b' d hd=>?Gz) (by rw[aBp];exact hdl)) (t2:=.lst (((c.dl b).map D.tup).map T.sh)) ?eq) rfl
   case Gz=>
     obtain⟨l,hl,rfl⟩:=aBI.mp hd;exact⟨rfl,fun _=>GK (by exact E.kW) (eN 0) (hdi l hl) oZ⟩
   case eq=>
     rw[dJ,aBL,aBL];rfl
def jd:FG N8 ["forms","word"] ["WORD","KINDS","CONTENT"] (au DM):=fG
abbrev HM:=top 82
abbrev HN:=CH
abbrev Rp:AT:=["forms","ways","mood","form"]
def vn:HN->Ap:=fun c=>[.lst c.M4]
def vo:HN->Prop:=fun c=>xh c
def vp:HN->T:=fun c=>(.lst ((c.ws.map WY.d).map T.sh):T)
structure afS(X:Cx)(CL:BA):Prop extends bB X where
 fN:Ln X 0 "forms"
 mH:Ln X 1 "ways"
 bM:Ln X 2 "mood"
 dX:Ln X 3 "form"
 t6:Gl X "WORD"
 gT:Gl X "KINDS"
 xC:Gl X "CONTENT"
 jK:∃u,X.mg "WORD" = some (.int 2 u)
 dG:GT X "KINDS" ["leaf","one","all"]
 gA:∃u,X.mg "CONTENT" = some (.int 3 u)
def afT(E:afS X CL) :
   lA X CL b HM Rp vn vo vp:=by
 intro c h;dsimp only [vo,vn,vp]at h ⊢;have h:xh c:=h;have dI:=rN h;have hrl:=h.rl;refine aD E.g E.mH (dM cj (aB0 _)) ?_;refine aD E.g E.bM (cS ai) ?_;refine j4 E.g E.dX (fun j δ=>∃o,δ=[some (.sh (.lst c.M4)),some (.lst (((c.rows.take j).foldl gW ([],-1)).1.map T.sh)),some (.sh (.int ((c.rows.take j).foldl gW ([],-1)).2)),o]) (cY (v_ E.fN.1)) ⟨_,rfl⟩ (fun j δ ⟨_,e⟩=>by subst e;exact aBu rfl) ?turn ?fin
 case turn=>
   rintro j d δ hj ⟨o,rfl⟩;have E3:j<c.rows.length:=by
     have:=(aB4.mp hj).1
     rwa [CH.M4,aBp,aBO]at this
   have hq:c.rows[j]? = some (c.rows.getD j (.bx "" 0)):=by
     rw[aBs,aBC E3];rfl
   have ed:d=(c.rows.getD j (.bx "" 0)).nf ((j:Nat)+1:Int):=by
     unfold CH.M4 at hj;rw[aBR,aB9 E3]at hj;exact(aBX hj).symm
   subst ed;have hqo:=dI _ (aBQ hq);have hn:(c.rows.take (j+1)).foldl gW ([],-1)=gW ((c.rows.take j).foldl gW ([],-1)) (c.rows.getD j (.bx "" 0)):=by
     rw[aCH,hq,aCt];rfl
   have hl1:=ajP (c.rows.take j) ([],-1);rw[aCe]at hl1;have hlen:((c.rows.take j).foldl gW ([],-1)).1.length<=1000000:=by
     have hl1:((c.rows.take j).foldl gW ([],-1)).1.length<=0+min j c.rows.length:=hl1;omega
   dsimp only;rw[hn];generalize c.rows.getD j (.bx "" 0)=q at hqo ⊢;generalize (c.rows.take j).foldl gW ([],-1)=st at hlen ⊢;obtain⟨ws,mo⟩:=st;have hM:=G5 hqo;have Jo:q.cn.kK=true:=B3 hqo;refine aS (tE (ay (ds:=[.int ((j:Nat)+1:Int),.int q.bl,.str q.word,q.cn]) (aq E.dX) (ak (aP E.jK E.t6)) oU) (ak (dP E.dG E.gT)) rfl).1 (fun z=>?_) (fun z=>?_)
   . cases q with
     | bx n k=>exact nomatch (hM.symm.trans z)
     | io n v d=>exact nomatch (hM.symm.trans z)
     | wy n v=>exact nomatch (hM.symm.trans z)
     | md n k x s y=>exact arF E.g E.bM rfl ai (aj (aj ⟨_,rfl⟩))
   . refine aS (bI (ay (ds:=[.int ((j:Nat)+1:Int),.int q.bl,.str q.word,q.cn]) (aq E.dX) (ak (aP E.jK E.t6)) oU) az).1 (fun y=>?_) (fun y=>aj (aj (aj ?_)))
     . have y:q.word="on":=aBv y;cases q with
       | bx n k=>exact absurd y (show ¬ ("box":Str)="on" by decide +kernel)
       | md n k x s u=>exact nomatch (hM.symm.trans z)
       | io n v d=>
         have y:v="on":=y;have:=hqo.2.1;rw[y]at this;exact absurd this Q.b
       | wy n v=>
         refine lz E.mH.1 rfl (aip (ds:=[.int mo]) (Dc:=[.str v.sg,.tup v.qs,.tup v.ds,.int v.tg,.str v.md]) (aU (ao (v_ E.bM.1) aZ) aK) (aG (ay (ds:=[.int ((j:Nat)+1:Int),.int (n+1:Nat),.str "on",(RW.wy n v).cn]) (aq E.dX) (ak (aP E.gA E.xC)) Qj) Jo) (aCy _ _) aK) rfl (by rw[aBp];exact hlen) (aj (aj (aj ?_)));show ∃o,_=[_,some (T.lst ((ws++[D.tup [.int mo,.str v.sg,.tup v.qs,.tup v.ds,.int v.tg,.str v.md]]).map T.sh)),_,o];rw[aBF];exact⟨_,rfl⟩
     . have y:¬ q.word="on":=aBG y;have:gW (ws,mo) q=(ws,mo):=by
         cases q with
         | bx n k=>rfl
         | md n k x s u=>exact nomatch (hM.symm.trans z)
         | wy n v=>exact absurd rfl y
         | io n v d=>rfl
       rw[this];exact⟨_,rfl⟩
 case fin=>
   rintro δ ⟨o,rfl⟩;have e:((c.rows.take c.M4.length).foldl gW ([],-1)).1=c.ws.map WY.d:=by
     rw[CH.M4,aBp,aBO,aCv,anH h]
   rw[e];exact aH (vM E.mH.1) rfl
def kE:FG Rp ["forms"] ["WORD","KINDS","CONTENT"] (au HM):=fG
abbrev mO:=top 33
abbrev mP:=AT×BB×BB
abbrev uc:AT:=["tree","mood","line"]
def gY:mP->Ap:=fun(ks,es,ss)=>[nE ks es ss]
def eW:mP->Prop:=fun(ks,es,ss)=>uO es/\1<=es.length/\es.length<=900/\∀m:Int,0<=m->m<es.length->(eY es m).length<=12
def gZ:mP->T:=fun(ks,es,ss)=>(.sh (.bl true):T)
structure DP(X:Cx)(CL:BA):Prop extends bB X where
 cG:Ln X 0 "tree"
 bM:Ln X 1 "mood"
 mK:Ln X 2 "line"
 jO:Gl X "range"
 bf:Gl X "len"
 Fb:Gl X "above"
 Fd:Gl X "depth"
 afU:Gl X "DEEPEST"
 jP:X.mg "range" = none
 bq:X.mg "len" = none
 TX:Fc X CL "above" 1 2 xr sS xu
 T4:Fc X CL "depth" 2 2 xA pC xB
 afV:∃u,X.mg "DEEPEST" = some (.int 12 u)
 cZ:xM X.K (CL "Tree")
 bH:aO X.K (CL "Tree") "elders"
def DQ(E:DP X CL) :
   lA X CL b mO uc gY eW gZ:=by
 rintro⟨ks,es,ss⟩ h;dsimp only [eW,gY,gZ]at h ⊢;obtain⟨hp,h1,h2,h3⟩:=h;have ht:=hp.1;have e0:es.getD (0:Int).toNat 0=-1:=by
   have:=ht.at (k:=0) Q.a Q.a;omega
 refine aS (lC (i:=-1) (aI (cA E.cZ E.bH (aq E.cG) fP) ai ((lF Q.a Q.a).trans (by rw[e0]))) (ak (cS ai))).1 (fun hq=>absurd hq Q.c) (fun _=>aj ?_);refine j4 E.g E.bM (fun j δ=>∃o1 o2,δ=[some (.sh (nE ks es ss)),o1,o2])
   (aex E.jP ai (ak (bF (aBp ..) E.bq (cA E.cZ E.bH (aq E.cG) fP) E.bf)) Q.a E.jO) ⟨_,_,rfl⟩ (fun j δ ⟨_,_,e⟩=>by subst e;exact aBu rfl) ?turn ?fin
 case turn=>
   rintro j d δ hj ⟨o1,o2,rfl⟩;obtain⟨rfl,E3⟩:=wV hj;have E3:j+1<es.length:=by simp at E3;omega
   have hcl:(eY es (j:Int)).length<=12:=h3 j Q.a Q.a;have ej:(1+(j:Int))-1=(j:Int):=by omega
   refine aD E.g E.mK (aF (EB (ds:=[.int (j:Int)]) (Dc:=(eY es (j:Int)).map .int) (bZ (ds:=[.int (j:Int)]) (aF (dM (bE (tu (aq E.bM) ai) cj) aK) (by rw[ej];rfl))) (bZ (aF (c_ (ks,es,ss,(j:Int)) E.TX E.Fb (ah (aq E.cG) (ah (Mp (ak (tu (aq E.bM) ai)) (congrArg D.int ej)) av)) (by dsimp only [sS];exact⟨ht,We,We,We⟩) (pA _)) rfl)) rfl (j5 _) (Nat.le_of_lt (bz (by simp;omega)))) (t2:=.lst ((((j:Int)::eY es (j:Int)).map .int).map T.sh)) rfl) ?_;have hm:es.getD (1+(j:Int)).toNat 0∈(j:Int)::eY es (j:Int):=by
     have:=hp.2 j E3;rw[show(1+(j:Int)).toNat=j+1 by omega];rcases this with z|z
     . rw[z];exact aBr
     . exact aBt _ z
   refine aS (jg (j0 (amK (i:=es.getD (1+(j:Int)).toNat 0) (aI (cA E.cZ E.bH (aq E.cG) fP) (aq E.bM) (lF Q.a Q.a)) (vL E.mK.1) rfl rfl).1 (fun _=>jZ (Ey (ak (aF (c_ (ks,es,ss,1+(j:Int)) E.T4 E.Fd (ah (aq E.cG) (ah (aq E.bM) av)) (by dsimp only [pC];exact⟨ht,We,We,We⟩) rfl) (t2:=.sh (.int ((eY es (1+(j:Int))).length:Nat))) rfl)) (ak (aP E.afV E.afU))).1))) (fun hq=>?_) (fun _=>aj (aj ⟨_,_,rfl⟩));have h12:=h3 (1+(j:Int)) Q.a Q.a;rw[aBH hm,aBS Q.a]at hq;exact absurd hq Q.c
 case fin=>
   rintro δ ⟨o1,o2,rfl⟩;exact aH rG rfl
def bX:FG uc ["tree"] ["range","len","above","depth","DEEPEST"] (au mO):=fG
abbrev nY:=top 34
abbrev n5:=AT×BB×BB
abbrev vq:AT:=["tree","with_inner","elder","mood","kind"]
def iN:n5->Ap:=fun(ks,es,ss)=>[nE ks es ss]
def fH:n5->Prop:=fun(ks,es,ss)=>ks.length=es.length/\es.length<=900/\∀m:Nat,m<es.length->ks.getD m Str.empty∈(["leaf","one","all"]:AT)/\decide (ks.getD m Str.empty="leaf")=!decide ((m:Int)∈es)
def iO:n5->T:=fun(ks,es,ss)=>(.sh (.bl true):T)
structure Fo(X:Cx)(CL:BA):Prop extends bB X where
 cG:Ln X 0 "tree"
 yK:Ln X 1 "with_inner"
 u9:Ln X 2 "elder"
 bM:Ln X 3 "mood"
 nM:Ln X 4 "kind"
 eU:Gl X "enumerate"
 gT:Gl X "KINDS"
 eV:X.mg "enumerate" = none
 dG:GT X "KINDS" ["leaf","one","all"]
 cZ:xM X.K (CL "Tree")
 bH:aO X.K (CL "Tree") "elders"
 c5:aO X.K (CL "Tree") "kinds"
def Fp(E:Fo X CL) :
   lA X CL b nY vq iN fH iO:=by
 rintro⟨ks,es,ss⟩ h;dsimp only [fH,iN,iO]at h ⊢;obtain⟨h1,h2,h3⟩:=h;refine aD E.g E.yK acU ?_;refine j4 E.g E.u9 (fun j δ=>∃o2 o3 o4,δ=[some (.sh (nE ks es ss)),some (.mz (kdI (adds (es.take j)))),o2,o3,o4])
   (cY (jG E.cZ E.bH (v_ E.cG.1) fP)) ⟨_,_,_,rfl⟩ (fun j δ ⟨_,_,_,e⟩=>by subst e;exact aBu rfl) ?turn ?fin
 case turn=>
   rintro j d δ hj ⟨o2,o3,o4,rfl⟩;obtain⟨x,rfl,_,_,E3,_,htk⟩:=vV hj;have hl:=(GU (es.take j) []).1;have hl2:(es.take j).length<=900:=by rw[aCe];omega
   have hkl:(kdI (adds (es.take j))).length<=1000000:=by unfold kdI adds;rw[aBp];simp at hl;omega
   refine ars (.inl x) E.u E.yK.1 rG (aq E.u9) rfl hkl (aj ?_);rw[ang,← ae8,← htk];exact⟨_,_,_,rfl⟩
 case fin=>
 rintro δ ⟨o2,o3,o4,rfl⟩;rw[aBp,aCv];have hin:∀x:Int,decide (x∈adds es)=decide (x∈es):=fun x=>decide_eq_decide.mpr (((GU es []).2 x).trans Uf);refine Dd E.g (uK E.g.nd E.g.calm E.bM E.nM) (fun j δ=>∃o2 o3 o4,δ=[some (.sh (nE ks es ss)),some (.mz (kdI (adds es))),o2,o3,o4])
   (wY (f:=D.str) (l:=ks) Str.empty E.eV (jG E.cZ E.c5 (v_ E.cG.1) pe) E.eU) ⟨_,_,_,rfl⟩ (fun j δ ⟨_,_,_,e⟩=>by subst e;intro i hi;simp only[aBq,aBJ,aCg]at hi;rcases hi with rfl|rfl<;>exact aBu rfl) ?WD ?fin2
 case WD=>
   rintro j d δ hj ⟨o2,o3,o4,rfl⟩;obtain⟨i,rfl,hi,Jo,YL,_,_⟩:=vV hj;clear hi YL hj;have YL:i<ks.length:=aB5.mp Jo;refine⟨_,rfl,?_⟩;obtain⟨e1,e2⟩:=h3 i Q.a;refine aS (jg (j0 (EC (l:=["leaf","one","all"]) (aq E.nM) (ak (dP E.dG E.gT)) rfl rfl).1 (fun _=>jZ (atP (w1:=.bl (decide (ks.getD i Str.empty="leaf"))) (w2:=.bl (decide ((i:Int)∈es))) (ak (bI (aq E.nM) az).2) (ak (aF (arC (.inl (i:Int)) E.u (aq E.bM) (vE E.yK.1 rfl (by rw[T.fj])) rfl) (t2:=.sh (.bl (decide ((i:Int)∈es)))) (congrArg (fun z=>T.sh (.bl z)) ((anh _ _).trans (hin _))))) rfl rfl rfl).1))) (fun hp=>?_) (fun _=>aj (aj ⟨_,_,_,rfl⟩));rw[aBH e1,e2]at hp;cases hd:decide ((i:Int)∈es) with
   | false=>rw[hd]at hp;simp at hp
   | true=>rw[hd]at hp;simp at hp
 case fin2=>
   rintro δ ⟨o2,o3,o4,rfl⟩;exact aH rG rfl
def cK:FG vq ["tree"] ["enumerate","KINDS"] (au nY):=fG
abbrev DR:=top 44
abbrev DS:=Int×Ap
abbrev N9:AT:=["number","row"]
def g5:DS->Ap:=fun(i,ds)=>[.int i,.lst ds]
def g6:DS->Prop:=fun(i,ds)=>True
def g7:DS->T:=fun(i,ds)=>(.sh (.bl (MJ i ds.length)):T)
structure aaw(X:Cx)(CL:BA):Prop extends bB X where
 xj:Ln X 0 "number"
 bS:Ln X 1 "row"
 bf:Gl X "len"
 bq:X.mg "len" = none
def aax(E:aaw X CL) :
   lA X CL b DR N9 g5 g6 g7:=by
 rintro⟨i,ds⟩ h;dsimp only [g6,g5,g7]at h ⊢;exact aH (aik acu acs ai (aq E.xj) (ak (bF rfl E.bq (aq E.bS) E.bf)) (by with_unfolding_all rfl)).2 rfl
def vt:FG N9 ["number","row"] ["len"] (au DR):=fG
abbrev mQ:=top 35
abbrev mR:=AT×BB×BB
abbrev ud:AT:=["tree","mood","start"]
def g8:mR->Ap:=fun(ks,es,ss)=>[nE ks es ss]
def eX:mR->Prop:=fun(ks,es,ss)=>ks.length=es.length/\ss.length=es.length/\es.length<=900/\∀m:Nat,m<es.length->(ks.getD m Str.empty≠"one" /\ ss.getD m 0=-1)\/(ks.getD m Str.empty="one" /\ MJ (ss.getD m 0) es.length=true/\es.getD (ss.getD m 0).toNat 0=m)
def g9:mR->T:=fun(ks,es,ss)=>(.sh (.bl true):T)
structure DT(X:Cx)(CL:BA):Prop extends bB X where
 cG:Ln X 0 "tree"
 bM:Ln X 1 "mood"
 uU:Ln X 2 "start"
 eU:Gl X "enumerate"
 fB:Gl X "is_place"
 eV:X.mg "enumerate" = none
 iI:Fc X CL "is_place" 1 2 g5 g6 g7
 cZ:xM X.K (CL "Tree")
 d9:aO X.K (CL "Tree") "starts"
 c5:aO X.K (CL "Tree") "kinds"
 bH:aO X.K (CL "Tree") "elders"
def DU(E:DT X CL) :
   lA X CL b mQ ud g8 eX g9:=by
 rintro⟨ks,es,ss⟩ h;dsimp only [eX,g8,g9]at h ⊢;obtain⟨h1,h2,h3,h4⟩:=h;refine Dd E.g (uK E.g.nd E.g.calm E.bM E.uU) (fun j δ=>∃o1 o2,δ=[some (.sh (nE ks es ss)),o1,o2])
   (wY (f:=D.int) (l:=ss) 0 E.eV (jG E.cZ E.d9 (v_ E.cG.1) uM) E.eU) ⟨_,_,rfl⟩ (fun j δ ⟨_,_,e⟩=>by subst e;intro i hi;simp only[aBq,aBJ,aCg]at hi;rcases hi with rfl|rfl<;>exact aBu rfl) ?turn ?fin
 case turn=>
   rintro j d δ hj ⟨o1,o2,rfl⟩;obtain⟨i,rfl,hi,Jo,YL,_,_⟩:=vV hj;clear hi YL hj;have YL:i<ss.length:=aB5.mp Jo;refine⟨_,rfl,?_⟩;have hk:Cu (ks.map D.str) (i:Int)=some (.str (ks.getD i Str.empty)):=(mE Str.empty Q.a Q.a).trans (by rw[aCl]);rcases h4 i We with⟨e1,e2⟩|⟨e1,e2,e3⟩
   . refine aS (vS (aI (cA E.cZ E.c5 (aq E.cG) pe) (aq E.bM) hk) az).1 (fun _=>?_) (fun hp=>absurd hp (by rw[aBS e1];decide));refine aS (lC (aq E.uU) (ak (cS ai))).1 (fun hp=>?_) (fun _=>aj (aj (aj ⟨_,_,rfl⟩)));rw[aBH e2]at hp;exact absurd hp Q.c
   . refine aS (vS (aI (cA E.cZ E.c5 (aq E.cG) pe) (aq E.bM) hk) az).1 (fun hp=>absurd hp (by rw[aBH e1];decide)) (fun _=>?_);have e4:=e2;unfold MJ at e4;rw[aB6]at e4;have p0:=aBv e4.1;have p1:=aBv e4.2;have eL:MJ (ss.getD i 0) (es.map D.int).length=true:=by rw[aBp];exact e2
     refine aS (jg (j0 (iC (f6 (aF (c_ (ss.getD i 0,es.map D.int) E.iI E.fB (ah (aq E.uU) (ah (cA E.cZ E.bH (aq E.cG) fP) av)) trivial rfl) (t2:=.sh (.bl true)) (congrArg (fun z=>T.sh (.bl z)) eL)))) (fun _=>jZ (lC (aI (cA E.cZ E.bH (aq E.cG) fP) (aq E.uU) (lF p0 p1)) (aq E.bM)).1))) (fun hp=>?_) (fun _=>aj (aj (aj ⟨_,_,rfl⟩)));rw[aBH e3]at hp;exact absurd hp Q.c
 case fin=>
   rintro δ ⟨o1,o2,rfl⟩;exact aH rG rfl
def dH:FG ud ["tree"] ["enumerate","is_place"] (au mQ):=fG
abbrev qV:=top 32
abbrev qW:=AT×BB×BB×Ap
abbrev zk:AT:=["tree","names","many"]
def jS:qW->Ap:=fun(ks,es,ss,nm)=>[nE ks es ss,.lst nm]
def ic:qW->Prop:=fun(ks,es,ss,nm)=>auA ks es ss/\nm.length=es.length
def jT:qW->T:=fun(ks,es,ss,nm)=>(.sh (.bl true):T)
structure Ko(X:Cx)(CL:BA):Prop extends bB X where
 cG:Ln X 0 "tree"
 cO:Ln X 1 "names"
 jI:Ln X 2 "many"
 bf:Gl X "len"
 mS:Gl X "are_elders_right"
 n6:Gl X "are_kinds_right"
 mU:Gl X "are_starts_right"
 bq:X.mg "len" = none
 DV:Fc X CL "are_elders_right" 3 1 gY eW gZ
 Fq:Fc X CL "are_kinds_right" 1 1 iN fH iO
 DW:Fc X CL "are_starts_right" 2 1 g8 eX g9
 cZ:xM X.K (CL "Tree")
 c5:aO X.K (CL "Tree") "kinds"
 bH:aO X.K (CL "Tree") "elders"
 d9:aO X.K (CL "Tree") "starts"
def Kp(E:Ko X CL) :
   lA X CL b qV zk jS ic jT:=by
 rintro⟨ks,es,ss,nm⟩ h;dsimp only [ic,jS,jT]at h ⊢;obtain⟨h,hn⟩:=h;have n1:=h.n1;refine aD E.g E.jI (bF (n:=es.length) ((aBp ..).trans h.kl) E.bq (cA E.cZ E.c5 (aq E.cG) pe) E.bf) ?_;refine aS (jg (j0 (cg (aq E.jI) ai).1 (fun _=>j0 (lC (ak (bF (n:=es.length) (aBp ..) E.bq (cA E.cZ E.bH (aq E.cG) fP) E.bf)) (aq E.jI)).1 (fun _=>j0 (lC (ak (bF (n:=es.length) ((aBp ..).trans h.sl) E.bq (cA E.cZ E.d9 (aq E.cG) uM) E.bf)) (aq E.jI)).1 (fun _=>jZ (lC (ak (bF (n:=es.length) hn E.bq (aq E.cO) E.bf)) (aq E.jI)).1))))) (fun hp=>?_) (fun _=>aj ?_)
 . rw[aBS (show ¬ ((es.length:Nat):Int)=0 by omega)]at hp;simp at hp
 exact aH (aF (lE (aF (c_ (ks,es,ss) E.DV E.mS (ah (aq E.cG) av) (by dsimp only [eW];exact⟨h.pre,h.n1,h.n2,h.deep⟩) rfl) (t2:=.sh (.bl true)) rfl) (fun _=>lE (aF (c_ (ks,es,ss) E.Fq E.n6 (ah (aq E.cG) av) (by dsimp only [fH];exact⟨h.kl,h.n2,h.kinds⟩) rfl) (t2:=.sh (.bl true)) rfl) (fun _=>mD (aF (c_ (ks,es,ss) E.DW E.mU (ah (aq E.cG) av) (by dsimp only [eX];exact⟨h.kl,h.sl,h.n2,h.starts⟩) rfl) (t2:=.sh (.bl true)) rfl)))) (t2:=.sh (.bl true)) rfl) rfl
def dh:FG zk ["tree","names"] ["len","are_elders_right","are_kinds_right","are_starts_right"] (au qV):=fG
abbrev n8:=top 36
abbrev n9:=AT
abbrev vv:AT:=["names","name"]
def fJ:n9->Ap:=fun l=>[.lst (l.map .str)]
def cU:n9->Prop:=fun l=>(∀x∈l,x.length<=1000/\dN x=true)/\l.Nodup/\l.length<=1000
def fK:n9->T:=fun l=>(.sh (.bl true):T)
structure Ft(X:Cx)(CL:BA):Prop extends bB X where
 cO:Ln X 0 "names"
 cJ:Ln X 1 "name"
 jE:Gl X "is_name"
 bf:Gl X "len"
 auW:Gl X "set"
 m9:Fc X CL "is_name" 1 1 ko jc kr
 bq:X.mg "len" = none
 auX:X.mg "set" = none
def Fv(E:Ft X CL) :
   lA X CL b n8 vv fJ cU fK:=by
 intro l h;dsimp only [cU,fJ,fK]at h ⊢;obtain⟨h1,h2,h3⟩:=h;refine j4 E.g E.cJ (fun j δ=>∃o,δ=[some (.sh (.lst (l.map .str))),o]) (cY (v_ E.cO.1)) ⟨_,rfl⟩ (fun j δ ⟨_,e⟩=>by subst e;exact aBu rfl) ?turn ?fin
 case turn=>
   rintro j d δ hj ⟨o,rfl⟩;obtain⟨x,rfl,_,hx,_,_,_⟩:=vV hj;obtain⟨x1,x2⟩:=h1 x hx;exact aS (iC (f6 (aF (c_ x E.m9 E.jE (ah (aq E.cJ) av) x1 rfl) (t2:=.sh (.bl true)) (congrArg (fun z=>T.sh (.bl z)) x2)))) (fun hp=>absurd hp Q.c) (fun _=>aj (aj ⟨_,rfl⟩))
 case fin=>
   rintro δ ⟨o,rfl⟩;exact aH (aF (cg (ak (Zj E.g E.bq E.auX (aq E.cO) h2 h3 E.bf E.auW)) (ak (bF (aBp ..) E.bq (aq E.cO) E.bf))).2 (t2:=.sh (.bl true)) (congrArg (fun z=>T.sh (.bl z)) (aBH rfl))) rfl
def dZ:FG vv ["names"] ["is_name","len","set"] (au n8):=fG
abbrev yL:=top 45
abbrev yM:=Int
abbrev Fw:AT:=["number"]
def kF:yM->Ap:=fun i=>[.int i]
def kG:yM->Prop:=fun i=>True
def kH:yM->T:=fun i=>(.sh (.bl (bdI i)):T)
structure Ub(X:Cx)(CL:BA):Prop extends bB X where
 xj:Ln X 0 "number"
def Uc(E:Ub X CL) :
   lA X CL b yL Fw kF kG kH:=by
 intro i h;dsimp only [kG,kF,kH]at h ⊢;exact aH (aik acs acs (ak (cS (ak (R6 ai ai ⟨Wp,Wp,Wp⟩)))) (aq E.xj) (ak (R6 ai ai ⟨Wp,Wp,Wp⟩)) (by with_unfolding_all rfl)).2 rfl
def CF:FG Fw ["number"] [] (au yL):=fG
abbrev oh:=top 37
abbrev oi:=Cf
abbrev vz:AT:=["boxes","box"]
def iP:oi->Ap:=fun l=>[.lst (l.map bxV)]
def iQ:oi->Prop:=fun l=>(∀q∈l,(q.1.length<=1000/\dN q.1=true)/\bdI q.2=true)/\(l.map (·.1)).Nodup/\l.length<=1000
def iR:oi->T:=fun l=>(.sh (.bl true):T)
structure Fx(X:Cx)(CL:BA):Prop extends bB X where
 bK:Ln X 0 "boxes"
 apF:Ln X 1 "box"
 oj:Gl X "is_bounded"
 ig:Gl X "are_names_right"
 yN:Fc X CL "is_bounded" 1 1 kF kG kH
 om:Fc X CL "are_names_right" 2 1 fJ cU fK
def Fy(E:Fx X CL) :
   lA X CL b oh vz iP iQ iR:=by
 intro l h;dsimp only [iQ,iP,iR]at h ⊢;obtain⟨h1,h2,h3⟩:=h;refine j4 E.g E.apF (fun j δ=>∃o,δ=[some (.sh (.lst (l.map bxV))),o]) (cY (v_ E.bK.1)) ⟨_,rfl⟩ (fun j δ ⟨_,e⟩=>by subst e;exact aBu rfl) ?turn ?fin
 case turn=>
   rintro j d δ hj ⟨o,rfl⟩;obtain⟨q,hq,rfl⟩:=aBI.mp (aBQ hj);exact aS (iC (f6 (aF (c_ q.2 E.yN E.oj (ah (ay (aq E.apF) ai jX) av) trivial rfl) (t2:=.sh (.bl true)) (congrArg (fun z=>T.sh (.bl z)) (h1 q hq).2)))) (fun hp=>absurd hp Q.c) (fun _=>aj (aj ⟨_,rfl⟩))
 case fin=>
   rintro δ ⟨o,rfl⟩;have hl:∀x∈l.map (·.1),x.length<=1000/\dN x=true:=fun x hx=>by
     obtain⟨q,hq,rfl⟩:=aBI.mp hx;exact(h1 q hq).1
   refine aH (aF (c_ (l.map (·.1)) E.om E.ig (ah (bZ (aF (jN (p:=fun _=>true) (g:=fun d=>T.sh (.str d.at1.toS)) (bC .nil Q.b) E.g.calm (cY (v_ E.bK.1)) (.inr rfl) (fun C s0 H0 f0 b' d hd=>?Gz) (Nat.le_of_lt (bz (by rw[List.length_map];omega)))) ?ceq)) av) (by dsimp only [cU];exact⟨hl,h2,by rw[List.length_map];exact h3⟩) rfl) rfl) rfl
   case Gz=>
     obtain⟨q,hq,rfl⟩:=aBI.mp hd;exact⟨rfl,fun _=>aG (ay (eN 0) ai iK) rfl⟩
   case ceq=>
     rw[dJ,aBL,aBL,aBL];rfl
def gn:FG vz ["boxes"] ["is_bounded","are_names_right"] (au oh):=fG
abbrev qX:=top 43
abbrev qY:=Ap×Ap×D×Ap×Ap×Ap×Int×Int
abbrev zl:AT:=["chart","term"]
def iy:qY->Ap:=fun(bs,nm,tr,is,os,ws,i,c)=>[j7 bs nm tr is os ws,.tup [.int i,.int c]]
def iz:qY->Prop:=fun(bs,nm,tr,is,os,ws,i,c)=>True
def iA:qY->T:=fun(bs,nm,tr,is,os,ws,i,c)=>(.sh (.bl (Zq bs.length i c)):T)
structure Kq(X:Cx)(CL:BA):Prop extends bB X where
 aB:Ln X 0 "chart"
 nK:Ln X 1 "term"
 fB:Gl X "is_place"
 oj:Gl X "is_bounded"
 iI:Fc X CL "is_place" 1 2 g5 g6 g7
 yN:Fc X CL "is_bounded" 1 1 kF kG kH
 aL:xM X.K (CL "Chart")
 bQ:aO X.K (CL "Chart") "boxes"
def Kr(E:Kq X CL) :
   lA X CL b qX zl iy iz iA:=by
 rintro⟨bs,nm,tr,is,os,ws,i,c⟩ h;dsimp only [iz,iy,iA]at h ⊢;exact aH (lE (aoX (cg (ay (aq E.nK) ai rfl) (ak (cS ai))).2 (fun _=>mD (aF (c_ (i,bs) E.iI E.fB (ah (ay (aq E.nK) ai rfl) (ah (cA E.aL E.bQ (aq E.aB) j8) av)) trivial rfl) (t2:=.sh (.bl (MJ i bs.length))) rfl))) (fun _=>mD (aF (c_ c E.yN E.oj (ah (ay (aq E.nK) ai rfl) av) trivial rfl) (t2:=.sh (.bl (bdI c))) rfl))) rfl
def i7:FG zl ["chart","term"] ["is_place","is_bounded"] (au qX):=fG
abbrev qZ:=top 42
abbrev rg:=Ap×Ap×D×Ap×Ap×Ap×DdM
abbrev zm:AT:=["chart","deed","word"]
def jU:rg->Ap:=fun(bs,nm,tr,is,os,ws,q)=>[j7 bs nm tr is os ws,EI q]
def jV:rg->Prop:=fun(bs,nm,tr,is,os,ws,q)=>ddL q
def jW:rg->T:=fun(bs,nm,tr,is,os,ws,q)=>(.sh (.bl (ddI bs.length q)):T)
structure Ks(X:Cx)(CL:BA):Prop extends bB X where
 aB:Ln X 0 "chart"
 c7:Ln X 1 "deed"
 aR:Ln X 2 "word"
 fB:Gl X "is_place"
 fC:Gl X "is_term_right"
 jE:Gl X "is_name"
 iI:Fc X CL "is_place" 1 2 g5 g6 g7
 jy:Fc X CL "is_term_right" 2 2 iy iz iA
 m9:Fc X CL "is_name" 1 1 ko jc kr
 aL:xM X.K (CL "Chart")
 bQ:aO X.K (CL "Chart") "boxes"
def Ku(E:Ks X CL) :
   lA X CL b qZ zm jU jV jW:=by
 rintro⟨bs,nm,tr,is,os,ws,q⟩ h;dsimp only [jV,jU,jW]at h ⊢;cases q with
 | put i a' c=>
   refine aD E.g E.aR (aG (ay (aq E.c7) ai iK) rfl) ?_;refine aS (bI (aq E.aR) az).1 (fun _=>?_) (fun hp=>absurd (aBG hp) Q.b);exact aH (lE (aF (c_ (i,bs) E.iI E.fB (ah (ay (aq E.c7) ai jX) (ah (cA E.aL E.bQ (aq E.aB) j8) av)) trivial rfl) (t2:=.sh (.bl (MJ i bs.length))) rfl) (fun _=>mD (aF (c_ (bs,nm,tr,is,os,ws,a',c) E.jy E.fC (ah (aq E.aB) (ah (ay (aq E.c7) ai oU) av)) trivial rfl) (t2:=.sh (.bl (Zq bs.length a' c))) rfl))) rfl
 | say x a' c=>
   have hx:x.length<=1000:=h;refine aD E.g E.aR (aG (ay (aq E.c7) ai iK) rfl) ?_;refine aS (bI (aq E.aR) az).1 (fun hp=>absurd (aBv hp) Q.b) (fun _=>aj ?_);refine aS (bI (aq E.aR) az).1 (fun _=>?_) (fun hp=>absurd (aBG hp) Q.b);exact aH (lE (aF (c_ x E.m9 E.jE (ah (ay (aq E.c7) ai jX) av) hx rfl) (t2:=.sh (.bl (dN x))) rfl) (fun _=>mD (aF (c_ (bs,nm,tr,is,os,ws,a',c) E.jy E.fC (ah (aq E.aB) (ah (ay (aq E.c7) ai oU) av)) trivial rfl) (t2:=.sh (.bl (Zq bs.length a' c))) rfl))) rfl
 | call x=>
   have hx:x.length<=1000:=h;refine aD E.g E.aR (aG (ay (aq E.c7) ai iK) rfl) ?_;refine aS (bI (aq E.aR) az).1 (fun hp=>absurd (aBv hp) Q.b) (fun _=>aj ?_);refine aS (bI (aq E.aR) az).1 (fun hp=>absurd (aBv hp) Q.b) (fun _=>aj ?_);exact aH (aF (lE (bI (aq E.aR) az).2 (fun _=>mD (aF (c_ x E.m9 E.jE (ah (ay (aq E.c7) ai jX) av) hx rfl) (t2:=.sh (.bl (dN x))) rfl))) (t2:=.sh (.bl (dN x))) (congrArg (fun z=>T.sh (.bl z)) (by rw[aBH rfl];rfl))) rfl
def d7:FG zm ["chart","deed"] ["is_place","is_term_right","is_name"] (au qZ):=fG
abbrev oq:=top 38
abbrev oz:=Ap×Ap×D×List (List DdM)×List (List DdM)×List LkW
abbrev vA:AT:=["chart","many","deeds","deed"]
def iS:oz->Ap:=fun(bs,nm,tr,is,os,ws)=>[j7 bs nm tr (is.map fun l=>D.tup (l.map EI)) (os.map fun l=>D.tup (l.map EI)) (ws.map lwV)]
def fL:oz->Prop:=fun(bs,nm,tr,is,os,ws)=>is.length=nm.length/\os.length=nm.length/\nm.length<=400/\ws.length<=100/\(∀l∈is++os++ws.map (·.dl),∀q∈l,ddL q/\ddI bs.length q=true)
def iT:oz->T:=fun(bs,nm,tr,is,os,ws)=>(.sh (.bl true):T)
structure Fz(X:Cx)(CL:BA):Prop extends bB X where
 aB:Ln X 0 "chart"
 jI:Ln X 1 "many"
 ve:Ln X 2 "deeds"
 c7:Ln X 3 "deed"
 bf:Gl X "len"
 rm:Gl X "is_deed_right"
 bq:X.mg "len" = none
 Kv:Fc X CL "is_deed_right" 3 2 jU jV jW
 TH:∃u,X.mg "DEEDS" = some (.int 3 u)
 aL:xM X.K (CL "Chart")
 aV:aO X.K (CL "Chart") "names"
 fS:aO X.K (CL "Chart") "ins"
 gJ:aO X.K (CL "Chart") "outs"
 dD:aO X.K (CL "Chart") "ways"
def FD(E:Fz X CL) :
   lA X CL b oq vA iS fL iT:=by
 rintro⟨bs,nm,tr,is,os,ws⟩ h;dsimp only [fL,iS,iT]at h ⊢;obtain⟨h1,h2,h3,h4,h5⟩:=h;refine aD E.g E.jI (bF (n:=nm.length) rfl E.bq (cA E.aL E.aV (aq E.aB) eO) E.bf) ?_;refine aS (jg (j0 (lC (ak (bF (n:=nm.length) ((aBp ..).trans h1) E.bq (cA E.aL E.fS (aq E.aB) BQ) E.bf)) (aq E.jI)).1 (fun _=>jZ (lC (ak (bF (n:=nm.length) ((aBp ..).trans h2) E.bq (cA E.aL E.gJ (aq E.aB) xW) E.bf)) (aq E.jI)).1))) (fun hp=>?_) (fun _=>aj ?_)
 . simp at hp
 have im:∀l:List (List DdM),D.bY (l.map fun l=>D.tup (l.map EI))=true:=fun l=>qc (f:=fun l:List DdM=>D.tup (l.map EI)) (fun q=>show D.bY (q.map EI)=true from qc (fun q=>by cases q<;>rfl) q) l;refine j4 E.g E.ve (fun j δ=>∃o1 o2,δ=[some (.sh (j7 bs nm tr (is.map fun l=>D.tup (l.map EI)) (os.map fun l=>D.tup (l.map EI)) (ws.map lwV))),some (.sh (.int nm.length)),o1,o2])
   (cY (ED (ds:=(is++os++ws.map (·.dl)).map fun l=>D.tup (l.map EI)) (aF (EB (ds:=(is++os).map fun l=>D.tup (l.map EI)) (Dc:=(ws.map (·.dl)).map fun l=>D.tup (l.map EI)) (bZ (aF (EB (cA E.aL E.fS (aq E.aB) BQ) (cA E.aL E.gJ (aq E.aB) xW) (im is) (im os) (aCj (bz (by simp;omega)))) (by rw[← aBF]))) (bZ (aF (jN (p:=fun _=>true) (g:=fun d=>T.sh (axE d)) (bC .nil Q.b) E.g.calm (cY (jG E.aL E.dD (v_ E.aB.1) xX)) (.inr rfl) (fun C s0 H0 f0 b' d hd=>?Gz) (aCj (bz (by rw[aBp];omega)))) ?ceq)) (im _) (im _) (aCj (bz (by simp;omega)))) (by rw[← aBF])))) ⟨_,_,rfl⟩ (fun j δ ⟨_,_,e⟩=>by subst e;exact aBu rfl) ?turn ?fin
 case Gz=>
   obtain⟨w,hw,rfl⟩:=aBI.mp hd;exact⟨rfl,fun _=>aG (ay (eN 0) (ak (aP (by exact E.TH) oZ)) Qj) (show D.bY (w.dl.map EI)=true from qc (fun q=>by cases q<;>rfl) _)⟩
 case ceq=>
   rw[dJ,aBL,aBL,aBL];rfl
 case turn=>
   rintro j d δ hj ⟨o1,o2,rfl⟩;obtain⟨l,hl,rfl⟩:=aBI.mp (aBQ hj);have hq:=h5 l hl;refine j4 E.g E.c7 (fun j δ=>∃o2,δ=[some (.sh (j7 bs nm tr (is.map fun l=>D.tup (l.map EI)) (os.map fun l=>D.tup (l.map EI)) (ws.map lwV))),some (.sh (.int nm.length)),some (.sh (.tup (l.map EI))),o2]) (GJ (v_ E.ve.1)) ⟨_,rfl⟩ (fun j δ ⟨_,e⟩=>by subst e;exact aBu rfl) ?WD ?fin2
   case WD=>
     rintro i d δ hi ⟨o2,rfl⟩;obtain⟨q,hqm,rfl⟩:=aBI.mp (aBQ hi);exact aS (iC (f6 (aF (c_ (bs,nm,tr,is.map fun l=>D.tup (l.map EI),os.map fun l=>D.tup (l.map EI),ws.map lwV,q) E.Kv E.rm (ah (aq E.aB) (ah (aq E.c7) av)) (hq q hqm).1 rfl) (t2:=.sh (.bl true)) (congrArg (fun z=>T.sh (.bl z)) (hq q hqm).2)))) (fun hp=>absurd hp Q.c) (fun _=>aj (aj ⟨_,rfl⟩))
   case fin2=>
     rintro δ ⟨o2,rfl⟩;exact aj ⟨_,_,rfl⟩
 case fin=>
   rintro δ ⟨o1,o2,rfl⟩;exact aH rG rfl
def c9:FG vA ["chart"] ["len","is_deed_right"] (au oq):=fG
abbrev uf:=top 41
abbrev ug:=Ap×Ap×D×Ap×Ap×Ap×LkA
abbrev A4:AT:=["chart","ask","mark"]
def kX:ug->Ap:=fun(bs,nm,tr,is,os,ws,q)=>[j7 bs nm tr is os ws,lkV q]
def kY:ug->Prop:=fun(bs,nm,tr,is,os,ws,q)=>anf q
def kZ:ug->T:=fun(bs,nm,tr,is,os,ws,q)=>(.sh (.bl (lkI nm.length bs.length q)):T)
structure Oa(X:Cx)(CL:BA):Prop extends bB X where
 aB:Ln X 0 "chart"
 lB:Ln X 1 "ask"
 jJ:Ln X 2 "mark"
 fB:Gl X "is_place"
 T7:Gl X "MARKS"
 fC:Gl X "is_term_right"
 iI:Fc X CL "is_place" 1 2 g5 g6 g7
 Fi:GT X "MARKS" ["<","<=","=","!="]
 jy:Fc X CL "is_term_right" 2 2 iy iz iA
 aL:xM X.K (CL "Chart")
 aV:aO X.K (CL "Chart") "names"
def Ob(E:Oa X CL) :
   lA X CL b uf A4 kX kY kZ:=by
 rintro⟨bs,nm,tr,is,os,ws,q⟩ h;dsimp only [kY,kX,kZ]at h ⊢;cases q with
 | aix x m=>
   refine aD E.g E.jJ (aG (ay (aq E.lB) ai iK) rfl) ?_;refine aS (ji (l:=["open","shut"]) (aq E.jJ) (e7 rfl)).1 (fun _=>?_) (fun hp=>absurd (show x∈(["open","shut"]:AT) from h) (aBG hp));exact aH (aF (c_ (m,nm) E.iI E.fB (ah (ay (aq E.lB) ai jX) (ah (cA E.aL E.aV (aq E.aB) eO) av)) trivial rfl) rfl) rfl
 | num mk a1 c1 a2 c2=>
   refine aD E.g E.jJ (aG (ay (aq E.lB) ai iK) rfl) ?_;refine aS (ji (l:=["open","shut"]) (aq E.jJ) (e7 rfl)).1 (fun hp=>absurd (aBv hp) h) (fun _=>aj ?_);exact aH (lE (acS (l:=["<","<=","=","!="]) (aq E.jJ) (ak (dP E.Fi E.T7)) rfl rfl).2 (fun _=>lE (aF (c_ (bs,nm,tr,is,os,ws,a1,c1) E.jy E.fC (ah (aq E.aB) (ah (ay (aq E.lB) ai jX) av)) trivial rfl) (t2:=.sh (.bl (Zq bs.length a1 c1))) rfl) (fun _=>mD (aF (c_ (bs,nm,tr,is,os,ws,a2,c2) E.jy E.fC (ah (aq E.aB) (ah (ay (aq E.lB) ai oU) av)) trivial rfl) (t2:=.sh (.bl (Zq bs.length a2 c2))) rfl)))) rfl
def fD:FG A4 ["chart","ask"] ["is_place","MARKS","is_term_right"] (au uf):=fG
abbrev uh:=top 40
abbrev um:=Ap×Ap×D×Ap×Ap×Ap×Int×Str×List LkA×Ap×Int×Str
abbrev A5:AT:=["chart","way","target","mode","ask"]
def k6:um->Ap:=fun(bs,nm,tr,is,os,ws,src,sg,al,dd,tg,md)=>[j7 bs nm tr is os ws,.tup [.int src,.str sg,.tup (al.map lkV),.tup dd,.int tg,.str md]]
def k7:um->Prop:=fun(bs,nm,tr,is,os,ws,src,sg,al,dd,tg,md)=>MJ src nm.length=true/\(sg.length<=1000/\dN sg=true)/\md∈(["new","near","far"]:AT)/\((tg=-1/\md="new")\/(tg ≠ -1/\MJ tg nm.length=true))/\∀q∈al,anf q/\lkI nm.length bs.length q=true
def k8:um->T:=fun(bs,nm,tr,is,os,ws,src,sg,al,dd,tg,md)=>(.sh (.bl true):T)
structure Oc(X:Cx)(CL:BA):Prop extends bB X where
 aB:Ln X 0 "chart"
 f9:Ln X 1 "way"
 nL:Ln X 2 "target"
 Al:Ln X 3 "mode"
 lB:Ln X 4 "ask"
 E8:Gl X "TARGET"
 TF:Gl X "MODE"
 fB:Gl X "is_place"
 xo:Gl X "SOURCE"
 jE:Gl X "is_name"
 Z8:Gl X "SIGN"
 an4:Gl X "MODES"
 Z9:Gl X "ASKS"
 uo:Gl X "is_ask_right"
 E9:∃u,X.mg "TARGET" = some (.int 4 u)
 TJ:∃u,X.mg "MODE" = some (.int 5 u)
 iI:Fc X CL "is_place" 1 2 g5 g6 g7
 xq:∃u,X.mg "SOURCE" = some (.int 0 u)
 m9:Fc X CL "is_name" 1 1 ko jc kr
 aac:∃u,X.mg "SIGN" = some (.int 1 u)
 Ud:GT X "MODES" ["new","near","far"]
 aad:∃u,X.mg "ASKS" = some (.int 2 u)
 Od:Fc X CL "is_ask_right" 3 2 kX kY kZ
 aL:xM X.K (CL "Chart")
 aV:aO X.K (CL "Chart") "names"
def Oe(E:Oc X CL) :
   lA X CL b uh A5 k6 k7 k8:=by
 rintro⟨bs,nm,tr,is,os,ws,src,sg,al,dd,tg,md⟩ h;dsimp only [k7,k6,k8]at h ⊢;obtain⟨h1,⟨h2,h3⟩,h4,h5,h6⟩:=h;refine aD E.g E.nL (aG (ay (aq E.f9) (ak (aP E.E9 E.E8)) (jf (j:=4) rfl)) rfl) ?_;refine aD E.g E.Al (aG (ay (aq E.f9) (ak (aP E.TJ E.TF)) (jf (j:=5) rfl)) rfl) ?_;refine aS (jg (j0 (iC (f6 (aF (c_ (src,nm) E.iI E.fB (ah (ay (aq E.f9) (ak (aP E.xq E.xo)) iK) (ah (cA E.aL E.aV (aq E.aB) eO) av)) trivial rfl) (t2:=.sh (.bl true)) (congrArg (fun z=>T.sh (.bl z)) h1)))) (fun _=>j0 (iC (f6 (aF (c_ sg E.m9 E.jE (ah (ay (aq E.f9) (ak (aP E.aac E.Z8)) jX) av) h2 rfl) (t2:=.sh (.bl true)) (congrArg (fun z=>T.sh (.bl z)) h3)))) (fun _=>jZ (EC (l:=["new","near","far"]) (aq E.Al) (ak (dP E.Ud E.an4)) rfl rfl).1)))) (fun hp=>?_) (fun _=>aj ?_)
 . rw[aBH h4]at hp;exact absurd hp Q.c
 refine aw5 (fun δ=>δ=[some (.sh (j7 bs nm tr is os ws)),some (.sh (.tup [.int src,.str sg,.tup (al.map lkV),.tup dd,.int tg,.str md])),some (.sh (.int tg)),some (.sh (.str md)),none]) (fun δ2 e2=>?_) (fun k=>?_)
 . subst e2;refine j4 E.g E.lB (fun j δ=>∃o,δ=[some (.sh (j7 bs nm tr is os ws)),some (.sh (.tup [.int src,.str sg,.tup (al.map lkV),.tup dd,.int tg,.str md])),some (.sh (.int tg)),some (.sh (.str md)),o])
     (GJ (aG (ay (aq E.f9) (ak (aP E.aad E.Z9)) oU) (aiy al))) ⟨_,rfl⟩ (fun j δ ⟨_,e⟩=>by subst e;exact aBu rfl) ?turn ?fin
   case turn=>
     rintro j d δ hj ⟨o,rfl⟩;obtain⟨q,hq,rfl⟩:=aBI.mp (aBQ hj);obtain⟨q1,q2⟩:=h6 q hq;exact aS (iC (f6 (aF (c_ (bs,nm,tr,is,os,ws,q) E.Od E.uo (ah (aq E.aB) (ah (aq E.lB) av)) q1 rfl) (t2:=.sh (.bl true)) (congrArg (fun z=>T.sh (.bl z)) q2)))) (fun hp=>absurd hp Q.c) (fun _=>aj (aj ⟨_,rfl⟩))
   case fin=>
     rintro δ ⟨o,rfl⟩;exact aH rG rfl
 rcases h5 with⟨e1,e2⟩|⟨e1,e2⟩
 . refine aS (cg (aq E.nL) (ak (cS ai))).1 (fun _=>?_) (fun hp=>absurd e1 (aBG hp));refine aS (vS (aq E.Al) az).1 (fun hp=>?_) (fun _=>aj (aj (k _ rfl)));rw[aBH e2]at hp;exact absurd hp Q.c
 . refine aS (cg (aq E.nL) (ak (cS ai))).1 (fun hp=>absurd (aBv hp) e1) (fun _=>?_);refine aS (iC (f6 (aF (c_ (tg,nm) E.iI E.fB (ah (aq E.nL) (ah (cA E.aL E.aV (aq E.aB) eO) av)) trivial rfl) (t2:=.sh (.bl true)) (congrArg (fun z=>T.sh (.bl z)) e2)))) (fun hp=>absurd hp Q.c) (fun _=>aj (aj (k _ rfl)))
def bD:FG A5 ["chart","way"] ["TARGET","MODE","is_place","SOURCE","is_name","SIGN","MODES","ASKS","is_ask_right"] (au uh):=fG
abbrev pH:=top 39
abbrev pI:=Ap×Ap×D×Ap×Ap×List LkW
abbrev xD:AT:=["chart","last","way"]
def jo:pI->Ap:=fun(bs,nm,tr,is,os,ws)=>[j7 bs nm tr is os (ws.map lwV)]
def gq:pI->Prop:=fun(bs,nm,tr,is,os,ws)=>(∀w∈ws,w.Ok nm.length bs.length)/\ws.Pairwise (fun a c=>a.src<=c.src)
def jq:pI->T:=fun(bs,nm,tr,is,os,ws)=>(.sh (.bl true):T)
structure HP(X:Cx)(CL:BA):Prop extends bB X where
 aB:Ln X 0 "chart"
 nG:Ln X 1 "last"
 f9:Ln X 2 "way"
 xo:Gl X "SOURCE"
 uq:Gl X "is_way_right"
 xq:∃u,X.mg "SOURCE" = some (.int 0 u)
 Og:Fc X CL "is_way_right" 4 2 k6 k7 k8
 aL:xM X.K (CL "Chart")
 dD:aO X.K (CL "Chart") "ways"
def HQ(E:HP X CL) :
   lA X CL b pH xD jo gq jq:=by
 rintro⟨bs,nm,tr,is,os,ws⟩ h;dsimp only [gq,jo,jq]at h ⊢;obtain⟨h1,h2⟩:=h;refine aD E.g E.nG GF ?_;refine j4 E.g E.f9 (fun j δ=>∃(l:Int) (o:Option T),(∀w∈ws.drop j,l<=w.src)/\δ=[some (.sh (j7 bs nm tr is os (ws.map lwV))),some (.sh (.int l)),o])
   (cY (jG E.aL E.dD (v_ E.aB.1) xX)) ⟨0,none,fun w hw=>?_,rfl⟩ (fun j δ ⟨_,_,_,e⟩=>by subst e;exact aBu rfl) ?turn ?fin
 . have:=(h1 w (List.mem_of_mem_drop hw)).1;unfold MJ at this;rw[aB6]at this;exact aBv this.1
 case turn=>
   rintro j d δ hj ⟨l,o,hl,rfl⟩;obtain⟨w,hw,rfl⟩:∃w,ws[j]? = some w/\lwV w=d:=by rw[aBR]at hj;exact aDj.mp hj
   have E3:j<ws.length:=(aB4.mp hw).1;have hdr:ws.drop j=w::ws.drop (j+1):=by rw[List.drop_eq_getElem_cons E3,(aB4.mp hw).2]
   have hwm:w∈ws:=aBQ hw;have hlw:l<=w.src:=hl w (by rw[hdr];exact aBr);refine aS (jg (j0 (Vo (ay (aq E.f9) (ak (aP E.xq E.xo)) iK) (aq E.nG)).1 (fun _=>jZ (iC (f6 (aF (c_ (bs,nm,tr,is,os,ws.map lwV,w.src,w.sign,w.al,w.dl.map EI,w.tgt,w.mode) E.Og E.uq (ah (aq E.aB) (ah (aq E.f9) av)) (h1 w hwm) rfl) (t2:=.sh (.bl true)) rfl)))))) (fun hp=>?_) (fun _=>aj ?_)
   . have hp:(decide (w.src<l) || !true)=true:=hp;rw[aBS Q.a]at hp;exact absurd hp Q.c
   refine aD E.g E.nG (aG (ay (aq E.f9) (ak (aP E.xq E.xo)) iK) rfl) (aj ⟨w.src,_,fun v hv=>?_,rfl⟩);have hp:=h2.drop (i:=j);rw[hdr]at hp;exact(List.pairwise_cons.mp hp).1 v hv
 case fin=>
   rintro δ ⟨l,o,_,rfl⟩;exact aH rG rfl
def fh:FG xD ["chart"] ["SOURCE","is_way_right"] (au pH):=fG
abbrev Oh:=top 31
abbrev Oi:=Cf×AT×AT×BB×BB×List (List DdM)×List (List DdM)×List LkW
abbrev W8:AT:=["chart"]
def yO:Oi->Ap:=fun(bs,nm,ks,es,ss,is,os,ws)=>[j7 (bs.map bxV) (nm.map .str) (nE ks es ss) (is.map fun l=>D.tup (l.map EI)) (os.map fun l=>D.tup (l.map EI)) (ws.map lwV)]
def ur:Oi->Prop:=fun(bs,nm,ks,es,ss,is,os,ws)=>(auA ks es ss/\nm.length=es.length/\es.length<=400)/\((∀x∈nm,x.length<=1000/\dN x=true)/\nm.Nodup)/\((∀q∈bs,(q.1.length<=1000/\dN q.1=true)/\bdI q.2=true)/\(bs.map (·.1)).Nodup/\bs.length<=1000)/\(is.length=nm.length/\os.length=nm.length/\ws.length<=100/\(∀l∈is++os++ws.map (·.dl),∀q∈l,ddL q/\ddI bs.length q=true))/\(∀w∈ws,w.Ok nm.length bs.length)/\ws.Pairwise (fun a c=>a.src<=c.src)
def yP:Oi->T:=fun(bs,nm,ks,es,ss,is,os,ws)=>(.sh .non:T)
structure aky(X:Cx)(CL:BA):Prop extends bB X where
 aB:Ln X 0 "chart"
 rq:Gl X "is_tree_right"
 asU:Gl X "BadTree"
 ig:Gl X "are_names_right"
 asV:Gl X "BadName"
 oA:Gl X "are_boxes_right"
 auY:Gl X "BadBox"
 oB:Gl X "are_deeds_right"
 asW:Gl X "BadDeed"
 pJ:Gl X "are_ways_right"
 auZ:Gl X "BadWay"
 Kw:Fc X CL "is_tree_right" 4 2 jS ic jT
 om:Fc X CL "are_names_right" 2 1 fJ cU fK
 FE:Fc X CL "are_boxes_right" 3 1 iP iQ iR
 FH:Fc X CL "are_deeds_right" 4 1 iS fL iT
 HR:Fc X CL "are_ways_right" 5 1 jo gq jq
 aL:xM X.K (CL "Chart")
 ef:aO X.K (CL "Chart") "tree"
 aV:aO X.K (CL "Chart") "names"
 bQ:aO X.K (CL "Chart") "boxes"
def akz(E:aky X CL) :
   lA X CL b Oh W8 yO ur yP:=by
 rintro⟨bs,nm,ks,es,ss,is,os,ws⟩ h;dsimp only [ur,yO,yP]at h ⊢;obtain⟨⟨h1,h2,h3⟩,⟨h4,h5⟩,h6,⟨h7,h8,h9,h10⟩,h11,h12⟩:=h;have el:(nm.map D.str).length=nm.length:=aBp ..;have eb:(bs.map bxV).length=bs.length:=aBp ..;refine aS (iC (f6 (aF (c_ (ks,es,ss,nm.map D.str) E.Kw E.rq (ah (cA E.aL E.ef (aq E.aB) tG) (ah (cA E.aL E.aV (aq E.aB) eO) av)) (by dsimp only [ic];exact⟨h1,We⟩) rfl) (t2:=.sh (.bl true)) rfl))) (fun hp=>absurd hp Q.c) (fun _=>aj ?_);refine aS (iC (f6 (aF (c_ nm E.om E.ig (ah (cA E.aL E.aV (aq E.aB) eO) av) (by dsimp only [cU];exact⟨h4,h5,We⟩) rfl) (t2:=.sh (.bl true)) rfl))) (fun hp=>absurd hp Q.c) (fun _=>aj ?_);refine aS (iC (f6 (aF (c_ bs E.FE E.oA (ah (cA E.aL E.bQ (aq E.aB) j8) av) h6 rfl) (t2:=.sh (.bl true)) rfl))) (fun hp=>absurd hp Q.c) (fun _=>aj ?_);refine aS (iC (f6 (aF (c_ (bs.map bxV,nm.map D.str,nE ks es ss,is,os,ws) E.FH E.oB (ah (aq E.aB) av) (by dsimp only [fL];rw[el,eb];exact⟨h7,h8,We,h9,h10⟩) rfl) (t2:=.sh (.bl true)) rfl))) (fun hp=>absurd hp Q.c) (fun _=>aj ?_);refine aS (iC (f6 (aF (c_ (bs.map bxV,nm.map D.str,nE ks es ss,is.map fun l=>D.tup (l.map EI),os.map fun l=>D.tup (l.map EI),ws) E.HR E.pJ (ah (aq E.aB) av) (by dsimp only [gq];rw[el,eb];exact⟨h11,h12⟩) rfl) (t2:=.sh (.bl true)) rfl))) (fun hp=>absurd hp Q.c) (fun _=>aj ?_);exact aj rfl
def gC:FG W8 ["chart"] ["is_tree_right","BadTree","are_names_right","BadName","are_boxes_right","BadBox","are_deeds_right","BadDeed","are_ways_right","BadWay"] (au Oh):=fG
theorem Oj{α β:Type}{P:β->Prop}{f:β->α}:∀(l:List α),(∀a∈l,∃q,a=f q/\P q)->∃qs:List β,l=qs.map f/\∀q∈qs,P q
 | [],_=>⟨[],rfl,fun q hq=>by(cases hq)⟩
 | a::l,h=>by
   obtain⟨q,e,hq⟩:=h a aBr;obtain⟨qs,e2,hqs⟩:=Oj l fun b hb=>h b (aBt _ hb);refine⟨q::qs,by rw[e,e2];rfl,fun x hx=>?_⟩;rcases aBq.mp hx with rfl|hx
   . exact hq
   . exact hqs x hx
def apG{k:Int}(hk:k.natAbs<10 ^ 30):bdI k=true:=by
 unfold bdI;have e:(10:Int) ^ (30:Int).toNat=((10 ^ 30:Nat):Int):=Q.f;rw[e];generalize 10 ^ 30=z at hk;rw[aBH (show -(z:Int)<k by omega),aBH (show k<(z:Int) by omega)];rfl
def adK{a k:Int}(ha:a=-1\/(0<=a/\a<nb))(hk:k.natAbs<10 ^ 30):Zq nb a k=true:=by
 unfold Zq MJ;rw[apG hk,Bool.and_true];rcases ha with e|e
 . rw[aBH e];rfl
 . rw[aBH e.1,aBH e.2];exact Bool.or_true _
def W9{k:Int}(h:0<=k/\k<n):MJ k n=true:=by
 unfold MJ;rw[aBH h.1,aBH h.2];rfl
def apH(h:J8 nb d):∃q:DdM,d=EI q/\ddL q/\ddI nb q=true:=by
 have sm:∀{x:Str},dN x=true->x.length<=1000:=fun h=>by
   have:=(kg h).2.1;omega
 rcases h with⟨n,rfl,hn⟩|⟨k,t,rfl,hk,⟨a,c,rfl,ha,hc⟩⟩|⟨n,t,rfl,hn,⟨a,c,rfl,ha,hc⟩⟩
 . exact⟨.call n,rfl,sm hn,hn⟩
 . refine⟨.put k a c,rfl,trivial,?_⟩;show(MJ k nb&&Zq nb a c)=true;rw[W9 hk,adK ha hc];rfl
 . refine⟨.say n a c,rfl,sm hn,?_⟩;show(dN n&&Zq nb a c)=true;rw[hn,adK ha hc];rfl
def au0(h:tL nb nm d):∃q:LkA,d=lkV q/\anf q/\lkI nm nb q=true:=by
 rcases h with⟨w,k,rfl,hw,hk⟩|⟨w,s,t,rfl,hw,⟨a,c,rfl,ha,hc⟩,⟨a2,c2,rfl,ha2,hc2⟩⟩
 . refine⟨.aix w k,rfl,?_,W9 hk⟩;show w∈(["open","shut"]:AT);rcases hw with rfl|rfl<;>decide +kernel
 . refine⟨.num w a c a2 c2,rfl,?_,?_⟩
   . show ¬ w∈(["open","shut"]:AT);simp only[aBq,aBJ,aCg]at hw;rcases hw with rfl|rfl|rfl|rfl<;>decide +kernel
   . show(decide (w∈(["<","<=","=","!="]:AT))&&(Zq nb a c&&Zq nb a2 c2))=true;rw[aBH hw,adK ha hc,adK ha2 hc2];rfl
def au1(h:WyN nb nm w)(hs:0<=w.src/\w.src<nm):∃q:LkW,w.d=lwV q/\q.Ok nm nb/\q.src=w.src/\∀x∈q.dl,ddL x/\ddI nb x=true:=by
 obtain⟨al,ea,ha⟩:=Oj w.qs fun d hd=>au0 (h.q d hd);obtain⟨dl,ed,hd⟩:=Oj w.ds fun d hd=>apH (h.d d hd);refine⟨⟨w.src,w.sg,al,dl,w.tg,w.md⟩,?_,⟨W9 hs,⟨by have:=(kg h.s).2.1;show w.sg.length<=1000;omega,h.s⟩,?_,?_,ha⟩,rfl,hd⟩
 . show D.tup [_,_,.tup w.qs,.tup w.ds,_,_]=D.tup [_,_,.tup (al.map lkV),.tup (dl.map EI),_,_];rw[ea,ed]
 . show w.md∈(["new","near","far"]:AT);rcases h.t with⟨_,e⟩|⟨_,e⟩
   . rw[e];decide +kernel
   . exact e
 . show(w.tg=-1/\w.md="new")\/(w.tg ≠ -1/\MJ w.tg nm=true);rcases h.t with e|⟨e,_⟩
   . exact .inl e
   . exact .inr ⟨We,W9 e⟩
def akA(l:Ch)(h:∀x∈l,∀d∈x,J8 nb d):∃qs:List (List DdM),l.map D.tup=qs.map (fun l=>D.tup (l.map EI))/\qs.length=l.length/\∀x∈qs,∀q∈x,ddL q/\ddI nb q=true:=by
 obtain⟨qs,e,hq⟩:=Oj (f:=fun l:List DdM=>l.map EI) (P:=fun l=>∀q∈l,ddL q/\ddI nb q=true) l fun x hx=>Oj x fun d hd=>apH (h x hx d hd);refine⟨qs,?_,?_,hq⟩
 . rw[e,aBL];rfl
 . rw[e,aBp]
def afW(h:xh c):(T.lst c.V7).clean=true:=by
 rw[jA];unfold CH.V7;have go:∀l:CU,(∀i∈l,i<c.rows.length)->T.fZ (l.map fun i=>(c.rows.getD i (.bx "" 0)).fm c.bn c.ns ((i:Nat)+1:Int))=true:=fun l hl=>by
   induction l with
   | nil=>rfl
   | cons i l ih=>
     have hi:=hl i aBr;have hr:c.rows.getD i (.bx "" 0)∈c.rows:=by
       rw[aBs,aBC hi];exact aDf _
     rw[aBK,T.fZ,ih fun j hj=>hl j (aBt _ hj),V5 h.b.n h.n.n (rN h _ hr)];rfl
 exact go _ fun i hi=>aB5.mp hi
def an5(h:xh c):D.bY c.M4=true:=mh fun d hd=>by
 obtain⟨i,r,_,hr,_,rfl⟩:=x9 (F:=fun i r=>r.nf ((i:Nat)+1:Int)) hd;exact adw (rN h r hr)
def CH.mfs(c:CH):Ap:=c.M4.filter fun d=>decide ((bT d 2).toS∈fM)
def LR(h:xh c){g:D->T}{g':RW->T}(hg:∀i r,g (r.nf i)=g' r):T.lst ((c.mfs.filter fun _=>true).map g)=.lst ((List.range c.es.length).map fun m=>g' (c.md m)):=by
 rw[dJ];unfold CH.mfs;have:=E2 (p:=fun d=>decide ((bT d 2).toS∈fM)) (g:=g) (p':=RW.isM) (g':=g') c.rows (fun i r=>r.nf ((i:Nat)+1:Int)) (fun i r hr=>G5 (rN h r hr)) (fun i r _ _=>hg _ r);rw[ajF,aBL]at this;exact congrArg T.lst this
theorem LV(h:xh c)(hd:d∈c.mfs):∃(i:Int) (n:Nat) (k x:Str) (z:Int),d=.tup [.int i,.int (n:Nat),.str k,.tup [.str x,.int z]]:=by
 obtain⟨h1,h2⟩:=aCF.mp hd;obtain⟨i,r,_,hr,_,rfl⟩:=x9 (F:=fun i r=>r.nf ((i:Nat)+1:Int)) h1;have z:r.isM=true:=(G5 (rN h r hr))▸h2;cases r with
 | bx n k=>cases z
 | io n w d=>cases z
 | wy n w=>cases z
 | md n k x st y=>exact⟨_,n,k,x,y,rfl⟩
def aay{f:Int->α}(l:BB):(List.range l.length).map (fun m=>f (l.getD m 0))=l.map f:=by
 refine aCP fun i=>?_;rw[aBR,aBR];by_cases h:i<l.length
 . rw[aB9 h,aBC h];show some (f (l.getD i 0))=some (f l[i]);rw[aBs,aBC h];rfl
 . rw[aCs (by rw[aBO];omega),aCs Q.a];rfl
abbrev aaz:=top 77
abbrev aaA:=CH
abbrev akB:AT:=["text","forms","moods","kinds","elders","starts","chart"]
def FI:aaA->Ap:=fun c=>[.str c.text]
def FJ:aaA->Prop:=fun c=>xh c
def FL:aaA->T:=fun c=>(.ins "Chart" (qJ (c.bs.map tH) (c.ns.map .str) (.ins "Tree" (uN c.ks c.es c.ss)) (c.is.map .tup) (c.os.map .tup) (c.ws.map WY.d)):T)
structure asr(X:Cx)(CL:BA):Prop extends bB X where
 b6:Ln X 0 "text"
 fN:Ln X 1 "forms"
 iM:Ln X 2 "moods"
 pR:Ln X 3 "kinds"
 bR:Ln X 4 "elders"
 qm:Ln X 5 "starts"
 aB:Ln X 6 "chart"
 DX:Gl X "numbered"
 Ol:Gl X "formed"
 A6:Gl X "elders_of"
 Tw:Gl X "Chart"
 ZW:Gl X "Tree"
 yQ:Gl X "deeds_of"
 HS:Gl X "ways_of"
 Om:Gl X "looked"
 aaB:Fc X CL "numbered" 6 1 se sf sj
 akC:Fc X CL "formed" 8 1 yH yI yJ
 Xa:Fc X CL "elders_of" 1 1 qa lW qb
 Tz:Fm X CL "Chart" 1 7 tU tV tW
 ZX:Fm X CL "Tree" 1 4 v7 v8 v9
 Oo:Fc X CL "deeds_of" 1 2 sA sC sE
 afX:Fc X CL "ways_of" 1 1 vn vo vp
 akD:Fc X CL "looked" 6 1 yO ur yP
 jK:∃u,X.mg "WORD" = some (.int 2 u)
 dG:GT X "KINDS" ["leaf","one","all"]
 lR:∃u,X.mg "BLANKS" = some (.int 1 u)
 gA:∃u,X.mg "CONTENT" = some (.int 3 u)
def ass(E:asr X CL) :
   lA X CL b aaz akB FI FJ FL:=by
 intro c h;dsimp only [FJ,FI,FL]at h ⊢;have h:xh c:=h;have dI:=rN h;have hrl:=h.rl;have e0:=h.ok.e0;have e1:=h.ok.e1;have hlen:c.M4.length<=sizeLine:=by
   rw[CH.M4,aBp,aBO,aB8];omega
 have hnf:c.M4=idx (fun i r=>r.nf ((i:Nat)+1:Int)) c.rows:=rfl;have hfz:T.fj (.lst c.V7)=.lst c.fmD:=by
   rw[T.fj];congr 1;unfold CH.V7 CH.fmD;generalize List.range c.rows.length=l
   induction l with
   | nil=>rfl
   | cons i l ih=>rw[aBK,T.ni,ih,aBK]
 refine aD E.g E.fN (kM (d:=.lst c.M4) (c_ c E.aaB E.DX (ah (d:=.lst c.fmD) (ak (kM (c_ c E.akC E.Ol (ah (aq E.b6) av) h (afW h)) hfz)) av) h (b5 (an5 h))) (di _)) ?_;have hml:c.mfs.length<=sizeLine:=aCa (List.length_filter_le _ _) hlen;refine tF (p:=fun d=>decide ((bT d 2).toS∈fM)) (gg:=fun d=>.sh d) E.g E.iM (bC .nil Q.b) (cY (v_ E.fN.1)) (.inr rfl) (fun C s0 H0 f0 b' d hd=>?Nn) hlen ?xm (by exact aBu rfl) (jt ⟨_,rfl⟩)
 case Nn=>
   obtain⟨i,r,_,hr,_,rfl⟩:=x9 (F:=fun i r=>r.nf ((i:Nat)+1:Int)) hd;exact⟨(tE (ay (eN 0) (ak (aP (by exact E.jK) oZ)) oU) (ak (dP (by exact E.dG) oZ)) rfl).1,fun z=>v_ (arN 0)⟩
 case xm=>
 refine ain (i:=2) (d:=.lst c.mfs) rfl (di _) ?_;show gw X CL b _ [some (.sh (.str c.text)),some (.sh (.lst c.M4)),some (.sh (.lst c.mfs)),none,none,none,none] _;refine tF (p:=fun _=>true) (gg:=fun d=>.sh (bT d 2)) E.g E.pR (bC .nil Q.b) (cY (v_ E.iM.1)) (.inr rfl) (fun C s0 H0 f0 b' d hd=>?Np) hml ?Ao (by exact aBu rfl) (jt ⟨_,rfl⟩)
 case Np=>
   obtain⟨i,n,k,x,z,rfl⟩:=LV h hd;exact⟨rfl,fun _=>aG (ay (eN 0) (ak (aP (by exact E.jK) oZ)) oU) rfl⟩
 case Ao=>
 have ek:T.lst ((c.mfs.filter fun _=>true).map fun d=>T.sh (bT d 2))=.lst ((c.ks.map .str).map T.sh):=by
   rw[LR h (g':=fun r=>.sh (.str r.word)) (fun _ _=>rfl),aBL,← h.ok.kl];exact congrArg T.lst (G6 (f:=fun x=>T.sh (.str x)) c.ks)
 rw[ek];refine ain (i:=3) (d:=.lst (c.ks.map .str)) rfl (di _) ?_;refine aD E.g E.bR (kM (d:=.lst (c.es.map .int)) (c_ c.es E.Xa E.A6 (ah (d:=.lst ((G4 c.es).map .int)) (bZ (aF (jN (p:=fun _=>true) (g:=fun d=>.sh (bT d 1)) (bC .nil Q.b) E.g.calm (cY (v_ E.iM.1)) (.inr rfl) (fun C s0 H0 f0 b' d hd=>?aj8) hml) (t2:=.lst (((G4 c.es).map .int).map T.sh)) ?eq3)) av) (by dsimp only [lW];exact⟨h.pre,e1⟩) (b5 (j5 _))) (di _)) ?aj9
 case aj8=>
   obtain⟨i,n,k,x,z,rfl⟩:=LV h hd;exact⟨rfl,fun _=>aG (ay (eN 0) (ak (aP (by exact E.lR) oZ)) jX) rfl⟩
 case eq3=>
   rw[LR h (g':=fun r=>.sh (.int r.bl)) (fun _ _=>rfl),G4,aBL,aBL];rfl
 case aj9=>
 refine tF (p:=fun _=>true) (gg:=fun d=>.sh (bT (bT d 3) 1)) E.g E.qm (bC .nil Q.b) (cY (v_ E.iM.1)) (.inr rfl) (fun C s0 H0 f0 b' d hd=>?axX) hml ?aka (by exact aBu rfl) (jt ⟨_,rfl⟩)
 case axX=>
   obtain⟨i,n,k,x,z,rfl⟩:=LV h hd;exact⟨rfl,fun _=>aG (ay (ay (eN 0) (ak (aP (by exact E.gA) oZ)) Qj) ai jX) rfl⟩
 case aka=>
 have es:T.lst ((c.mfs.filter fun _=>true).map fun d=>T.sh (bT (bT d 3) 1))=.lst ((c.ss.map .int).map T.sh):=by
   rw[LR h (g':=fun r=>.sh (bT r.cn 1)) (fun _ _=>rfl),aBL,← h.ok.sl];exact congrArg T.lst (aay (f:=fun x=>T.sh (.int x)) c.ss)
 rw[es];refine ain (i:=5) (d:=.lst (c.ss.map .int)) rfl (di _) ?_;show gw X CL b _ [some (.sh (.str c.text)),some (.sh (.lst c.M4)),some (.sh (.lst c.mfs)),some (.sh (.lst (c.ks.map .str))),some (.sh (.lst (c.es.map .int))),some (.sh (.lst (c.ss.map .int))),none] _;have ib:=Wm c.bs;have ii:D.bY (c.is.map D.tup)=true:=BW h.ok.ow.ii;have io:D.bY (c.os.map D.tup)=true:=BW h.ok.ow.oo;have iw:D.bY (c.ws.map WY.d)=true:=SV h.ok.ow.ww;have hfc:T.fj (.ins "Chart" (qJ (c.bs.map tH) (c.ns.map .str) (.ins "Tree" (uN c.ks c.es c.ss)) (c.is.map .tup) (c.os.map .tup) (c.ws.map WY.d)))=c.d:=by
   rw[MD,QY];rfl
 refine aD E.g E.aB (mkP (f:="tree") (t:=.ins "Tree" (uN c.ks c.es c.ss)) (U3:=Dg (c.bs.map tH) (c.ns.map .str)) (fs2:=Dh (c.is.map .tup) (c.os.map .tup) (c.ws.map WY.d)) (fun v=>(c.bs.map tH,c.ns.map D.str,v,c.is.map D.tup,c.os.map D.tup,c.ws.map WY.d)) E.Tz E.Tw
   (EE (d:=.lst (c.bs.map tH)) (bZ (aF (jN (p:=fun d=>decide ((bT d 2).toS="box")) (g:=fun d=>.sh (bT d 3)) (bC .nil Q.b) E.g.calm (cY (v_ E.fN.1)) (.inr rfl) (fun C s0 H0 f0 b' d hd=>?axY) hlen) ?eq5))
     (EE (d:=.lst (c.ns.map .str)) (bZ (aF (jN (p:=fun _=>true) (g:=fun d=>.sh (bT (bT d 3) 0)) (bC .nil Q.b) E.g.calm (cY (v_ E.iM.1)) (.inr rfl) (fun C s0 H0 f0 b' d hd=>?axZ) hml) ?eq6))
       (VG (aF (mk_ (c.ks,c.es,c.ss) E.ZX E.ZW (ah (aq E.pR) (ah (aq E.bR) (ah (aq E.qm) av))) trivial (z7 _ _ _)) rfl)
         (ah (d:=.lst (c.is.map .tup)) (bZ (aF (c_ (c,true) E.Oo E.yQ (ah (aq E.fN) (ah az av)) h (b5 ii)) rfl))
           (ah (d:=.lst (c.os.map .tup)) (bZ (aF (c_ (c,false) E.Oo E.yQ (ah (aq E.fN) (ah az av)) h (b5 io)) rfl))
             (ah (d:=.lst (c.ws.map WY.d)) (bZ (c_ c E.afX E.HS (ah (aq E.fN) av) h (b5 iw))) av))))))
   (fun v=>rfl) (fun v=>⟨ib,j6 _,ii,io,iw⟩) (fun v=>rfl) (EF ib (j6 _)) (EG ii io iw)) ?au2
 case axY=>
   obtain⟨i,r,_,hr,_,rfl⟩:=x9 (F:=fun i r=>r.nf ((i:Nat)+1:Int)) hd;exact⟨(bI (ay (eN 0) (ak (aP (by exact E.jK) oZ)) oU) az).1,fun z=>aG (ay (eN 0) (ak (aP (by exact E.gA) oZ)) Qj) (B3 (dI r hr))⟩
 case eq5=>
   rw[hnf,E2 (p:=fun d=>decide ((bT d 2).toS="box")) (g:=fun d=>T.sh (bT d 3)) (p':=RW.isB) (g':=fun r=>.sh r.cn) c.rows (fun i r=>r.nf ((i:Nat)+1:Int)) (fun i r hr=>ZI (dI r hr)) (fun _ _ _ _=>rfl),ajE];unfold CH.br;rw[aBL,aBL];rfl
 case axZ=>
   obtain⟨i,n,k,x,z,rfl⟩:=LV h hd;exact⟨rfl,fun _=>aG (ay (ay (eN 0) (ak (aP (by exact E.gA) oZ)) Qj) ai iK) rfl⟩
 case eq6=>
   rw[LR h (g':=fun r=>.sh (bT r.cn 0)) (fun _ _=>rfl),aBL,← h.ok.nl];exact congrArg T.lst (G6 (f:=fun x=>T.sh (.str x)) c.ns)
 case au2=>
 have hbl:c.bn.length=c.bs.length:=aBp ..;have hnl:=h.ok.nl;obtain⟨qi,ei,li,hi⟩:=akA c.is h.is;obtain⟨qo,eo,lo,ho⟩:=akA c.os h.os;have hws:∃qs:List LkW,c.ws.map WY.d=qs.map lwV/\qs.map (·.src)=c.ws.map (·.src)/\(∀q∈qs,q.Ok c.ns.length c.bn.length)/\∀q∈qs,∀x∈q.dl,ddL x/\ddI c.bn.length x=true:=by
   have hs:∀w∈c.ws,0<=w.src/\w.src<c.ns.length:=fun w hw=>by
     have s1:=(h.ok.ow.ww w hw).sr.1;have s2:w.src<(c.is.length:Int):=(h.ok.ow.ww w hw).sr.2;have:=h.ok.il;omega
   have hw:=h.wn;generalize c.ws=l at hs hw
   induction l with
   | nil=>exact⟨[],rfl,rfl,fun q hq=>by(cases hq),fun q hq=>by(cases hq)⟩
   | cons w l ih=>
     obtain⟨q,a1,a2,a3,a4⟩:=au1 (hw w aBr) (hs w aBr);obtain⟨qs,b1,b2,b3,b4⟩:=ih (fun x hx=>hs x (aBt _ hx)) (fun x hx=>hw x (aBt _ hx));refine⟨q::qs,by rw[aBK,aBK,a1,b1],by rw[aBK,aBK,a3,b2],fun x hx=>?_,fun x hx=>?_⟩
     . rcases aBq.mp hx with rfl|hx
       . exact a2
       . exact b3 x hx
     . rcases aBq.mp hx with rfl|hx
       . exact a4
       . exact b4 x hx
 obtain⟨qw,e_w,sw,hw1,hw2⟩:=hws;have uG:c.d=j7 (c.bs.map bxV) (c.ns.map .str) (nE c.ks c.es c.ss) (qi.map fun l=>D.tup (l.map EI)) (qo.map fun l=>D.tup (l.map EI)) (qw.map lwV):=by
   unfold CH.d;rw[ei,eo,e_w];rfl
 refine Lq (c_ (c.bs,c.ns,c.ks,c.es,c.ss,qi,qo,qw) E.akD E.Om (ah (vE E.aB.1 rfl (hfc.trans uG)) av) ?pre rfl).m ?au3
 case pre=>
   dsimp only [ur];have il:=h.ok.il;have ol:=h.ok.ow.n2;have wl:=h.ok.ow.wl;have el:qw.length=c.ws.length:=by
     have:=congrArg List.length sw
     rwa [aBp,aBp]at this
   refine⟨⟨⟨h.pre,e0,We,h.deep,h.ok.kl,h.ok.sl,h.kinds,h.starts⟩,hnl,We⟩,⟨fun x hx=>⟨?_,h.n.n x hx⟩,h.n.d⟩,⟨fun q hq=>⟨⟨?_,?_⟩,apG (h.ok.bk q hq).2⟩,h.b.d,by have:=h.ok.b3;omega⟩,⟨by rw[li,hnl,il],by rw[lo,hnl];exact ol.trans il,?_,?_⟩,?_,?_⟩
   . have:=(kg (h.n.n x hx)).2.1;omega
   . have:=(h.ok.bk q hq).1;omega
   . exact h.b.n _ (aBI.mpr ⟨q,hq,rfl⟩)
   . rw[el];exact aCa wl Q.c
   . intro l hl q hq;rw[← hbl];rcases aBy.mp hl with hl|hl
     . rcases aBy.mp hl with hl|hl
       . exact hi l hl q hq
       . exact ho l hl q hq
     . obtain⟨v,hv,rfl⟩:=aBI.mp hl;exact hw2 v hv q hq
   . intro q hq;rw[← hbl];exact hw1 q hq
   . have a:(qw.map (·.src)).Pairwise (· <= ·):=by
       rw[sw];exact aEg.mpr h.ws
     exact aEg.mp a
 case au3=>
 exact aH (vM E.aB.1) rfl
def iU:FG akB ["text"] ["numbered","formed","elders_of","Chart","Tree","deeds_of","ways_of","looked"] (au aaz):=fG
abbrev Ue:=top 106
abbrev Ug:=D
abbrev adL:AT:=["found","due","k"]
def xE:Ug->Ap:=fun d=>[d,d]
def pK(dd:Nat):Ug->Prop:=fun d=>Sm dd d
def xF:Ug->T:=fun d=>(.sh (.bl true):T)
structure an7(X:Cx)(CL:BA)(dd:Nat):Prop extends bB X where
 aX:Ln X 0 "found"
 ng:Ln X 1 "due"
 l_k:Ln X 2 "k"
 bN:Gl X "isinstance"
 dS:Gl X "list"
 nT:Gl X "tuple"
 bf:Gl X "len"
 jO:Gl X "range"
 sF:Gl X "_law_alike"
 g_bool:Gl X "bool"
 bO:X.mg "isinstance" = none
 dU:X.mg "list" = none
 kW:X.mg "tuple" = none
 bq:X.mg "len" = none
 jP:X.mg "range" = none
 LW:∀d',d'<dd->Fc X CL "_law_alike" (1+d') 2 xE (pK d') xF
 akE:X.mg "bool" = none
def an8{dd:Nat}(E:an7 X CL dd) :
   lA X CL b Ue adL xE (pK dd) xF:=by
 intro d h;dsimp only [pK,xE,xF]at h ⊢;cases d with
 | int i=>
   refine aS (jg (j0 (f6 (isL E.bO E.dU E.bN E.dS (aq E.ng))) (fun _=>jZ (f6 (isT E.bO E.kW E.bN E.nT (aq E.ng)))))) (fun hp=>absurd hp Q.c) (fun _=>aj ?_);refine aH (lE (ahI (isB E.bO E.akE E.bN E.g_bool (aq E.aX))) (fun hb=>(mD (cg (aq E.aX) (aq E.ng)).2))) ?_;simp
 | str i=>
   refine aS (jg (j0 (f6 (isL E.bO E.dU E.bN E.dS (aq E.ng))) (fun _=>jZ (f6 (isT E.bO E.kW E.bN E.nT (aq E.ng)))))) (fun hp=>absurd hp Q.c) (fun _=>aj ?_);refine aH (lE (ahI (isB E.bO E.akE E.bN E.g_bool (aq E.aX))) (fun hb=>(mD (bI (aq E.aX) (aq E.ng)).2))) ?_;simp
 | lst ds=>
   obtain⟨n,rfl⟩:∃n,dd=n+1:=by
     cases dd with
     | zero=>exact absurd h (by intro z;cases z)
     | succ n=>exact⟨n,rfl⟩
   obtain⟨hl,hd⟩:ds.length<=1000/\∀d∈ds,Sm n d:=h;refine aS (jg (j0 (f6 (isL E.bO E.dU E.bN E.dS (aq E.ng))) (fun _=>jZ (f6 (isT E.bO E.kW E.bN E.nT (aq E.ng)))))) (fun hp=>?_) (fun hp=>absurd hp Q.c);refine aS (jg (j0 (Sg (ak (isL E.bO E.dU E.bN E.dS (aq E.aX))) (ak (isL E.bO E.dU E.bN E.dS (aq E.ng)))).1 (fun _=>jZ (Sg (ak (isT E.bO E.kW E.bN E.nT (aq E.aX))) (ak (isT E.bO E.kW E.bN E.nT (aq E.ng)))).1))) (fun hp=>absurd hp Q.c) (fun _=>aj ?_);refine aS (lC (ak (Ez E.bq (aq E.aX) E.bf)) (ak (Ez E.bq (aq E.ng) E.bf))).1 (fun hp=>by simp at hp) (fun _=>aj ?_);refine j4 E.g E.l_k (fun j δ=>∃o,δ=[some (.sh (.lst ds)),some (.sh (.lst ds)),o])
     (tD E.jP (ak (Ez E.bq (aq E.ng) E.bf)) Q.a E.jO) ⟨_,rfl⟩ (fun j δ ⟨_,e⟩=>by subst e;exact aBu rfl) ?turn ?fin
   case turn=>
     rintro j d δ hj ⟨o,rfl⟩;obtain⟨rfl,E3⟩:=wV hj;have E3:j<ds.length:=by omega
     rw[aDH];refine aS (iC (f6 (c_ ds[j] (E.LW n Q.a) E.sF (ah (aI (aq E.aX) (aq E.l_k) (SK E3)) (ah (aI (aq E.ng) (aq E.l_k) (SK E3)) av)) (by dsimp only [pK];exact hd _ (List.getElem_mem _)) rfl))) (fun hp=>by cases hp) (fun _=>aj (aj ⟨_,rfl⟩))
   case fin=>
     rintro δ ⟨o,rfl⟩;exact aH rG rfl
 | tup ds=>
   obtain⟨n,rfl⟩:∃n,dd=n+1:=by
     cases dd with
     | zero=>exact absurd h (by intro z;cases z)
     | succ n=>exact⟨n,rfl⟩
   obtain⟨hl,hd⟩:ds.length<=1000/\∀d∈ds,Sm n d:=h;refine aS (jg (j0 (f6 (isL E.bO E.dU E.bN E.dS (aq E.ng))) (fun _=>jZ (f6 (isT E.bO E.kW E.bN E.nT (aq E.ng)))))) (fun hp=>?_) (fun hp=>absurd hp Q.c);refine aS (jg (j0 (Sg (ak (isL E.bO E.dU E.bN E.dS (aq E.aX))) (ak (isL E.bO E.dU E.bN E.dS (aq E.ng)))).1 (fun _=>jZ (Sg (ak (isT E.bO E.kW E.bN E.nT (aq E.aX))) (ak (isT E.bO E.kW E.bN E.nT (aq E.ng)))).1))) (fun hp=>absurd hp Q.c) (fun _=>aj ?_);refine aS (lC (ak (R8 E.bq (aq E.aX) E.bf)) (ak (R8 E.bq (aq E.ng) E.bf))).1 (fun hp=>by simp at hp) (fun _=>aj ?_);refine j4 E.g E.l_k (fun j δ=>∃o,δ=[some (.sh (.tup ds)),some (.sh (.tup ds)),o])
     (tD E.jP (ak (R8 E.bq (aq E.ng) E.bf)) Q.a E.jO) ⟨_,rfl⟩ (fun j δ ⟨_,e⟩=>by subst e;exact aBu rfl) ?turn ?fin
   case turn=>
     rintro j d δ hj ⟨o,rfl⟩;obtain⟨rfl,E3⟩:=wV hj;have E3:j<ds.length:=by omega
     rw[aDH];refine aS (iC (f6 (c_ ds[j] (E.LW n Q.a) E.sF (ah (ay (aq E.aX) (aq E.l_k) (SK E3)) (ah (ay (aq E.ng) (aq E.l_k) (SK E3)) av)) (by dsimp only [pK];exact hd _ (List.getElem_mem _)) rfl))) (fun hp=>by cases hp) (fun _=>aj (aj ⟨_,rfl⟩))
   case fin=>
     rintro δ ⟨o,rfl⟩;exact aH rG rfl
 | non=>exact absurd h (by intro z;cases dd<;>cases z)
 | bl _=>exact absurd h (by intro z;cases dd<;>cases z)
 | ins _ _=>exact absurd h (by intro z;cases dd<;>cases z)
 | any=>exact absurd h (by intro z;cases dd<;>cases z)
 | mz _=>exact absurd h (by intro z;cases dd<;>cases z)
 | dct _=>exact absurd h (by intro z;cases dd<;>cases z)
 | val _=>exact absurd h (by intro z;cases dd<;>cases z)
 | Lj _ _ _=>exact absurd h (by intro z;cases dd<;>cases z)
def jz:FG adL ["found","due"] ["isinstance","list","tuple","len","range","_law_alike","bool"] (au Ue):=fG
abbrev s_same:=top 107
abbrev aaC:=Ap×AT×AT×BB×BB×Ap×Ap×Ap
abbrev akF:AT:=["chart","parts","tree","found"]
def FN:aaC->Ap:=fun(bs,ns,ks,es,ss,is,os,ws)=>[j7 bs (ns.map .str) (nE ks es ss) is os ws,Dl bs ns ks es ss is os ws]
def FP:aaC->Prop:=fun(bs,ns,ks,es,ss,is,os,ws)=>Sm 8 (Dl bs ns ks es ss is os ws)
def FQ:aaC->T:=fun(bs,ns,ks,es,ss,is,os,ws)=>(.sh (.bl true):T)
structure asu(X:Cx)(CL:BA):Prop extends bB X where
 aB:Ln X 0 "chart"
 bL:Ln X 1 "parts"
 cG:Ln X 2 "tree"
 aX:Ln X 3 "found"
 sF:Gl X "_law_alike"
 LW:Fc X CL "_law_alike" 9 2 xE (pK 8) xF
 aL:xM X.K (CL "Chart")
 cZ:xM X.K (CL "Tree")
 ef:aO X.K (CL "Chart") "tree"
 bQ:aO X.K (CL "Chart") "boxes"
 aV:aO X.K (CL "Chart") "names"
 c5:aO X.K (CL "Tree") "kinds"
 bH:aO X.K (CL "Tree") "elders"
 d9:aO X.K (CL "Tree") "starts"
 fS:aO X.K (CL "Chart") "ins"
 gJ:aO X.K (CL "Chart") "outs"
 dD:aO X.K (CL "Chart") "ways"
def asv(E:asu X CL) :
   lA X CL b s_same akF FN FP FQ:=by
 rintro⟨bs,ns,ks,es,ss,is,os,ws⟩ h;dsimp only [FP,FN,FQ]at h ⊢;refine aD E.g E.cG (jG E.aL E.ef (v_ E.aB.1) tG) ?_;refine aD E.g E.aX (aF (acN (ao (jG E.aL E.bQ (v_ E.aB.1) j8) (ao (jG E.aL E.aV (v_ E.aB.1) eO) (ao (jG E.cZ E.c5 (v_ E.cG.1) pe) (ao (jG E.cZ E.bH (v_ E.cG.1) fP) (ao (jG E.cZ E.d9 (v_ E.cG.1) uM)
   (ao (jG E.aL E.fS (v_ E.aB.1) BQ) (ao (jG E.aL E.gJ (v_ E.aB.1) xW) (ao (jG E.aL E.dD (v_ E.aB.1) xX) aZ))))))))) (t2:=.sh (Dl bs ns ks es ss is os ws)) rfl) ?_
 exact aH (c_ (Dl bs ns ks es ss is os ws) E.LW E.sF (ah (aq E.aX) (ah (aq E.bL) av)) h rfl) rfl
def Ce:FG akF ["chart","parts"] ["_law_alike"] (au s_same):=fG
def chP(s:BB):CH:=⟨zJ s,nmP s,iD (cB s) (Hq s) (cB s).length,cB s,iE (cB s) (Hq s) (cB s).length,(U5 s).is,(U5 s).os,(U5 s).ws⟩
theorem Uh(nb nm:Nat)(ns:AT):∀(l:CC) (o:OW),(l.foldl (qg nb nm ns) o).is.length=o.is.length+vW l
 | [],o=>rfl
 | p::r,o=>by
   have e:(qg nb nm ns o p).is.length=o.is.length+(if p.1 % 8<3 then 1 else 0):=by
     unfold qg;split
     . show(o.is++[[]]).length=_;rw[aBz,aBV]
     split
     . show(oW o.is _).length=_;rw[oW,aCU];rfl
     split
     . rfl
     split
     . rfl
     split<;>rfl
   rw[aCf,Uh nb nm ns r,e,vW];omega
def A7(es cs:BB)(h:m<n):(iD es cs n).getD m Str.empty=kindB es cs m/\(iE es cs n).getD m 0=w4 es cs m:=by
 unfold iD iE;rw[aBs,aBs,aBR,aBR,aB9 h];exact⟨rfl,rfl⟩
def asw(s:BB):nF (chP s):=by
 obtain⟨e0,e1,e2⟩:=tS s;refine⟨Tr s,Dj _ _ _,Dk _ _ _,?_,e0,e1,(SJ (qq s)).1,asn s,Ni s,fun p hp=>⟨anM s p hp,?_⟩,fun x hx=>?_,fun m hm=>?_,ZP s⟩
 . show(U5 s).is.length=(aiF (qq s)).length;rw[(SJ (qq s)).2];exact Uh _ _ _ (qq s) ow0
 . obtain⟨k,_,rfl⟩:=aBI.mp hp;exact aiK _
 . obtain⟨k,_,rfl⟩:=aBI.mp hx;unfold kindB;split
   . decide +kernel
   split<;>decide +kernel
 . show((iD (cB s) (Hq s) (cB s).length).getD m Str.empty="one"->0<=(iE (cB s) (Hq s) (cB s).length).getD m 0/\(iE (cB s) (Hq s) (cB s).length).getD m 0<(cB s).length)/\((iD (cB s) (Hq s) (cB s).length).getD m Str.empty≠"one"->(iE (cB s) (Hq s) (cB s).length).getD m 0=-1);have hm:m<(cB s).length:=hm;rw[(A7 _ _ hm).1,(A7 _ _ hm).2];generalize cB s=es at hm ⊢;generalize Hq s=cs;unfold kindB w4;split
   . exact⟨fun z=>absurd z Q.b,fun _=>rfl⟩
   split
   . exact⟨fun z=>absurd z Q.b,fun _=>rfl⟩
   . rename_i hz _;refine⟨fun _=>?_,fun z=>absurd rfl z⟩;have M8:0<(BP es m).length:=aCJ.mpr hz;have b1:=aB2 (cs.getD m 0 / 2) (b:=((BP es m).length:Nat)) Q.a;have b2:=aBZ (cs.getD m 0 / 2) (b:=((BP es m).length:Nat)) Q.a;have:=ac0 (getD_mem (l:=BP es m) (n:=(cs.getD m 0 / 2 % ((BP es m).length:Nat)).toNat) Q.a);exact⟨this.1,this.2.1⟩
def afY{m:Int}(h0:0<=m)(h1:m+us.length+20<26*131621703842267136):oV m us∉us:=by
 have hn:=VY h0 h1;unfold oV at hn ⊢;split
 . rename_i j e;have h2:=(aD3.mp e).1;unfold okB at h2;simp only[aB6,aCB,aC1]at h2;exact h2.1
 . rename_i e;rw[e]at hn;exact absurd (show dN "" = true from hn) Q.b
theorem Xb{c sp:Int}(h0:0<=c)(h1:c<26*3656158440062976)(s0:0<=sp)(s1:sp<=1213056):∀n:Nat,n<=100->Q8 (z8 c sp n)
 | 0,_=>⟨fun x hx=>(by cases hx),.nil⟩
 | n+1,hn=>by
   obtain⟨a,d⟩:=Xb h0 h1 s0 s1 n Q.a;have hk:0<=(n:Int)*sp/\(n:Int)*sp<=100*1213056:=⟨Int.mul_nonneg Q.a s0,Int.mul_le_mul Q.a s1 s0 Q.c⟩;have hl:=EJ c sp n;have b1:0<=c+n*sp:=by omega
   have b2:c+n*sp+(z8 c sp n).length+20<26*131621703842267136:=by omega
   rw[z8];refine⟨fun x hx=>?_,?_⟩
   . rcases aBy.mp hx with hx|hx
     . exact a x hx
     . cases aBB.mp hx;exact VY b1 b2
   . rw[aCw];refine⟨d,aCu.mpr ⟨fun z=>by(cases z),.nil⟩,fun x hx y hy e=>?_⟩;cases aBB.mp hy;exact afY b1 b2 (e▸hx)
def FT(s:BB):Q8 (An s):=by
 have b0:=aB2 (ju s 0) (show(26*36 ^ (10:Int).toNat:Int)≠0 by decide +kernel);have b1:=aBZ (ju s 0) (show(0:Int)<26*36 ^ (10:Int).toNat by decide +kernel);have b2:(26*36 ^ (10:Int).toNat:Int)<=26*3656158440062976:=Q.f;have st:=VN s;have el:=(tS s).2.1;unfold An anj;exact Xb b0 Q.a st.1 st.2 _ Q.a
def adN(s:BB):Q8 (nmP s):=⟨fun x hx=>(FT s).n x (aDK hx),(FT s).d.sublist (List.take_sublist _ _)⟩
def an9(s:BB):Q8 ((zJ s).map (·.1)):=by
 have h:=FT s;have hl:=E4 s;have e0:=(tS s).1;have a:=aB2 (hdM s) (show(4:Int)≠0 by decide);have d:=aBZ (hdM s) (show(0:Int)<4 by decide);have e:(zJ s).map (·.1)=(An s).take (hdM s % 4).toNat:=by
   unfold zJ;rw[aBL];refine aCP fun i=>?_;rw[aBR];by_cases hi:i<(hdM s % 4).toNat
   . rw[aB9 hi,aDX hi,aBC Q.a];show some ((An s).getD (0+(i:Int)).toNat Str.empty)=_;rw[show(0+(i:Int)).toNat=i by omega,aBs,aBC Q.a];rfl
   . rw[aCs (by rw[aBO];omega),aCs (by rw[aCe];omega)];rfl
 rw[e];exact⟨fun x hx=>h.n x (aDK hx),h.d.sublist (List.take_sublist _ _)⟩
def akG(p:Int×Int)(h:uO es)(h0:0<es.length)(hd:∀m:Int,0<=m->m<es.length->(eY es m).length<=12):uO (tK es p)/\0<(tK es p).length/\∀m:Int,0<=m->m<(tK es p).length->(eY (tK es p) m).length<=12:=by
 unfold tK;split
 . obtain⟨k,hk⟩:∃k,k+1=es.length:=⟨es.length-1,We⟩;rw[show es.length-1=k by omega];obtain⟨r1,_,_⟩:=z9 (k:=k) h.1 hk;have b1:=aB2 (p.1 / 8) (b:=((cI es k).length:Nat)) Q.a;have b2:=aBZ (p.1 / 8) (b:=((cI es k).length:Nat)) Q.a;have hx:=getD_mem (l:=cI es k) (n:=(p.1 / 8 % ((cI es k).length:Nat)).toNat) Q.a;generalize (cI es k).getD (p.1 / 8 % ((cI es k).length:Nat)).toNat 0=x at hx;have hdk:=hd (k:Int) Q.a Q.a;have hx2:(x=k\/x∈eY es k)/\(eY es x).length<=11:=by
     have hin:x∈eY es k->(eY es x).length+1<=(eY es k).length:=fun z=>by
       obtain⟨pre,ep,_⟩:=BL h.1 (k+1) (m:=(k:Int)) Q.a Q.a Q.a z;rw[ep,aBz,aBP];omega
     unfold cI at hx;split at hx
     . have e:cutD ([(k:Int)]++eY es k) (some 1) none=eY es k:=by
         generalize eY es k=l;unfold cutD;have h1:HT.jF ([(k:Int)]++l).length 0 (some 1)=1:=by
           unfold HT.jF;simp
         have h2:HT.jF ([(k:Int)]++l).length ([(k:Int)]++l).length none=([(k:Int)]++l).length:=rfl;rw[h1,h2];simp
       rw[e]at hx;have:=hin hx;exact⟨.inr hx,We⟩
     . rename_i h12;rw[aBz,aBV]at h12;rcases aBy.mp hx with hx|hx
       . have:x=k:=aBB.mp hx;subst this;exact⟨.inl rfl,We⟩
       . have:=hin hx;exact⟨.inr hx,We⟩
   have hp:=h.snoc hk hx2.1;have hx0:0<=x/\x<es.length:=by
     rcases hx2.1 with e|e
     . omega
     . have:=Ls h.1 (m:=(k:Int)) Q.a Q.a e;omega
   refine⟨hp,by rw[aBz];omega,fun m m0 m1=>?_⟩;rw[aBz,aBV]at m1;by_cases hm:m<es.length
   . rw[Sz h.1 m0 hm];exact hd m m0 hm
   . have em:m=(es.length:Int):=by omega
     subst em;have e:=MB hp.1 (m:=(es.length:Int)) Q.a (by rw[aBz,aBV];omega);have e2:(es++[x]).getD ((es.length:Int)).toNat 0=x:=by
       rw[aCl,aBs,aCA (aBD _),aDl];rfl
     rw[e2,aBx Q.a,Sz h.1 hx0.1 hx0.2]at e;rw[e,aBP];have:=hx2.2;omega
 . exact⟨h,h0,hd⟩
theorem Xc:∀(l:CC) (es:BB),uO es->0<es.length->(∀m:Int,0<=m->m<es.length->(eY es m).length<=12)->uO (l.foldl tK es)/\∀m:Int,0<=m->m<(l.foldl tK es).length->(eY (l.foldl tK es) m).length<=12
 | [],es,h,_,hd=>⟨h,hd⟩
 | p::r,es,h,h0,hd=>by
   obtain⟨a,c,d⟩:=akG p h h0 hd;exact Xc r (tK es p) a c d
structure OwN(nb:Nat)(o:OW):Prop where
 ii:∀l∈o.is,∀d∈l,J8 nb d
 oo:∀l∈o.os,∀d∈l,J8 nb d
 wd:∀w∈o.ws,dN w.sg=true/\∀d∈w.ds,J8 nb d
 ss:o.ws.Pairwise fun a c=>a.src<=c.src
 sl:∀w∈o.ws,w.src<=(o.is.length:Int)-1
def aoa(a c:Int)(nb:Nat)(h:uF ns)(hl:0<ns.length):J8 nb (rJ a c nb ns):=by
 have b1:=aB2 c (b:=(ns.length:Int)) Q.a;have b2:=aBZ c (b:=(ns.length:Int)) Q.a;unfold rJ;split
 . exact .inl ⟨_,rfl,kh h b1 b2⟩
 split
 . rename_i hb;exact .inr (.inl ⟨_,_,rfl,⟨aB2 _ Q.a,aBZ _ Q.a⟩,BV _ _ _⟩)
 . exact .inr (.inr ⟨_,_,rfl,kh h b1 b2,BV _ _ _⟩)
theorem adO{l:Ch}(h:∀x∈l,∀d∈x,J8 nb d)(hd:J8 nb d):∀x∈oW l d,∀d∈x,J8 nb d:=fun x hx y hy=>by
 rcases aCX hx with hx|rfl
 . exact h x hx y hy
 . rcases aBy.mp hy with hy|hy
   . rw[aBs]at hy;cases e:l[l.length-1]? with
     | none=>rw[e]at hy;cases hy
     | some z=>rw[e]at hy;exact h z (aBQ e) y hy
   . cases aBB.mp hy;exact hd
def asx{o:OW}(p:Int×Int)(hn:uF ns)(hl:0<ns.length)(h0:0<o.is.length)(h:OwN nb o):OwN nb (qg nb nm ns o p):=by
 obtain⟨ii,oo,wd,ss,sl⟩:=h;have dd:=aoa p.1 p.2 nb hn hl;have au4:o.ws≠[]->iV o.ws∈o.ws:=fun hz=>rM wy0 (aCJ.mpr hz);have au5:∀(w:WY),o.ws≠[]->w.src=(iV o.ws).src->(o.ws.set (o.ws.length-1) w).Pairwise (fun a c=>a.src<=c.src):=fun w hz hw=>by
   have e:(o.ws.set (o.ws.length-1) w).map (·.src)=o.ws.map (·.src):=by
     rw[aDF];refine aCP fun i=>?_;by_cases hi:i=o.ws.length-1
     . subst hi;have hp:=aCJ.mpr hz;rw[List.getElem?_set_self (by rw[aBp];omega),aBR,aBC Q.a,hw];unfold iV;rw[aBs,aBC Q.a];rfl
     . rw[List.getElem?_set_ne (fun z=>hi z.symm)]
   exact aEg.mp (e▸aEg.mpr ss)
 have aeE:∀{w:WY} {P:WY->Prop},(∀x∈o.ws,P x)->P w->∀x∈o.ws.set (o.ws.length-1) w,P x:=fun ha hb x hx=>by
   rcases aCX hx with hx|rfl
   . exact ha x hx
   . exact hb
 unfold qg;split
 . refine⟨fun l hl=>?_,fun l hl=>?_,wd,ss,fun w hw=>?_⟩
   . rcases aBy.mp hl with hl|hl
     . exact ii l hl
     . cases aBB.mp hl;exact fun d hd=>by cases hd
   . rcases aBy.mp hl with hl|hl
     . exact oo l hl
     . cases aBB.mp hl;exact fun d hd=>by cases hd
   . have:=sl w hw;show w.src<=((o.is++[[]]).length:Int)-1;rw[aBz];omega
 split
 . refine⟨adO ii dd,oo,wd,ss,fun w hw=>?_⟩;show w.src<=((oW o.is _).length:Int)-1;rw[oW,aCU];exact sl w hw
 split
 . exact⟨ii,adO oo dd,wd,ss,sl⟩
 split
 . have b1:=aB2 (p.1 / 24) (b:=(ns.length:Int)) Q.a;have b2:=aBZ (p.1 / 24) (b:=(ns.length:Int)) Q.a;refine⟨ii,oo,fun w hw=>?_,?_,fun w hw=>?_⟩
   . rcases aBy.mp hw with hw|hw
     . exact wd w hw
     . cases aBB.mp hw;exact⟨kh hn b1 b2,fun d hd=>by cases hd⟩
   . rw[List.pairwise_append];refine⟨ss,List.pairwise_singleton _ _,fun a ha c hc=>?_⟩;cases aBB.mp hc;exact sl a ha
   . rcases aBy.mp hw with hw|hw
     . exact sl w hw
     . cases aBB.mp hw;exact Int.le_refl _
 rename_i hz;have hw0:o.ws≠[]:=fun z=>hz (.inr (.inl z));have hlw:=au4 hw0;split
 . exact⟨ii,oo,aeE wd (show dN (iV o.ws).sg=true/\∀d∈(iV o.ws).ds,J8 nb d from wd (iV o.ws) hlw),au5 _ hw0 rfl,aeE sl (show(iV o.ws).src<=_ from sl (iV o.ws) hlw)⟩
 . refine⟨ii,oo,aeE wd ⟨(wd _ hlw).1,fun d hd=>?_⟩,au5 _ hw0 rfl,aeE sl (show(iV o.ws).src<=_ from sl (iV o.ws) hlw)⟩;rcases aBy.mp hd with hd|hd
   . exact(wd _ hlw).2 d hd
   . cases aBB.mp hd;exact dd
theorem apI{nb nm:Nat}{ns:AT}(hn:uF ns)(hl:0<ns.length):∀(l:CC) (o:OW),0<o.is.length->OwN nb o->OwN nb (l.foldl (qg nb nm ns) o)
 | [],o,_,h=>h
 | p::r,o,h0,h=>by
   refine apI hn hl r _ ?_ (asx (nm:=nm) p hn hl h0 h);have:=Uh nb nm ns [p] o;rw[aCf,List.foldl_nil]at this;omega
def au6(nb:Nat):OwN nb ow0:=by
 refine⟨fun l hl d hd=>?_,fun l hl d hd=>?_,fun w hw=>?_,.nil,fun w hw=>?_⟩
 . cases aBB.mp hl;cases hd
 . cases aBB.mp hl;cases hd
 . cases hw
 . cases hw
def aob:uO [-1]:=⟨MK,fun k hk=>by
 have:k+1<1:=hk;omega⟩
def akH:∀m:Int,0<=m->m<([-1]:BB).length->(eY [-1] m).length<=12:=fun m h0 h1=>by
 have h1:m<1:=h1;have:m=0:=by omega
 subst this;decide +kernel
def apJ:BP es m=[]↔(m:Int)∉es:=by
 unfold BP;rw[aDt,aDk];constructor
 . intro h z;obtain⟨i,hi⟩:=List.getElem?_of_mem z;have hl:=(aB4.mp hi).1;exact h i (aB5.mpr hl) (aBH (by rw[aBs,hi];rfl))
 . intro h i hi z;have hi:=aB5.mp hi;have z:=aBv z;rw[aBs,aBC hi]at z;exact h (z▸aDf hi)
theorem Xd:∀(l:AT),(Str.join "\n" l).length<=(l.map (·.length)).sum+l.length
 | []=>aB0 _
 | [a]=>by
   show a.length<=a.length+0+1;omega
 | a::c::l=>by
   have h:=Xd (c::l);have e:("\n":Str).length=1:=rfl;rw[xg,str_len,str_len,e,aBK,List.sum_cons,aBP];omega
def asy(s:BB):xh (chP s):=by
 have hc:=asw s;obtain⟨e0,e1,e2⟩:=tS s;have hn:=FT s;have hnl:=E4 s;obtain⟨pre,deep⟩:=Xc (qq s) [-1] aob (Nat.succ_pos _) akH;have ow:OwN (zJ s).length (U5 s):=apI (nm:=(cB s).length) hn.n Q.a (qq s) ow0 (Nat.succ_pos _) (au6 _);have hb:((chP s).bn).length=(zJ s).length:=aBp ..;have hns:(chP s).ns.length=(cB s).length:=Tr s;have hnm:uF (chP s).ns:=(adN s).n;have ht:(chP s).rows.length<=4964:=by
   have:=DF hc (chP s).es.length;rw[all_rows hc hnm,aBp]at this;have:(chP s).es.length<=41:=e1;omega
 refine⟨hc,adN s,an9 s,pre,deep,fun m hm=>?_,fun m hm=>?_,fun l hl d hd=>hb▸ow.ii l hl d hd,fun l hl d hd=>hb▸ow.oo l hl d hd,fun w hw=>?_,ow.ss,?_,ht⟩
 . have hm:m<(cB s).length:=hm;show(iD (cB s) (Hq s) (cB s).length).getD m Str.empty∈_/\decide ((iD (cB s) (Hq s) (cB s).length).getD m Str.empty="leaf")=!decide ((m:Int)∈cB s);rw[(A7 _ _ hm).1];unfold kindB;by_cases z:BP (cB s) m=[]
   . rw[aBE z,aBS (apJ.mp z)];decide +kernel
   . have z2:(m:Int)∈cB s:=Classical.byContradiction fun y=>z (apJ.mpr y);rw[aBx z,aBH z2];split<;>decide +kernel
 . have hm:m<(cB s).length:=hm;show((iD (cB s) (Hq s) (cB s).length).getD m Str.empty≠"one" /\ (iE (cB s) (Hq s) (cB s).length).getD m 0=-1)\/((iD (cB s) (Hq s) (cB s).length).getD m Str.empty="one" /\ MJ ((iE (cB s) (Hq s) (cB s).length).getD m 0) (cB s).length=true/\(cB s).getD ((iE (cB s) (Hq s) (cB s).length).getD m 0).toNat 0=m);rw[(A7 _ _ hm).1,(A7 _ _ hm).2];unfold kindB w4;by_cases z:BP (cB s) m=[]
   . rw[aBE z,aBE z];exact .inl ⟨Wl,rfl⟩
   . rw[aBx z,aBx z];by_cases y:(Hq s).getD m 0 % 2=1
     . rw[aBE y,aBE y];exact .inl ⟨Wl,rfl⟩
     . rw[aBx y,aBx y];have M8:0<(BP (cB s) m).length:=aCJ.mpr z;have b1:=aB2 ((Hq s).getD m 0 / 2) (b:=((BP (cB s) m).length:Nat)) Q.a;have b2:=aBZ ((Hq s).getD m 0 / 2) (b:=((BP (cB s) m).length:Nat)) Q.a;have:=ac0 (getD_mem (l:=BP (cB s) m) (n:=((Hq s).getD m 0 / 2 % ((BP (cB s) m).length:Nat)).toNat) Q.a);exact .inr ⟨rfl,W9 ⟨this.1,this.2.1⟩,this.2.2⟩
 . have hw2:=hc.ow.ww w hw;have hwn:=ow.wd w hw;refine⟨hw2.l3,fun d hd=>?_,fun d hd=>hb▸hwn.2 d hd,hwn.1,?_⟩
   . rw[hb,hns];exact(hw2.g1 d hd).pr
   . rw[hns];exact hw2.fin.tg
 . have hj:=all_join hc;unfold JoinOk at hj;rw[aEe,aCB]at hj;unfold Builtin.Str.tooLong at hj;have hj:=aBG hj;have:=Xd ((chP s).rows.map (RW.line (chP s).bn (chP s).ns));unfold CH.text;rw[all_rows hc hnm]at hj;have e:("\n":Str).length=1:=rfl;rw[e,Nat.mul_one]at hj;omega
def cF6(a c d e f g:T):BN:=[("boxes",a),("names",c),("tree",d),("ins",e),("outs",f),("ways",g)]
variable{a c d e f g x:T}
def A8:List.lookup ("names":Str) (cF6 a c d e f g)=some c/\wX "names" x (cF6 a c d e f g)=cF6 a x d e f g:=by
 unfold cF6;constructor
 . rw[cN Q.b,mj]
 . rw[bJ Q.b,GN]
def LX:List.lookup ("ways":Str) (cF6 a c d e f g)=some g/\wX "ways" x (cF6 a c d e f g)=cF6 a c d e f x:=by
 unfold cF6;constructor
 . rw[cN Q.b,cN Q.b,cN Q.b,cN Q.b,cN Q.b,mj]
 . rw[bJ Q.b,bJ Q.b,bJ Q.b,bJ Q.b,bJ Q.b,GN]
def Ui:List.lookup ("ins":Str) (cF6 a c d e f g)=some e/\wX "ins" x (cF6 a c d e f g)=cF6 a c d x f g:=by
 unfold cF6;constructor
 . rw[cN Q.b,cN Q.b,cN Q.b,mj]
 . rw[bJ Q.b,bJ Q.b,bJ Q.b,GN]
def LY{k:Str}{fs:BN}{tl:CI}(h:List.lookup k fs=some (.lst tl)):T.Df [.fld k] (.ins "Chart" fs)=some (.lst tl):=by
 show(List.lookup k fs).bind _=_;rw[h];rfl
def Uj{k:Str}{fs:BN}{tl tl2:CI}(h:List.lookup k fs=some (.lst tl)):T.J5 [.fld k] (.lst tl2) (.ins "Chart" fs)=.ins "Chart" (wX k (.lst tl2) fs):=by
 show(match List.lookup k fs with|some _=>_|none=>_)=_;rw[h];rfl
abbrev akI:=top 108
abbrev akJ:=BB
abbrev apK:AT:=["script","parts","chart","text","found","again"]
def Cg:akJ->Ap:=fun a=>[.lst (a.map .int)]
def Ci:akJ->Prop:=fun a=>a.length<=63
def Cj:akJ->T:=fun a=>(.sh (.bl true):T)
structure au7(X:Cx)(CL:BA):Prop extends bB X where
 iW:Ln X 0 "script"
 bL:Ln X 1 "parts"
 aB:Ln X 2 "chart"
 b6:Ln X 3 "text"
 aX:Ln X 4 "found"
 Uk:Ln X 5 "again"
 Kx:Gl X "_law_parts_by"
 Ky:Gl X "_law_chart_by"
 FU:Gl X "shown"
 Ul:Gl X "read"
 A9:Gl X "_law_same"
 aaD:Fc X CL "_law_parts_by" 4 1 rT rV rW
 aaE:Fc X CL "_law_chart_by" 3 1 rX nO rY
 Um:Fc X CL "shown" 5 1 B8 B9 Ca
 akK:Fc X CL "read" 9 1 FI FJ FL
 aaF:Fc X CL "_law_same" 10 2 FN FP FQ
 aL:xM X.K (CL "Chart")
 aV:aO X.K (CL "Chart") "names"
 dD:aO X.K (CL "Chart") "ways"
 fS:aO X.K (CL "Chart") "ins"
def au8(E:au7 X CL) :
   lA X CL b akI apK Cg Ci Cj:=by
 intro a h;dsimp only [Ci,Cg,Cj]at h ⊢;have hs:a.length<=1000:=by omega
 refine aD E.g E.bL (aF (cF a E.aaD E.Kx (ao (v_ E.iW.1) aZ) hs) (t2:=.sh (chP a).p) rfl) ?_;have hsm:Sm 8 (chP a).p:=aj5 a;have hr:=asy a;generalize chP a=c at hsm hr ⊢;have hc:=hr.ok;have im0:=Wm c.bs;have im1:=BW hc.ow.ii;have im2:=BW hc.ow.oo;have im3:=SV hc.ow.ww;dsimp only at im1 im2 im3;have etx:Txt.join "\n" (xZ c c.es.length)=c.text:=by
   rw[all_rows hc hr.n.n];exact StrLaws.glued_eq_join _ _
 have hcl:T.clean (.ins "Chart" (qJ (c.bs.map tH) (c.ns.map .str) (.ins "Tree" (uN c.ks c.es c.ss)) (c.is.map .tup) (c.os.map .tup) (c.ws.map WY.d)))=true:=by
   show T.cz (qJ _ _ _ _ _ _)=true;exact SX im0 (j6 _) (z7 _ _ _) im1 im2 im3
 have hfz:T.fj (.ins "Chart" (qJ (c.bs.map tH) (c.ns.map .str) (.ins "Tree" (uN c.ks c.es c.ss)) (c.is.map .tup) (c.os.map .tup) (c.ws.map WY.d)))=c.d:=by
   rw[MD,QY];rfl
 refine aD E.g E.aB (kM (d:=c.d) (c_ (c.bs.map tH,c.ns,c.ks,c.es,c.ss,c.is.map D.tup,c.os.map D.tup,c.ws.map WY.d) E.aaE E.Ky (ah (aq E.bL) av) (by dsimp only [nO];exact⟨im0,im1,im2,im3⟩) hcl) hfz) ?_;refine aD E.g E.b6 (aF (c_ c E.Um E.FU (ah (aq E.aB) av) hc rfl) (t2:=.sh (.str c.text)) (congrArg (fun z=>T.sh (.str z)) etx)) ?_;refine aD E.g E.aX (c_ c E.akK E.Ul (ah (aq E.b6) av) hr hcl) ?_;have hv:c.d=j7 (c.bs.map tH) (c.ns.map .str) (nE c.ks c.es c.ss) (c.is.map .tup) (c.os.map .tup) (c.ws.map WY.d):=rfl;show gw X CL b _ [some (.sh (.lst (a.map .int))),some (.sh c.p),some (.sh c.d),some (.sh (.str c.text)),some (.ins "Chart" (cF6 (.lst ((c.bs.map tH).map T.sh)) (.lst ((c.ns.map .str).map T.sh)) (.ins "Tree" (uN c.ks c.es c.ss)) (.lst ((c.is.map .tup).map T.sh)) (.lst ((c.os.map .tup).map T.sh)) (.lst ((c.ws.map WY.d).map T.sh)))),none] _;refine aS (jg (j0 (iC (f6 (aF (c_ (c.bs.map tH,c.ns,c.ks,c.es,c.ss,c.is.map D.tup,c.os.map D.tup,c.ws.map WY.d) E.aaF E.A9 (ah (vE E.aX.1 rfl hfz) (ah (aq E.bL) av)) hsm rfl) (t2:=.sh (.bl true)) rfl))) (fun _=>jZ (vS (ak (aF (c_ c E.Um E.FU (ah (vE E.aX.1 rfl hfz) av) hc rfl) (t2:=.sh (.str c.text)) (congrArg (fun z=>T.sh (.str z)) etx))) (aq E.b6)).1))) (fun z=>?_) (fun _=>aj ?_)
 . rw[aBH rfl]at z;cases z
 have hnl:c.ns.length<=41:=by
   have:=hc.nl;have:=hc.e1;omega
 refine My (p:=[.fld "names"]) (Zn E.aL E.aV (xV E.aX.1 rfl) rfl rfl (A8 (x:=.sh .non)).1) rfl (LY (A8 (x:=.sh .non)).1) b9 rfl (LY (A8 (x:=.sh .non)).1) (by rw[aBp,aBp];omega) ?_;rw[Uj (A8 (x:=.sh .non)).1,A8.2];refine Lq (acY (p:=[.fld "ways"]) (Zn E.aL E.dD (xV E.aX.1 rfl) rfl rfl (LX (x:=.sh .non)).1) rfl (LY (LX (x:=.sh .non)).1)) ?_;rw[Uj (LX (x:=.sh .non)).1,LX.2];refine Lq (acY (p:=[.fld "ins"]) (Zn E.aL E.fS (xV E.aX.1 rfl) rfl rfl (Ui (x:=.sh .non)).1) rfl (LY (Ui (x:=.sh .non)).1)) ?_;rw[Uj (Ui (x:=.sh .non)).1,Ui.2];refine aD E.g E.Uk (kM (d:=c.d) (c_ c E.akK E.Ul (ah (aq E.b6) av) hr hcl) hfz) ?_;refine aH (lE (aF (c_ (c.bs.map tH,c.ns,c.ks,c.es,c.ss,c.is.map D.tup,c.os.map D.tup,c.ws.map WY.d) E.aaF E.A9 (ah (aq E.Uk) (ah (aq E.bL) av)) hsm rfl) (t2:=.sh (.bl true)) rfl) (fun _=>lE (bI (ak (aF (c_ c E.Um E.FU (ah (aq E.Uk) av) hc rfl) (t2:=.sh (.str c.text)) (congrArg (fun z=>T.sh (.str z)) etx))) (aq E.b6)).2 (fun _=>mD (aF (c_ (c.bs.map tH,c.ns,c.ks,c.es,c.ss,c.is.map D.tup,c.os.map D.tup,c.ws.map WY.d) E.aaF E.A9 (ah (aq E.aB) (ah (aq E.bL) av)) hsm rfl) (t2:=.sh (.bl true)) rfl)))) ?_;rw[aBH rfl];rfl
def pL:FG apK ["script"] ["_law_parts_by","_law_chart_by","shown","read","_law_same"] (au akI):=fG
def cl(aJ aT:Addr):Str->Addr:=fun c=>if c="Chart" then aJ else if c="Tree" then aT else 0
variable{aJ aT:Addr}
def kI:cl aJ aT "Chart" = aJ:=by unfold cl;rw[aBE rfl]
def vC:cl aJ aT "Tree" = aT:=by unfold cl;rw[aBx Q.b];rw[aBE rfl]
def asz{x:Str}(h:acI x=true):cl aJ aT x=0:=by unfold cl;rw[aBx (fun e=>by rw[e]at h;exact absurd h Q.b)];rw[aBx (fun e=>by rw[e]at h;exact absurd h Q.b)]
def all_mk{l:PySem.W.OpenLaw}{w:World}{K:Frag}{h:Heap}{mg:B0}{fa Rq adP JA Rr Oq Ot JB Rt Xe Xf Ru Ou vD sG Ov Xg JC Ow JD Ox JF adQ adR JG adS Xh Oz zo zq Ba Bb zu OB Rw Rx CG JH JK Ry Rz OD RA Xi Xj FW RB JL Xk JM OG RC uv vG OI uw zx vH FY vI zy zA vJ Bc Bd xG Xl akL Uo akM apL:Addr}(XX:K.In h)(G:h.Ns mainGlobals mg)(hfa:mg "law" = some (.ref fa))
   {af0 aoc Xm af1 aaG aaH Xn af2 akN akO af3 aaI Xo Up aaJ E7 kj aaK Xp DE AH Fb Fd AI FU Ff gf fq qU OJ t7 Kz DX jE cQ lV qx AY sV HG DL HD akP N5 yG HL A1 Ol A6 yQ HS mS n6 fB mU rq ig oj oA fC rm oB uo uq pJ Om Ul adT g_same apM:FuncData}
   (Uq:jH K "Chart" aJ) (OL:plainGet K aJ Str.empty=true) (OO:hasDictIn K aJ=true) (OQ:plainOver K aJ=true) (OS:findIn K (.ref aJ) "__setattr__" = some (some (.builtin "object.__setattr__"))) (FZ:makesIn K aJ=true) (F0:keepIn K (.ref aJ)=true)
   (wm:findIn K (.ref aJ) "boxes" = some none)
   (wo:findIn K (.ref aJ) "names" = some none)
   (yR:findIn K (.ref aJ) "tree" = some none)
   (Be:findIn K (.ref aJ) "ins" = some none)
   (yS:findIn K (.ref aJ) "outs" = some none)
   (yT:findIn K (.ref aJ) "ways" = some none)
   (aaL:jH K "Tree" aT) (Ur:plainGet K aT Str.empty=true) (Us:hasDictIn K aT=true) (Ut:plainOver K aT=true) (Uu:findIn K (.ref aT) "__setattr__" = some (some (.builtin "object.__setattr__"))) (LZ:makesIn K aT=true) (L0:keepIn K (.ref aT)=true)
   (yU:findIn K (.ref aT) "kinds" = some none)
   (wA:findIn K (.ref aT) "elders" = some none)
   (wB:findIn K (.ref aT) "starts" = some none)
   (HV:jH K "_law_cell_at" Rq) (af4:jr K "_law_cell_at" "_law_cell_at" G7 Rq af0)
   (Uv:jH K "_law_chain" adP) (aod:jr K "_law_chain" "_law_chain" Ti adP aoc)
   (Bf:jH K "_law_elders_by" JA) (Xq:jr K "_law_elders_by" "_law_elders_by" Ah JA Xm)
   (HW:jH K "_law_name_by" Rr) (af5:jr K "_law_name_by" "_law_name_by" G9 Rr af1)
   (DY:jH K "_law_names_by" Oq) (aaM:jr K "_law_names_by" "_law_names_by" Ds Oq aaG)
   (DZ:jH K "_law_kinds_by" Ot) (aaN:jr K "_law_kinds_by" "_law_kinds_by" yd Ot aaH)
   (Bg:jH K "_law_number_by" JB) (Xr:jr K "_law_number_by" "_law_number_by" Aj JB Xn)
   (HX:jH K "_law_deed_by" Rt) (af6:jr K "_law_deed_by" "_law_deed_by" Hh Rt af2)
   (OU:jH K "_law_way_by" Xe) (akQ:jr K "_law_way_by" "_law_way_by" M9 Xe akN)
   (OV:jH K "_law_ask_by" Xf) (akR:jr K "_law_ask_by" "_law_ask_by" Nf Xf akO)
   (HY:jH K "_law_owns_by" Ru) (af7:jr K "_law_owns_by" "_law_owns_by" Hj Ru af3)
   (D0:jH K "_law_parts_by" Ou) (aaO:jr K "_law_parts_by" "_law_parts_by" yj Ou aaI)
   (vK:findIn K (.ref aT) "__init__" = some (some (.ref vD))) (vN:isFn K (.ref vD)=true) (JN:jr K "__init__" "Tree.__init__" Aq vD Xo)
   (sH:findIn K (.ref aJ) "__init__" = some (some (.ref sG))) (sJ:isFn K (.ref sG)=true) (F2:jr K "__init__" "Chart.__init__" yk sG Up)
   (D3:jH K "_law_chart_by" Ov) (aaP:jr K "_law_chart_by" "_law_chart_by" Dw Ov aaJ)
   (OX:jH K "linked" Xg) (akS:jr K "linked" "linked" Nr Xg E7)
   (Bh:jH K "term_text" JC) (Xs:jr K "term_text" "term_text" Au JC kj)
   (D4:jH K "ask_text" Ow) (aaQ:jr K "ask_text" "ask_text" Dz Ow aaK)
   (Bj:jH K "deed_text" JD) (Xu:jr K "deed_text" "deed_text" Aw JD Xp)
   (D5:jH K "way_text" Ox) (aaR:jr K "way_text" "way_text" yq Ox DE)
   (Bk:jH K "own_texts" JF) (Xv:jr K "own_texts" "own_texts" u6 JF AH)
   (Uw:jH K "above" adQ) (aoe:jr K "above" "above" TN adQ Fb)
   (Ux:jH K "depth" adR) (aof:jr K "depth" "depth" TR adR Fd)
   (Bl:jH K "mood_text" JG) (Xw:jr K "mood_text" "mood_text" AF JG AI)
   (Uy:jH K "shown" adS) (aog:jr K "shown" "shown" LK adS FU)
   (OY:jH K "places" Xh) (akT:jr K "places" "places" Nx Xh Ff)
   (D6:jH K "place_of" Oz) (aaS:jr K "place_of" "place_of" DG Oz gf)
   (rz:jH K "numbered_term" zo) (KC:jr K "numbered_term" "numbered_term" qN zo fq)
   (rA:jH K "numbered_deed" zq) (KD:jr K "numbered_deed" "numbered_deed" qP zq qU)
   (ux:jH K "numbered_ask" Ba) (OZ:jr K "numbered_ask" "numbered_ask" tX Ba OJ)
   (uy:jH K "numbered_way" Bb) (O1:jr K "numbered_way" "numbered_way" nS Bb t7)
   (rB:jH K "numbered_form" zu) (KG:jr K "numbered_form" "numbered_form" qS zu Kz)
   (D7:jH K "numbered" OB) (aaT:jr K "numbered" "numbered" yu OB DX)
   (HZ:jH K "is_name" Rw) (af8:jr K "is_name" "is_name" Hs Rw jE)
   (Ic:jH K "name_of" Rx) (af9:jr K "name_of" "name_of" Hu Rx cQ)
   (wC:jH K "are_figures" CG) (Qt:jr K "are_figures" "are_figures" wg CG lV)
   (Bm:jH K "is_number" JH) (Xx:jr K "is_number" "is_number" AO JH qx)
   (Bo:jH K "number_of" JK) (Xy:jr K "number_of" "number_of" AU JK AY)
   (Ie:jH K "term_of" Ry) (aga:jr K "term_of" "term_of" Hw Ry sV)
   (Ig:jH K "deed_of" Rz) (agb:jr K "deed_of" "deed_of" Hy Rz HG)
   (D8:jH K "parts_of" OD) (aaU:jr K "parts_of" "parts_of" DJ OD DL)
   (Ih:jH K "goal_of" RA) (agc:jr K "goal_of" "goal_of" HB RA HD)
   (O2:jH K "ask_of" Xi) (akU:jr K "ask_of" "ask_of" N2 Xi akP)
   (O4:jH K "way_of" Xj) (akV:jr K "way_of" "way_of" Fj Xj N5)
   (yV:jH K "content_of" FW) (Uz:jr K "content_of" "content_of" yE FW yG)
   (Ii:jH K "form_of" RB) (agd:jr K "form_of" "form_of" HJ RB HL)
   (Bp:jH K "may_stand" JL) (Xz:jr K "may_stand" "may_stand" AZ JL A1)
   (O5:jH K "formed" Xk) (akW:jr K "formed" "formed" N6 Xk Ol)
   (Bq:jH K "elders_of" JM) (XA:jr K "elders_of" "elders_of" A2 JM A6)
   (D9:jH K "deeds_of" OG) (aaV:jr K "deeds_of" "deeds_of" DM OG yQ)
   (Ij:jH K "ways_of" RC) (age:jr K "ways_of" "ways_of" HM RC HS)
   (mV:jH K "are_elders_right" uv) (Ea:jr K "are_elders_right" "are_elders_right" mO uv mS)
   (oE:jH K "are_kinds_right" vG) (F3:jr K "are_kinds_right" "are_kinds_right" nY vG n6)
   (Eb:jH K "is_place" OI) (aaW:jr K "is_place" "is_place" DR OI fB)
   (mW:jH K "are_starts_right" uw) (Ec:jr K "are_starts_right" "are_starts_right" mQ uw mU)
   (rC:jH K "is_tree_right" zx) (KH:jr K "is_tree_right" "is_tree_right" qV zx rq)
   (oF:jH K "are_names_right" vH) (F4:jr K "are_names_right" "are_names_right" n8 vH ig)
   (yW:jH K "is_bounded" FY) (UA:jr K "is_bounded" "is_bounded" yL FY oj)
   (oG:jH K "are_boxes_right" vI) (F5:jr K "are_boxes_right" "are_boxes_right" oh vI oA)
   (rD:jH K "is_term_right" zy) (KJ:jr K "is_term_right" "is_term_right" qX zy fC)
   (rE:jH K "is_deed_right" zA) (KL:jr K "is_deed_right" "is_deed_right" qZ zA rm)
   (oH:jH K "are_deeds_right" vJ) (F6:jr K "are_deeds_right" "are_deeds_right" oq vJ oB)
   (uz:jH K "is_ask_right" Bc) (O6:jr K "is_ask_right" "is_ask_right" uf Bc uo)
   (uA:jH K "is_way_right" Bd) (O7:jr K "is_way_right" "is_way_right" uh Bd uq)
   (pM:jH K "are_ways_right" xG) (Ik:jr K "are_ways_right" "are_ways_right" pH xG pJ)
   (O8:jH K "looked" Xl) (akX:jr K "looked" "looked" Oh Xl Om)
   (aaX:jH K "read" akL) (asA:jr K "read" "read" aaz akL Ul)
   (UB:jH K "_law_alike" Uo) (L1:jr K "_law_alike" "_law_alike" Ue Uo adT)
   (aaY:jH K "_law_same" akM) (asB:jr K "_law_same" "_law_same" s_same akM g_same)
   (adU:jH K "law" apL) (akY:jr K "law" "law" akI apL apM)
   (akZ:nsIn K mainGlobals "len" = some none)
   (UC:nsIn K mainGlobals "range" = some none)
   (ak0:nsIn K mainGlobals "min" = some none)
   (aaZ:nsIn K mainGlobals "list" = some none)
   (ak1:nsIn K mainGlobals "str" = some none)
   {aoh:Tok} (aa0:nsIn K mainGlobals "SIGN" = some (some (.int 1 aoh)))
   {aoi:Tok} (aa1:nsIn K mainGlobals "ASKS" = some (some (.int 2 aoi)))
   {ak2:Tok} (UD:nsIn K mainGlobals "DEEDS" = some (some (.int 3 ak2)))
   {agf:Tok} (O9:nsIn K mainGlobals "TARGET" = some (some (.int 4 agf)))
   {aoj:Tok} (aa2:nsIn K mainGlobals "MODE" = some (some (.int 5 aoj)))
   (ak3:nsIn K mainGlobals "zip" = some none)
   {agg:Tok} (Pa:nsIn K mainGlobals "SOURCE" = some (some (.int 0 agg)))
   (Br:nsIn K mainGlobals "enumerate" = some none)
   (UE:nsIn K mainGlobals "tuple" = some none)
   {asC:Tok} (ak4:nsIn K mainGlobals "ROW" = some (some (.int 0 asC)))
   {aok:Tok} (aa3:nsIn K mainGlobals "WORD" = some (some (.int 2 aok)))
   {aa4:Tok} (Il:nsIn K mainGlobals "CONTENT" = some (some (.int 3 aa4)))
   {adV:Addr} {ak5:Cs} {dG:Nat} {ak6:CO} {aa5 aa6 aa7:Tok} (UG:nsIn K mainGlobals "KINDS" = some (some (.ref adV))) (lX:K.lookup adV=some ⟨.type "tuple",ak5,.seq #[.str "leaf" aa5,.str "one" aa6,.str "all" aa7] dG,ak6⟩)
   {agh:Tok} (Pb:nsIn K mainGlobals "BLANKS" = some (some (.int 1 agh)))
   {KN:Tok} (uB:nsIn K mainGlobals "LONGEST_NAME" = some (some (.int 12 KN)))
   {adW:Addr} {ak7:Cs} {T6:Nat} {ak8:CO} {aa8 aa9 abb abd abe abf abg abh abi abj XC XD XE XF XG XH XI XJ XM:Tok} (UH:nsIn K mainGlobals "WORDS" = some (some (.ref adW))) (Pg:K.lookup adW=some ⟨.type "tuple",ak7,.seq #[.str "all" aa8,.str "and" aa9,.str "box" abb,.str "call" abd,.str "do" abe,.str "far" abf,.str "if" abg,.str "in" abh,.str "leaf" abi,.str "near" abj,.str "on" XC,.str "one" XD,.str "open" XE,.str "out" XF,.str "put" XG,.str "say" XH,.str "shut" XI,.str "then" XJ,.str "to" XM] T6,ak8⟩)
   {abk:Tok} (Im:nsIn K mainGlobals "LETTERS" = some (some (.str "abcdefghijklmnopqrstuvwxyz" abk)))
   {yX:Tok} (jL:nsIn K mainGlobals "LETTERS_AND_FIGURES" = some (some (.str "abcdefghijklmnopqrstuvwxyz0123456789" yX)))
   {KP:Tok} (uC:nsIn K mainGlobals "MOST_FIGURES" = some (some (.int 30 KP)))
   {abl:Tok} (Io:nsIn K mainGlobals "FIGURES" = some (some (.str "0123456789" abl)))
   (ak9:nsIn K mainGlobals "int" = some none)
   {Bs:Addr} {qD:Nat} {CJ CK CM CN CP CQ:Int} {CT CV CW CY CZ C1 Ip Iq Ir Iu Iv Iw Iz IA IB IC IE IG II:Tok} {wF wG wH wI wJ wK:Addr} {Ph Pj Pk Pn Pp Pq:Cs} {Qu Qv Qw Qx Qy Qz:Nat} {Pr Pu Pw Px Py Pz:CO} (Bt:nsIn K mainGlobals "FOLLOWERS" = some (some (.ref Bs))) (sL:(Bs==sysModules)=false) (sM:K.lookup Bs=some ⟨.type "dict",none,.dict ([⟨CJ,.str "on" CT,.ref wF⟩,⟨CK,.str "if" CV,.ref wG⟩,⟨CM,.str "and" CW,.ref wH⟩,⟨CN,.str "do" CY,.ref wI⟩,⟨CP,.str "then" CZ,.ref wJ⟩,⟨CQ,.str "to" C1,.ref wK⟩]:List DictEntry).toArray qD,#[]⟩) (sN:KeysLit w.params [⟨CJ,.str "on" CT,.ref wF⟩,⟨CK,.str "if" CV,.ref wG⟩,⟨CM,.str "and" CW,.ref wH⟩,⟨CN,.str "do" CY,.ref wI⟩,⟨CP,.str "then" CZ,.ref wJ⟩,⟨CQ,.str "to" C1,.ref wK⟩]) (oJ:K.lookup wF=some ⟨.type "tuple",Ph,.seq #[.str "if" Ip,.str "do" Iq,.str "to" Ir] Qu,Pr⟩) (oK:K.lookup wG=some ⟨.type "tuple",Pj,.seq #[.str "and" Iu,.str "do" Iv,.str "to" Iw] Qv,Pu⟩) (oM:K.lookup wH=some ⟨.type "tuple",Pk,.seq #[.str "and" Iz,.str "do" IA,.str "to" IB] Qw,Pw⟩) (oN:K.lookup wI=some ⟨.type "tuple",Pn,.seq #[.str "then" IC,.str "to" IE] Qx,Px⟩) (oO:K.lookup wJ=some ⟨.type "tuple",Pp,.seq #[.str "then" IG,.str "to" II] Qy,Py⟩) (oQ:K.lookup wK=some ⟨.type "tuple",Pq,.seq #[] Qz,Pz⟩)
   {adX:Addr} {ala:Cs} {Fi:Nat} {alb:CO} {abm abn abo abp:Tok} (UI:nsIn K mainGlobals "MARKS" = some (some (.ref adX))) (F7:K.lookup adX=some ⟨.type "tuple",ala,.seq #[.str "<" abm,.str "<=" abn,.str "=" abo,.str "!=" abp] Fi,alb⟩)
   {vO:Addr} {XO:Array DictEntry} {Cd:Nat} {abq abr abt abu abv abw:Tok} (UJ:nsIn K mainGlobals "RANKS" = some (some (.ref vO))) (PB:K.lookup vO=some ⟨.type "dict",none,.dict XO Cd,#[]⟩) (PD:KeysLit w.params XO.toList) (IJ:nsIn K vO "leaf" = some (some (.int 0 abq))) (IK:nsIn K vO "one" = some (some (.int 0 abr))) (IL:nsIn K vO "all" = some (some (.int 0 abt))) (IQ:nsIn K vO "in" = some (some (.int 1 abu))) (IU:nsIn K vO "out" = some (some (.int 2 abv))) (IV:nsIn K vO "on" = some (some (.int 3 abw)))
   {abx:Tok} (IW:nsIn K mainGlobals "DEEPEST" = some (some (.int 12 abx)))
   (alc:nsIn K mainGlobals "set" = some none)
   {adY:Addr} {ald:Cs} {Ud:Nat} {ale:CO} {aby abz abA:Tok} (UK:nsIn K mainGlobals "MODES" = some (some (.ref adY))) (PF:K.lookup adY=some ⟨.type "tuple",ald,.seq #[.str "new" aby,.str "near" abz,.str "far" abA] Ud,ale⟩)
   (yZ:nsIn K mainGlobals "isinstance" = some none)
   (y_bool:nsIn K mainGlobals "bool" = some none)
   : ∃fd:FuncData,(∀(s:Shared) (v:Value),BindsTo s fd ⟨[v],[]⟩ [("script",v)])/\∀base:Heap,K.In base->base.Ns mainGlobals mg->oS l.prog w K mg base J2 11 fa fd ["script"] (spA K (fun _=>0) 1 Cg Ci Cj):=by
 have e:=hfa.symm.trans (aCc XX G adU);cases e;have JQ:=JN.binds (ps:=["self","kinds","elders","starts"]) fun _ _ _ _ _ _=>by refine Mz ?_;exact fun _ _ _ _=>rfl
 have F8:=F2.binds (ps:=["self","boxes","names","tree","ins","outs","ways"]) fun _ _ _ _ _ _=>by refine Mz ?_;exact fun _ _ _ _ _ _ _=>rfl
 have adZ:=aCc XX G UB;have ad0:=L1.binds (ps:=["found","due"]) fun _ _ _ _ _ _=>by refine Mz ?_;exact fun _ _=>rfl
 have ay5:=aCc XX G adU;have ay6:=akY.binds (ps:=["script"]) fun _ _ _ _ _ _=>by refine Mz ?_;exact fun _=>rfl
 have ad1:=aCc XX G Uq;have aL:xM K aJ:=⟨OL,OO,OQ,OS⟩;have iB:xM K ((cl aJ aT) "Chart"):=by rw[kI];exact aL
 have fW:aO K ((cl aJ aT) "Chart") "boxes":=by rw[kI];exact wm
 have dw:aO K ((cl aJ aT) "Chart") "names":=by rw[kI];exact wo
 have oR:aO K ((cl aJ aT) "Chart") "tree":=by rw[kI];exact yR
 have qH:aO K ((cl aJ aT) "Chart") "ins":=by rw[kI];exact Be
 have sO:aO K ((cl aJ aT) "Chart") "outs":=by rw[kI];exact yS
 have k9:aO K ((cl aJ aT) "Chart") "ways":=by rw[kI];exact yT
 have alf:=aCc XX G aaL;have cZ:xM K aT:=⟨Ur,Us,Ut,Uu⟩;have Bu:xM K ((cl aJ aT) "Tree"):=by rw[vC];exact cZ
 have lg:aO K ((cl aJ aT) "Tree") "kinds":=by rw[vC];exact yU
 have iJ:aO K ((cl aJ aT) "Tree") "elders":=by rw[vC];exact wA
 have lY:aO K ((cl aJ aT) "Tree") "starts":=by rw[vC];exact wB
 have kJ:=aCC XX G akZ;have Ck:=aCC XX G UC;have au9:=aCC XX G ak0;have UL:=aCC XX G aaZ;have ava:=aCC XX G ak1;have alg:∃u,mg "SIGN" = some (.int 1 u):=⟨_,aCc XX G aa0⟩;have alh:∃u,mg "ASKS" = some (.int 2 u):=⟨_,aCc XX G aa1⟩;have ad2:∃u,mg "DEEDS" = some (.int 3 u):=⟨_,aCc XX G UD⟩;have XQ:∃u,mg "TARGET" = some (.int 4 u):=⟨_,aCc XX G O9⟩;have ali:∃u,mg "MODE" = some (.int 5 u):=⟨_,aCc XX G aa2⟩;have avb:=aCC XX G ak3;have PJ:∃u,mg "SOURCE" = some (.int 0 u):=⟨_,aCc XX G Pa⟩;have nh:=aCC XX G Br;have UM:=aCC XX G UE;have apN:∃u,mg "ROW" = some (.int 0 u):=⟨_,aCc XX G ak4⟩;have Ed:∃u,mg "WORD" = some (.int 2 u):=⟨_,aCc XX G aa3⟩;have xH:∃u,mg "CONTENT" = some (.int 3 u):=⟨_,aCc XX G Il⟩;have vP:=aCc XX G UG;have F9:∃u,mg "BLANKS" = some (.int 1 u):=⟨_,aCc XX G Pb⟩;have PK:∃u,mg "LONGEST_NAME" = some (.int 12 u):=⟨_,aCc XX G uB⟩;have aol:=aCc XX G UH;have agi:∃u,mg "LETTERS" = some (.str "abcdefghijklmnopqrstuvwxyz" u):=⟨_,aCc XX G Im⟩;have zM:∃u,mg "LETTERS_AND_FIGURES" = some (.str "abcdefghijklmnopqrstuvwxyz0123456789" u):=⟨_,aCc XX G jL⟩;have PL:∃u,mg "MOST_FIGURES" = some (.int 30 u):=⟨_,aCc XX G uC⟩;have agj:∃u,mg "FIGURES" = some (.str "0123456789" u):=⟨_,aCc XX G Io⟩;have apO:=aCC XX G ak9;have JR:=aCc XX G Bt;have ad3:=aCc XX G UI;have aom:=aCc XX G UJ;have agk:∃u,mg "DEEPEST" = some (.int 12 u):=⟨_,aCc XX G IW⟩;have avc:=aCC XX G alc;have aon:=aCc XX G UK;have UN:=aCC XX G yZ;have asD:=aCC XX G y_bool;refine⟨apM,?bind,fun base _ _=>?_⟩
 case bind=>
   obtain⟨oc,od,kV,doc,pm,an,uH,ct,osl,rfl,lk,uG⟩:=akY.ex;exact fun s v=>.of_eq rfl
 have q:=@arH l.prog w mg base K h (cl aJ aT) XX G;have RD:=q 0 qh qj qk af4 yb.1 HV fun hr u p=>afm (by exact⟨u,gL yb 0,gL yb 1,gG yb 0,kJ⟩) p;have aoo:=q 0 B4 B5 B6 aod Ag.1 Uv fun hr u p=>anK (by exact⟨u,gL Ag 0,gL Ag 1,gL Ag 2,gL Ag 3⟩) p;have XR:=q 1 pO pP pQ Xq gI.1 Bf fun hr u p=>Wc (by exact⟨u,gL gI 0,gL gI 1,gL gI 2,gL gI 3,gL gI 4,gG gI 0,gG gI 1,kJ,bG aoo hr⟩) p;have agl:=q 0 uS ql uT af5 iG.1 HW fun hr u p=>afo (by exact⟨u,gL iG 0,gL iG 1,gL iG 2,gL iG 3,gL iG 4,gL iG 5,gL iG 6,gG iG 0,gG iG 1,Ck,kJ⟩) p;have abB:=q 1 rO rP rQ aaM fQ.1 DY fun hr u p=>ZL (by exact⟨u,gL fQ 0,gL fQ 1,gL fQ 2,gL fQ 3,gL fQ 4,gL fQ 5,gG fQ 0,gG fQ 1,gG fQ 2,bG RD hr,Ck,bG agl hr⟩) p;have abC:=q 0 rR nJ rS aaN Wf DZ fun hr u p=>ZN (by exact⟨u,frC eS 0,iL eS 0 rfl,Cq eS 1,Cq eS 2,Cq eS 3,frC eS 4,iL eS 4 rfl,Cq eS 5,Cq eS 6,De eS 7,De eS 8,Ck,kJ⟩) p;have Bv:=q 0 jB jC jD Xr ye.1 Bg fun hr u p=>Wh (by exact⟨u,gL ye 0,gL ye 1⟩) p;have agm:=q 1 uV ki uW af6 jj.1 HX fun hr u p=>afr (by exact⟨u,gL jj 0,gL jj 1,gL jj 2,gL jj 3,gL jj 4,gL jj 5,gG jj 0,gG jj 1,kJ,bG Bv hr⟩) p;have alj:=q 0 yf tP yg akQ mZ.1 OU fun hr u p=>ajX (by exact⟨u,gL mZ 0,gL mZ 1,gL mZ 2,gL mZ 3,gL mZ 4,gL mZ 5,gG mZ 0,kJ⟩) p;have alk:=q 1 yh tQ yi akR m5.1 OV fun hr u p=>ajZ (by exact⟨u,gL m5 0,gL m5 1,gL m5 2,gL m5 3,gL m5 4,gL m5 5,gG m5 0,bG Bv hr⟩) p;have agn:=q 2 uX qp uY af7 cT.1 HY fun hr u p=>aft (by exact⟨u,gL cT 0,gL cT 1,gL cT 2,gL cT 3,gL cT 4,gL cT 5,gL cT 6,gL cT 7,gL cT 8,gL cT 9,gL cT 10,gG cT 0,gG cT 1,gG cT 2,gG cT 3,kJ,bG agm hr,bG alj hr,bG alk hr⟩) p;have abD:=q 3 rT rV rW aaO Wq D0 fun hr u p=>ZU (by exact⟨u,frC bV 0,iL bV 0 rfl,Cq bV 1,Cq bV 2,Cq bV 3,frC bV 4,iL bV 4 rfl,Cq bV 5,Cq bV 6,Cq bV 7,De bV 8,De bV 9,De bV 10,De bV 11,De bV 12,De bV 13,De bV 14,De bV 15,bG RD hr,Ck,au9,kJ,bG XR hr,bG abB hr,bG abC hr,bG agn hr,bG Bv hr⟩) p;have JS:oS l.prog w K mg base J2 1 vD _ ["self","kinds","elders","starts"] (spI K (cl aJ aT) "Tree" 4 v7 v8 v9):=acQ JN jk.1 fun uH Ar outer s H E b a y hr hp=>by
   obtain⟨p0,p1,p2⟩:=a;refine Ws ?_ p0 p1 p2 y hp;exact⟨⟨⟨jk.nd,rfl,.never⟩,hr.units⟩,gL jk 0,gL jk 1,gL jk 2,gL jk 3,gG jk 0,UL,Bu,lg,iJ,lY⟩
 have Ga:oS l.prog w K mg base J2 1 sG _ ["self","boxes","names","tree","ins","outs","ways"] (spI K (cl aJ aT) "Chart" 7 tU tV tW):=acQ F2 dm.1 fun uH Ar outer s H E b a y hr hp=>by
   obtain⟨p0,p1,p2,p3,p4,p5⟩:=a;refine Tv ?_ p0 p1 p2 p3 p4 p5 y hp;exact⟨⟨⟨dm.nd,rfl,.never⟩,hr.units⟩,gL dm 0,gL dm 1,gL dm 2,gL dm 3,gL dm 4,gL dm 5,gL dm 6,gG dm 0,UL,iB,fW,dw,oR,qH,sO,k9⟩
 have abE:=q 2 rX nO rY aaP m7.1 D3 fun hr u p=>ZY (by exact⟨u,gL m7 0,gL m7 1,gG m7 0,gG m7 1,gG m7 2,⟨⟨_,_,_,by rw[vC];exact⟨LZ,vK,vN,L0⟩,JS,by rw[vC];exact alf,JQ⟩,hr.mono Q.c⟩,UL,⟨⟨_,_,_,by rw[kI];exact⟨FZ,sH,sJ,F0⟩,Ga,by rw[kI];exact ad1,F8⟩,hr.mono Q.c⟩⟩) p;have alm:=q 0 yo pB yp akS sR.1 OX fun hr u p=>akc (by exact⟨u,gL sR 0,gL sR 1,gL sR 2,gL sR 3,gL sR 4⟩) p;have JT:=q 0 lJ ez lK Xs kO.1 Bh fun hr u p=>Wv (by exact⟨u,gL kO 0,gL kO 1,gL kO 2,gL kO 3,gG kO 0,ava,iB,fW⟩) p;have abF:=q 1 rZ nP r6 aaQ qu.1 D4 fun hr u p=>Z6 (by exact⟨u,gL qu 0,gL qu 1,gL qu 2,gG qu 0,bG JT hr,iB,dw⟩) p;have JV:=q 1 lM fU lN Xu kP.1 Bj fun hr u p=>Wx (by exact⟨u,gL kP 0,gL kP 1,gL kP 2,gL kP 3,gG kP 0,bG JT hr,iB,fW⟩) p;have abG:=q 2 r9 nQ sd aaR Wz D5 fun hr u p=>aaf (by exact⟨u,frC fV 0,iL fV 0 rfl,Cq fV 1,Cq fV 2,De fV 3,De fV 4,De fV 5,De fV 6,De fV 7,De fV 8,alg,bG alm hr,alh,ad2,XQ,ali,bG abF hr,bG JV hr,iB,dw⟩) p;have XS:=q 3 pT pU pV Xv TL Bk fun hr u p=>WC (by exact⟨u,frC eB 0,iL eB 0 rfl,Cq eB 1,Cq eB 2,Cq eB 3,Cq eB 4,Cq eB 5,De eB 6,De eB 7,De eB 8,avb,PJ,bG abG hr,bG JV hr,iB,k9,qH,sO⟩) p;have ad4:=q 0 xr sS xu aoe Az.1 Uw fun hr u p=>anS (by exact⟨u,gL Az 0,gL Az 1,gL Az 2,gL Az 3,Bu,iJ⟩) p;have ad5:=q 1 xA pC xB aof AA.1 Ux fun hr u p=>anU (by exact⟨u,gL AA 0,gL AA 1,gG AA 0,gG AA 1,kJ,bG ad4 hr⟩) p;have XT:=q 0 pW lO pX Xw nR.1 Bl fun hr u p=>WH (by exact⟨u,gL nR 0,gL nR 1,gL nR 2,gL nR 3,iB,Bu,lg,oR,dw,lY⟩) p;have aop:=q 4 B8 B9 Ca aog akh Uy fun hr u p=>anW (by exact⟨u,Cq lQ 0,Cq lQ 1,Cq lQ 2,Cq lQ 3,frC lQ 4,iL lQ 4 rfl,De lQ 5,De lQ 6,De lQ 7,De lQ 8,nh,bG XS hr,bG ad5 hr,bG XT hr,iB,fW,oR⟩) p;have aln:=q 0 yr pD yt akT sU.1 OY fun hr u p=>akk (by exact⟨u,gL sU 0,gL sU 1,gL sU 2,gL sU 3,gG sU 0,nh⟩) p;have uD:=q 0 gK cP gM aaS vd.1 D6 fun hr u p=>aal (by exact⟨u,gL vd 0,gL vd 1,gL vd 2⟩) p;have zB:=q 1 gO cD gP KC iX.1 rz fun hr u p=>Kd (by exact⟨u,gL iX 0,gL iX 1,gL iX 2,gG iX 0,bG uD hr⟩) p;have zC:=q 2 gQ dF gR KD fX.1 rA fun hr u p=>Kf (by exact⟨u,gL fX 0,gL fX 1,gL fX 2,gG fX 0,gG fX 1,bG uD hr,bG zB hr⟩) p;have PN:=q 2 kQ iY kR OZ fu.1 ux fun hr u p=>NC (by exact⟨u,gL fu 0,gL fu 1,gL fu 2,gL fu 3,gG fu 0,gG fu 1,bG uD hr,bG zB hr⟩) p;have PR:=q 3 kT iZ kU O1 Kg uy fun hr u p=>NQ (by exact⟨u,Cq ck 0,frC ck 1,iL ck 1 rfl,frC ck 2,iL ck 2 rfl,frC ck 3,iL ck 3 rfl,Cq ck 4,Cq ck 5,De ck 6,De ck 7,UM,bG uD hr,bG PN hr,bG zC hr⟩) p;have KQ:=q 4 jQ gS jR KG bu.1 rB fun hr u p=>Kl (by exact⟨u,gL bu 0,gL bu 1,gL bu 2,gL bu 3,gL bu 4,gL bu 5,gG bu 0,gG bu 1,gG bu 2,gG bu 3,gG bu 4,gG bu 5,gG bu 6,gG bu 7,apN,Ed,xH,J6 vP lX,bG uD hr,bG zC hr,bG PR hr,F9⟩) p;have abH:=q 5 se sf sj aaT WQ D7 fun hr u p=>aan (by exact⟨u,Cq m8 0,frC m8 1,iL m8 1 rfl,frC m8 2,iL m8 2 rfl,De m8 3,bG aln hr,Ed,xH,J6 vP lX,bG KQ hr⟩) p;have Cm:=q 0 ko jc kr af8 ku.1 HZ fun hr u p=>afA (by exact⟨u,gL ku 0,gL ku 1,gG ku 0,gG ku 1,gG ku 2,gG ku 3,gG ku 4,kJ,PK,J6 aol Pg,agi,zM⟩) p;have sW:=q 1 gU gV gX af9 yw.1 Ic fun hr u p=>afC (by exact⟨u,gL yw 0,gL yw 1,gG yw 0,bG Cm hr⟩) p;have C2:=q 0 jw gB jx Qt i6.1 wC fun hr u p=>Qs (by exact⟨u,gL i6 0,gL i6 1,gG i6 0,gG i6 1,gG i6 2,kJ,PL,agj⟩) p;have JW:=q 1 lS iH lU Xx sq.1 Bm fun hr u p=>WT (by exact⟨u,gL sq 0,gL sq 1,gG sq 0,bG C2 hr⟩) p;have XU:=q 2 pY pZ p6 Xy nU.1 Bo fun hr u p=>WV (by exact⟨u,gL nU 0,gL nU 1,gG nU 0,gG nU 1,bG JW hr,apO⟩) p;have RG:=q 2 qy qz qA aga gk.1 Ie fun hr u p=>afH (by exact⟨u,gL gk 0,gL gk 1,gL gk 2,gL gk 3,gL gk 4,gL gk 5,gG gk 0,gG gk 1,gG gk 2,gG gk 3,bG JW hr,apO,bG sW hr,bG C2 hr⟩) p;have RH:=q 3 qB kB qC agb pF.1 Ig fun hr u p=>afJ (by exact⟨u,gL pF 0,gL pF 1,gG pF 0,gG pF 1,gG pF 2,kJ,bG sW hr,bG RG hr⟩) p;have abI:=q 0 su nV sy aaU qE.1 D8 fun hr u p=>aap (by exact⟨u,gL qE 0,gL qE 1,gL qE 2,gG qE 0,⟨_,_,_,JR,sL,sM,sN,L2.mq (J7 oJ) (L2.mq (J7 oK) (L2.mq (J7 oM) (L2.mq (J7 oN) (L2.mq (J7 oO) (L2.mq (J7 oQ) L2.aiu)))))⟩⟩) p;have ago:=q 2 vf qF vg agc t8.1 Ih fun hr u p=>afM (by exact⟨u,gL t8 0,gL t8 1,gG t8 0,gG t8 1,kJ,bG sW hr⟩) p;have alo:=q 3 yx t9 yy akU pG.1 O2 fun hr u p=>akm (by exact⟨u,gL pG 0,gL pG 1,gG pG 0,gG pG 1,gG pG 2,gG pG 3,kJ,bG sW hr,J6 ad3 F7,bG RG hr⟩) p;have alp:=q 4 yz ua yC akV afO O4 fun hr u p=>akp (by exact⟨u,Cq fc 0,frC fc 1,iL fc 1 rfl,Cq fc 2,Cq fc 3,Cq fc 4,Cq fc 5,Cq fc 6,Cq fc 7,De fc 8,De fc 9,De fc 10,De fc 11,De fc 12,bG abI hr,⟨_,_,_,JR,sL,sM,sN,L2.mq (J7 oJ) (L2.mq (J7 oK) (L2.mq (J7 oM) (L2.mq (J7 oN) (L2.mq (J7 oO) (L2.mq (J7 oQ) L2.aiu)))))⟩,kJ,bG ago hr,bG sW hr,bG alo hr,bG RH hr⟩) p;have UO:=q 5 nW kC nX Uz eF.1 yV fun hr u p=>T9 (by exact⟨u,gL eF 0,gL eF 1,gL eF 2,gG eF 0,gG eF 1,gG eF 2,gG eF 3,gG eF 4,kJ,bG sW hr,bG XU hr,bG RH hr,bG alp hr⟩) p;have agp:=q 6 vh qG vm agd mL.1 Ii fun hr u p=>afQ (by exact⟨u,gL mL 0,gL mL 1,gL mL 2,gL mL 3,gG mL 0,gG mL 1,kJ,bG UO hr⟩) p;have XW:=q 0 p7 p8 p9 Xz eG.1 Bp fun hr u p=>W3 (by exact⟨u,gL eG 0,gL eG 1,gL eG 2,gL eG 3,gL eG 4,gG eG 0,gG eG 1,gG eG 2,gG eG 3,Ed,F9,J6 vP lX,⟨_,_,_,aom,PB,PD,fun k z hk=>by
     rcases L3.BK hk with⟨rfl,rfl⟩|hk
     . exact⟨_,IJ⟩
     rcases L3.BK hk with⟨rfl,rfl⟩|hk
     . exact⟨_,IK⟩
     rcases L3.BK hk with⟨rfl,rfl⟩|hk
     . exact⟨_,IL⟩
     rcases L3.BK hk with⟨rfl,rfl⟩|hk
     . exact⟨_,IQ⟩
     rcases L3.BK hk with⟨rfl,rfl⟩|hk
     . exact⟨_,IU⟩
     rcases L3.BK hk with⟨rfl,rfl⟩|hk
     . exact⟨_,IV⟩
     cases hk⟩⟩) p
 have alq:=q 7 yH yI yJ akW dY.1 O5 fun hr u p=>akt (by exact⟨u,gL dY 0,gL dY 1,gL dY 2,gL dY 3,gL dY 4,gL dY 5,gL dY 6,gG dY 0,gG dY 1,gG dY 2,gG dY 3,gG dY 4,gG dY 5,gG dY 6,nh,bG agp hr,bG XW hr,apN,Ed,J6 vP lX,F9⟩) p;have XY:=q 0 qa lW qb XA jm.1 Bq fun hr u p=>W7 (by exact⟨u,gL jm 0,gL jm 1,gL jm 2,gL jm 3,gL jm 4,gG jm 0,nh⟩) p;have abJ:=q 0 sA sC sE aaV jd.1 D9 fun hr u p=>aav (by exact⟨u,gL jd 0,gL jd 1,gL jd 2,gL jd 3,gG jd 0,gG jd 1,gG jd 2,Ed,J6 vP lX,xH,UM⟩) p;have agq:=q 0 vn vo vp age kE.1 Ij fun hr u p=>afT (by exact⟨u,gL kE 0,gL kE 1,gL kE 2,gL kE 3,gG kE 0,gG kE 1,gG kE 2,Ed,J6 vP lX,xH⟩) p;have Ef:=q 2 gY eW gZ Ea bX.1 mV fun hr u p=>DQ (by exact⟨u,gL bX 0,gL bX 1,gL bX 2,gG bX 0,gG bX 1,gG bX 2,gG bX 3,gG bX 4,Ck,kJ,bG ad4 hr,bG ad5 hr,agk,Bu,iJ⟩) p;have Gb:=q 0 iN fH iO F3 cK.1 oE fun hr u p=>Fp (by exact⟨u,gL cK 0,gL cK 1,gL cK 2,gL cK 3,gL cK 4,gG cK 0,gG cK 1,nh,J6 vP lX,Bu,iJ,lg⟩) p;have uE:=q 0 g5 g6 g7 aaW vt.1 Eb fun hr u p=>aax (by exact⟨u,gL vt 0,gL vt 1,gG vt 0,kJ⟩) p;have Eg:=q 1 g8 eX g9 Ec dH.1 mW fun hr u p=>DU (by exact⟨u,gL dH 0,gL dH 1,gL dH 2,gG dH 0,gG dH 1,nh,bG uE hr,Bu,lY,lg,iJ⟩) p;have KR:=q 3 jS ic jT KH dh.1 rC fun hr u p=>Kp (by exact⟨u,gL dh 0,gL dh 1,gL dh 2,gG dh 0,gG dh 1,gG dh 2,gG dh 3,kJ,bG Ef hr,bG Gb hr,bG Eg hr,Bu,lg,iJ,lY⟩) p;have vQ:=q 1 fJ cU fK F4 dZ.1 oF fun hr u p=>Fv (by exact⟨u,gL dZ 0,gL dZ 1,gG dZ 0,gG dZ 1,gG dZ 2,bG Cm hr,kJ,avc⟩) p;have Gd:=q 0 kF kG kH UA CF.1 yW fun hr u p=>Uc (by exact⟨u,gL CF 0⟩) p;have Ge:=q 2 iP iQ iR F5 gn.1 oG fun hr u p=>Fy (by exact⟨u,gL gn 0,gL gn 1,gG gn 0,gG gn 1,bG Gd hr,bG vQ hr⟩) p;have zE:=q 1 iy iz iA KJ i7.1 rD fun hr u p=>Kr (by exact⟨u,gL i7 0,gL i7 1,gG i7 0,gG i7 1,bG uE hr,bG Gd hr,iB,fW⟩) p;have KS:=q 2 jU jV jW KL d7.1 rE fun hr u p=>Ku (by exact⟨u,gL d7 0,gL d7 1,gL d7 2,gG d7 0,gG d7 1,gG d7 2,bG uE hr,bG zE hr,bG Cm hr,iB,fW⟩) p;have Gf:=q 3 iS fL iT F6 c9.1 oH fun hr u p=>FD (by exact⟨u,gL c9 0,gL c9 1,gL c9 2,gL c9 3,gG c9 0,gG c9 1,kJ,bG KS hr,ad2,iB,dw,qH,sO,k9⟩) p;have PV:=q 2 kX kY kZ O6 fD.1 uz fun hr u p=>Ob (by exact⟨u,gL fD 0,gL fD 1,gL fD 2,gG fD 0,gG fD 1,gG fD 2,bG uE hr,J6 ad3 F7,bG zE hr,iB,dw⟩) p;have PX:=q 3 k6 k7 k8 O7 bD.1 uA fun hr u p=>Oe (by exact⟨u,gL bD 0,gL bD 1,gL bD 2,gL bD 3,gL bD 4,gG bD 0,gG bD 1,gG bD 2,gG bD 3,gG bD 4,gG bD 5,gG bD 6,gG bD 7,gG bD 8,XQ,ali,bG uE hr,PJ,bG Cm hr,alg,J6 aon PF,alh,bG PV hr,iB,dw⟩) p;have IX:=q 4 jo gq jq Ik fh.1 pM fun hr u p=>HQ (by exact⟨u,gL fh 0,gL fh 1,gL fh 2,gG fh 0,gG fh 1,PJ,bG PX hr,iB,k9⟩) p;have alr:=q 5 yO ur yP akX gC.1 O8 fun hr u p=>akz (by exact⟨u,gL gC 0,gG gC 0,gG gC 1,gG gC 2,gG gC 3,gG gC 4,gG gC 5,gG gC 6,gG gC 7,gG gC 8,gG gC 9,bG KR hr,bG vQ hr,bG Ge hr,bG Gf hr,bG IX hr,iB,oR,dw,fW⟩) p;have asE:=q 8 FI FJ FL asA iU.1 aaX fun hr u p=>ass (by exact⟨u,gL iU 0,gL iU 1,gL iU 2,gL iU 3,gL iU 4,gL iU 5,gL iU 6,gG iU 0,gG iU 1,gG iU 2,gG iU 3,gG iU 4,gG iU 5,gG iU 6,gG iU 7,bG abH hr,bG alq hr,bG XY hr,⟨⟨_,_,_,by rw[kI];exact⟨FZ,sH,sJ,F0⟩,Ga,by rw[kI];exact ad1,F8⟩,hr.mono Q.c⟩,⟨⟨_,_,_,by rw[vC];exact⟨LZ,vK,vN,L0⟩,JS,by rw[vC];exact alf,JQ⟩,hr.mono Q.c⟩,bG abJ hr,bG agq hr,bG alr hr,Ed,J6 vP lX,F9,xH⟩) p;have als:∀dd,oS l.prog w K mg base J2 (1+dd) Uo adT ["found","due"] (spA K (cl aJ aT) 2 xE (pK dd) xF):=by
   intro dd
   induction dd using Nat.strongRecOn with
   | ind dd ih=>
     rw[show 1+dd=(0+dd)+1 by omega];exact R9 L1 jz.1 fun uH Ar outer s H E b a hr hp=>by
       refine an8 (dd:=dd) ?_ hp;exact⟨⟨⟨jz.nd,rfl,.never⟩,hr.units⟩,gL jz 0,gL jz 1,gL jz 2,gG jz 0,gG jz 1,gG jz 2,gG jz 3,gG jz 4,gG jz 5,gG jz 6,UN,UL,UM,kJ,Ck,fun d' hd=>⟨⟨_,_,_,ih d' hd,adZ,L1.kp,ad0⟩,hr.mono Q.a⟩,asD⟩
 have aoq:=als 8;have aor:=aui aoq adZ L1.kp ad0;have asF:=q 9 FN FP FQ asB Ce.1 aaY fun hr u p=>asv (by exact⟨u,gL Ce 0,gL Ce 1,gL Ce 2,gL Ce 3,gG Ce 0,bG aor hr,iB,Bu,oR,fW,dw,lg,iJ,lY,qH,sO,k9⟩) p;have avd:oS l.prog w K mg base J2 11 _ _ ["script"] (spA K (cl aJ aT) 1 Cg Ci Cj):=R9 akY pL.1 fun uH Ar outer s H E b a hr hp=>by
   refine au8 ?_ hp;exact⟨⟨⟨pL.nd,rfl,.never⟩,hr.units⟩,gL pL 0,gL pL 1,gL pL 2,gL pL 3,gL pL 4,gL pL 5,gG pL 0,gG pL 1,gG pL 2,gG pL 3,gG pL 4,bG abD hr,bG abE hr,bG aop hr,bG asE hr,bG asF hr,iB,dw,k9,qH⟩
 exact avd.imp (arc (fun _=>rfl) (fun _=>rfl) fun x hx=>asz hx)
def walk{l:PySem.W.OpenLaw}{q:Program}{loose:AT}{XP:B0->Heap->Prop}{YP:World->Heap->Prop}{d:DefRec}{K:Params->Frag}(hn:l.most=some 63)(hdf:d.params.defaults=[])
   (hY:∀(w:World) (h:Heap),YP w h->(K w.params).In h)
   (F:∀(w:World) (mg:B0) (fa:Addr) (h:Heap),(K w.params).In h->h.Ns mainGlobals mg->mg d.name=some (.ref fa) →
     ∃fd:FuncData,(∀(s:Shared) (u:Value),BindsTo s fd ⟨[u],[]⟩ [("script",u)])/\∀base:Heap,(K w.params).In base->base.Ns mainGlobals mg->oS l.prog w (K w.params) mg base J2 11 fa fd ["script"] (spA (K w.params) (fun _=>0) 1 Cg Ci Cj)) :
   PySem.W.WalkO q loose XP YP l.row.toRowW d [] (fun f vs=>PySem.call f vs):=
 L2.amo (n:=63) (k:=11) (x:="script") (CX:=fun _=>J2) (sp:=fun w=>spA (K w.params) (fun _=>0) 1 Cg Ci Cj) hn Q.c hdf ⟨rfl,Wp,Wp⟩ hY F (fun _ _ a ns hl _ hS=>aq8 rfl hl rfl hS) fun _ _ _ _ _ z=>z
end Law
end
namespace PySem.W.Fast
def tw20158476526786871:=0
def tw1543191638065417178:=0
def tw7037995823258138764:=0
def tw15867707304755095592:=0
def tw17784933454739617098:=0
def tw15985626015090122220:=0
def tw3251785263059562609:=0
def tw2170156951742984249:=0
def tw4466901427455219501:=0
def tw7241670633675648534:=0
def tw6770395455209679346:=0
def tw8350674177618783420:=0
def tw1916791806186064698:=0
def tw12997674830294886446:=0
def tw7572712345037429160:=0
def tw14873249267554539929:=0
def tw5195340928205519058:=0
def tw5366583080583440742:=0
def tw6367490961506403872:=0
def tw17442133992910765414:=0
def tw18349835535736547820:=0
def tw16442141994074695042:=0
def tw13870829133941949956:=0
def tw9574777752423837171:=0
def tw17514813582540657165:=0
def tw15576238796813472615:=0
def tw4740111137180638597:=0
def tw5582912979191124001:=0
def tw1900542569600507413:=0
def tw392846552071508685:=0
def tw6409557192550663822:=0
def tw8138371845328489950:=0
def tw9178886594955644716:=0
def tw13146337744281030606:=0
def tw1817810711983932651:=0
def tw8872351854745456200:=0
def tw6891765716422810658:=0
def tw6740238947014293856:=0
def tw2384193063857899148:=0
def tw14392898662318089469:=0
def tw8177260419647060586:=0
def tw4050343012024823733:=0
def tw1167902207493517051:=0
def tw6689274843302990318:=0
def tw5700643819867744279:=0
def tw1095510418257239567:=0
def tw8312977540042210675:=0
def tw6748326582482980052:=0
def tw6999569559793318186:=0
def tw4414418070671328943:=0
def tw13015050983774935817:=0
def tw16346360797080736527:=0
def tw16815885356059044717:=0
def tw16859821190778959667:=0
def tw8568213675513827168:=0
def tw8791610696367305426:=0
def tw4464829363196259084:=0
def tw10393317480507837807:=0
def tw11453357090865504440:=0
def tw15397814642018405912:=0
def tw12982748673787649768:=0
def tw9736901337115880400:=0
def tw16519160130382839899:=0
def tw12896289516997029591:=0
def tw8867986993266707137:=0
def tw5746146074109987074:=0
def tw6765441042308347656:=0
def tw7303331245359780456:=0
def tw5042157163653326446:=0
def tw8319878283015350744:=0
def tw1132407174023235679:=0
def tw9989823821186606548:=0
def tw9613092408915607868:=0
def tw13150633912420606426:=0
def tw8300468035885652838:=0
def tw5064095783635316102:=0
def tw13148196994493376279:=0
def tw6594252592212887068:=0
def tw12784939430851960685:=0
def tw9713448468694111878:=0
def tw13101117204039856033:=0
def tw13026846141793177955:=0
def tw2760345205080115310:=0
def tw2093882458823738743:=0
def tw1788617576032327848:=0
def tw7851471897204009791:=0
def tw12530935999844568116:=0
def tw9303419910077727161:=0
def tw15140761869340794967:=0
def tw16215128750212123273:=0
def tw5639714704423702950:=0
def tw10443146890664346756:=0
def tw10401355215351915399:=0
def tw3129264116535370837:=0
def tw14971165998942667754:=0
def tw13589165529443557078:=0
def tw6528151254572848934:=0
def tw12348815564770090730:=0
def tw15352076764518214563:=0
def tw1103452335217948282:=0
def tw15916116779022851923:=0
def tw7318898381639722862:=0
def tw1244278596923865616:=0
def tw10438799216114293589:=0
def tw7105143346190331993:=0
def tw1444704264144439849:=0
def tw16143874363891268976:=0
def tw17423521637973067004:=0
def tw7609620962079757359:=0
def tw5417196918700801479:=0
def tw15686633623917111171:=0
def tw12293793481774008008:=0
end PySem.W.Fast
open PySem PySem.W PyProof.Rows L2
set_option maxRecDepth 100000 in
set_option maxHeartbeats 0 in
theorem PySem.Challenge.cw_moodtree_k24_whole_read_back_holds : PySem.Challenge.rw_moodtree_k24_whole_read_back.Holds := by
 w_on; o_law; k_head; (case hw => w_witness2)
 k_fill
 refine Law.walk (l := PySem.Challenge.rw_moodtree_k24_whole_read_back) rfl rfl (fun w h Y => PySem.W.kIn_of Y) ?F
 case F =>
   intro w mg fa h KX G hmg
   refine' Law.all_mk KX G hmg ?Uq ?OL ?OO ?OQ ?OS ?FZ ?F0 ?wm ?wo ?yR ?Be ?yS ?yT ?aaL ?Ur ?Us ?Ut ?Uu ?LZ ?L0 ?yU ?wA ?wB ?HV (aQ ?agr ?ags ?agt) ?Uv (aQ ?aos ?aot ?aou) ?Bf (aQ ?XZ ?X3 ?X4) ?HW (aQ ?agu ?agv ?agw) ?DY (aQ ?abK ?abL ?abM) ?DZ (aQ ?abN ?abO ?abP) ?Bg (aQ ?X5 ?X6 ?X7) ?HX (aQ ?agx ?agy ?agz) ?OU (aQ ?alu ?alv ?alw) ?OV (aQ ?alx ?aly ?alz) ?HY (aQ ?agA ?agB ?agC) ?D0 (aQ ?abQ ?abR ?abS) ?vK ?vN (aQ ?X8 ?X9 ?Yb) ?sH ?sJ (aQ ?UQ ?UR ?UT) ?D3 (aQ ?abT ?abU ?abV) ?OX (aQ ?alA ?alB ?alC) ?Bh (aQ ?Yc ?Yd ?Ye) ?D4 (aQ ?abW ?abX ?abY) ?Bj (aQ ?Yg ?Yh ?Yi) ?D5 (aQ ?abZ ?ab0 ?ab1) ?Bk (aQ ?Yj ?Yk ?Yl) ?Uw (aQ ?aov ?aow ?aox) ?Ux (aQ ?aoy ?aoz ?aoA) ?Bl (aQ ?Ym ?Yn ?Yo) ?Uy (aQ ?aoB ?aoC ?aoD) ?OY (aQ ?alD ?alE ?k_places) ?D6 (aQ ?ab2 ?ab3 ?ab4) ?rz (aQ ?KW ?KY ?KZ) ?rA (aQ ?K0 ?K1 ?K2) ?ux (aQ ?PY ?PZ ?P0) ?uy (aQ ?P1 ?P4 ?P5) ?rB (aQ ?K3 ?K4 ?K5) ?D7 (aQ ?ab5 ?ab6 ?ab7) ?HZ (aQ ?agD ?agE ?agF) ?Ic (aQ ?agG ?agH ?agI) ?wC (aQ ?QB ?QC ?QD) ?Bm (aQ ?Yp ?Yq ?Yr) ?Bo (aQ ?Ys ?Yt ?Yu) ?Ie (aQ ?agJ ?agK ?agL) ?Ig (aQ ?agM ?agN ?agO) ?D8 (aQ ?ab8 ?ab9 ?acd) ?Ih (aQ ?agP ?agQ ?agR) ?O2 (aQ ?alF ?alG ?alH) ?O4 (aQ ?alI ?alJ ?alK) ?yV (aQ ?UU ?UW ?UX) ?Ii (aQ ?agS ?agT ?agU) ?Bp (aQ ?Yv ?Yw ?Yx) ?O5 (aQ ?alL ?alM ?alN) ?Bq (aQ ?Yy ?Yz ?YB) ?D9 (aQ ?ace ?acf ?acg) ?Ij (aQ ?agV ?agW ?agX) ?mV (aQ ?Eh ?Ei ?Ej) ?oE (aQ ?Gg ?Gh ?Gi) ?Eb (aQ ?ach ?aci ?acj) ?mW (aQ ?Ek ?El ?Em) ?rC (aQ ?K6 ?K7 ?K8) ?oF (aQ ?Gj ?Gk ?Gm) ?yW (aQ ?UY ?UZ ?U0) ?oG (aQ ?Gn ?Gp ?Gq) ?rD (aQ ?K9 ?La ?Lb) ?rE (aQ ?Lc ?Ld ?Le) ?oH (aQ ?Gr ?Gs ?Gu) ?uz (aQ ?P6 ?P7 ?P8) ?uA (aQ ?P9 ?Qa ?Qc) ?pM (aQ ?IY ?IZ ?I0) ?O8 (aQ ?alO ?alP ?alQ) ?aaX (aQ ?asG ?asH ?asI) ?UB (aQ ?aoE ?aoF ?aoG) ?aaY (aQ ?asJ ?asK ?k_same) ?adU (aQ ?ave ?avf ?avh) ?akZ ?UC ?ak0 ?aaZ ?ak1 ?aa0 ?aa1 ?UD ?O9 ?aa2 ?ak3 ?Pa ?Br ?UE ?ak4 ?aa3 ?Il ?UG ?lX ?Pb ?uB ?UH ?Pg ?Im ?jL ?uC ?Io ?ak9 ?Bt ?sL ?sM ?sN ?oJ ?oK ?oM ?oN ?oO ?oQ ?UI ?F7 ?UJ ?PB ?PD ?IJ ?IK ?IL ?IQ ?IU ?IV ?IW ?alc ?UK ?PF ?yZ ?y_bool
   case Uq | OL | OO | OQ | OS | FZ | F0 | wm | wo | yR | Be | yS | yT | aaL | Ur | Us | Ut | Uu | LZ | L0 | yU | wA | wB | HV | agr | ags | agt | Uv | aos | aot | aou | Bf | XZ | X3 | X4 | HW | agu | agv | agw | DY | abK | abL | abM | DZ | abN | abO | abP | Bg | X5 | X6 | X7 | HX | agx | agy | agz | OU | alu | alv | alw | OV | alx | aly | alz | HY | agA | agB | agC | D0 | abQ | abR | abS | vK | vN | X8 | X9 | Yb | sH | sJ | UQ | UR | UT | D3 | abT | abU | abV | OX | alA | alB | alC | Bh | Yc | Yd | Ye | D4 | abW | abX | abY | Bj | Yg | Yh | Yi | D5 | abZ | ab0 | ab1 | Bk | Yj | Yk | Yl | Uw | aov | aow | aox | Ux | aoy | aoz | aoA | Bl | Ym | Yn | Yo | Uy | aoB | aoC | aoD | OY | alD | alE | k_places | D6 | ab2 | ab3 | ab4 | rz | KW | KY | KZ | rA | K0 | K1 | K2 | ux | PY | PZ | P0 | uy | P1 | P4 | P5 | rB | K3 | K4 | K5 | D7 | ab5 | ab6 | ab7 | HZ | agD | agE | agF | Ic | agG | agH | agI | wC | QB | QC | QD | Bm | Yp | Yq | Yr | Bo | Ys | Yt | Yu | Ie | agJ | agK | agL | Ig | agM | agN | agO | D8 | ab8 | ab9 | acd | Ih | agP | agQ | agR | O2 | alF | alG | alH | O4 | alI | alJ | alK | yV | UU | UW | UX | Ii | agS | agT | agU | Bp | Yv | Yw | Yx | O5 | alL | alM | alN | Bq | Yy | Yz | YB | D9 | ace | acf | acg | Ij | agV | agW | agX | mV | Eh | Ei | Ej | oE | Gg | Gh | Gi | Eb | ach | aci | acj | mW | Ek | El | Em | rC | K6 | K7 | K8 | oF | Gj | Gk | Gm | yW | UY | UZ | U0 | oG | Gn | Gp | Gq | rD | K9 | La | Lb | rE | Lc | Ld | Le | oH | Gr | Gs | Gu | uz | P6 | P7 | P8 | uA | P9 | Qa | Qc | pM | IY | IZ | I0 | O8 | alO | alP | alQ | aaX | asG | asH | asI | UB | aoE | aoF | aoG | aaY | asJ | asK | k_same | adU | ave | avf | avh | akZ | UC | ak0 | aaZ | ak1 | aa0 | aa1 | UD | O9 | aa2 | ak3 | Pa | Br | UE | ak4 | aa3 | Il | UG | lX | Pb | uB | UH | Pg | Im | jL | uC | Io | ak9 | Bt => (try delta L3.jH); k_is
   case sL => decide
   case sM => (try delta L3.jH); k_is
   case sN => k_keys
   case oJ | oK | oM | oN | oO | oQ | UI | F7 | UJ | PB => (try delta L3.jH); k_is
   case PD => k_keys
   case IJ | IK | IL | IQ | IU | IV | IW | alc | UK | PF | yZ | y_bool => (try delta L3.jH); k_is
