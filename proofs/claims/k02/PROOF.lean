import PyProof.Rows.All
import Wide.All
import OpenK.AllK
import Wide.FinOn
import Lean
import PyProof.EqAt
import PyProof.EqKinds
import PyProof.TupleCall
import PySem.Challenge.RW_retrace_k02_programs_refused
set_option genSizeOf false
set_option compiler.extract_closed false
set_option bootstrap.genMatcherCode false
set_option Elab.async false
set_option linter.all false
set_option maxHeartbeats 4000000
set_option maxRecDepth 100000
open PySem renaming wpAny→aa0,Shared→aa1,mainGlobals→aa4,model→aa5,bootBuiltins→aa6,starEach→aa9,Program→ab0,World→ab1,behindInMarks→ab2,attributeBase→ab3,Around→ab4,FuncData→ab5,sysModules→ab6,rawInt→ab7,foldedSetIterable→ab8,assignEach→ab9,IsPair→ac0,compareOp→ac1,swapsWith→ac2,codeAny→ac3,Keyword→ac4,backTo→ac5,sliceBounds→ac6
open PySem renaming wpAny_bind→aa,wpAny_pure→ak,wpAny_field→bh,wpAny_newObj_type→bT,wpAny_callSpecial?_slot→bW,wpAny_setField_rec→cj,wpAny_seqItems→cu,wpAny_holding→cD,wpAny_truthy_bool→cS,wpAny_call_entry→di,wpAny_passesOwn→dv,wpAny_mono→eD,wpAny_updateSeq_pair→eU,wpAny_rule→fe,wpAny_Call_Name_kw→fS,codeAny_builtin→fZ,wpAny_onRaise→gh,wpAny_setField→gR,mem_of_lookup→ik,wpAny_attempt→iF,wpAny_pyIter_tuple→iP,wpAny_getItem_str_slice→iW,codeAny_mono→jD,wpAny_execs_nil→lF,wpAny_typeOf→lR,call_meets→mW,tupleKind_room_in1→mX,wpAny_letGo→oh,wpAny_pyIter_list→oi,wpAny_call→qM,post_val_or_str→rq,plainId_quiet→xC,strKind_is→xF,wpAny_sequenceKey→zm,noFill_tuple_add→Dh,wpAny_isInstance→Dk,sizeLine_eq→EU,wpAny_of_eq→EW,isSubtype_stop→Kc,wpAny_newFunctionEnv_cells→Ke,wpAny_letOwnedTupleGo_zip→Ox,evalPart_none→P6,seq_tuple_add→P7,wpAny_comprehension_free→P9,wpAny_standAt→Qa,wpAny_pyNext_tuple_item→UR,codeAny_compStart_list→Vp,concat_meets→Vq,seqIndex_neg→Vr,wpAny_Call_method_late→Vs,wpAny_pyNext_list_item→Vt,codeAny_call_function→Y5,wpAny_isTrue_Compare1→Y6,wpAny_pyNext_list_end→Y7,codeAny_call_builtin→k_,seqIndex_of→l_,wpAny_newFunctionEnv→m_,codeAny_forLoop_any→abQ
open PySem.Heap renaming get?_push_of_some→ae,get?_push_size→aG,lt_size→aI,get?_update_other→bZ,size_push→c7,get?_update_self→dy
open List renaming length_map→ah,length_append→ai,all_eq_true→aj,getElem?_eq_some_iff→aw,mem_cons_of_mem→ax,all_cons→aB,size_toArray→aD,length_cons→aF,getElem?_eq_getElem→aK,mem_cons_self→aL,mem_append_right→aM,mem_cons→aN,mem_singleton→aO,map_cons→aP,mem_of_getElem?→aS,getElem?_append_left→aV,getElem?_append_right→bg,mem_append→bu,all_append→bA,getElem?_map→bP,length_take→bQ,map_append→bR,append_nil→bS,length_replicate→bV,take_sublist→cg,getElem?_set_self→cx,nodup_cons→cA,length_set→c8,getElem?_set_ne→dc,append_assoc→dq,mem_append_left→dO,getElem?_cons_succ→dS,length_range→dU,nodup_append→dW,replicate_succ→dZ,take_succ_cons→d7,mem_map→eh,not_mem_nil→ek,forIn_cons→eM,drop_sublist→eQ,map_nil→eR,filterMap_cons→fA,filter_cons_of_neg→fC,filter_cons_of_pos→fD,getElem?_replicate→fE,nodup_nil→fF,take_length→fG,take_append_drop→gn,flatten_cons→gA,forIn_nil→gQ,all_map→gZ,getElem_inj→g5,lookup_cons→g6,any_cons→iA,getElem?_take_of_lt→iB,find?_cons→iM,reverse_cons→jA,take_zero→jB,cons_lt_cons_iff→jX,getElem?_eq_none→jY,getElem?_toArray→jZ,getElem_mem→j6,nil_append→lE,take_sublist_take_left→lO,mem_filterMap→mQ,mem_range→mR,getElem?_eq_none_iff→nE,getElem?_cons_zero→pM,length_drop→pN,length_eq_zero_iff→pO,zipIdx_cons→pP,take_of_length_le→qI,of_mem_zip→rj,zipIdx_nil→rm,getElem?_of_mem→uw,mem_of_mem_take→ux,length_reverse→vH,map_map→zh,length_nil→E9,mem_filter→Fb,drop_zero→J7,getD_eq_getElem?_getD→J8,take_left→J9,length_erase_of_mem→PY,drop_of_length_le→Vj,getElem_cons_drop→Vk,length_pos_of_mem→Vl,mem_erase_of_ne→j_,getElem?_range→abN,replicate_zero→abO
open Nat renaming eq_of_beq_eq_true→ao,le_refl→au,le_trans→aA,le_of_ble_eq_true→aU,ne_of_lt→aW,lt_of_lt_of_le→bw,zero_le→cI,le_add_right→de,lt_irrefl→dG,ne_of_gt→fR,ble_eq_true_of_le→j3,min_le_right→j7,beq_refl→lP,lt_of_le_of_lt→mS,one_le_two_pow→mT,lt_succ_of_lt→og,lt_succ_self→pQ,le_of_eq→zj,pow_succ→zk,add_le_add→Ka,le_of_lt→Vm,zero_add→Vn
open Bool renaming and_eq_true→ay,false_ne_true→aH,eq_false_iff→bG,eq_iff_iff→cq,and_true→cZ,or_eq_true→dX,true_and→f9,false_bne→jy,beq_eq_decide_eq→jW,true_bne→kx,and_false→mO,false_eq_true→mP,or_false→xB,not_eq_true'→ze,or_true→zf,or_eq_false_iff→h_
open PySem.W renaming mg_of→bq,mg_none_of→bM,kia_one→cB,callWith_K→mU,cellsFrom_some→qK,mapOf_K→Fc,looks_subIn→abP
open PyProof.Rows renaming slot_tuple_getitem→bI,callWith_type1→gB,gl_int→oq,subscriptTail_builtinR→qL,slicePart_none→uy,vals1→uz,entry_tuple_getitem→vJ,args_tuple_getitem→xE,take_snoc→Dj,Subscript_→Kb,Constant_none→PX,tupleItemsOf_→P8
open Array renaming length_toList→bX,getElem?_eq_some_iff→gP,getElem?_toList→Y3
open Option.some renaming inj→cL
open Ne renaming symm→cR
open PySem.F renaming plainAttrs_list→dh,slot_tuple_iterator_next→dm,slot_zip_next→eL,slot_list_append→iD,type_list_append→iE,slot_list_count→iV,args_tuple_iterator_next_1→lB,entry_tuple_iterator_next→lN,args_zip_next_1→nZ,slot_list_getattribute→oj,args_tuple_add_2→om,entry_zip_next→pK,entry_tuple_add→pR,slot_tuple_add→qJ,args_list_count_2→Ov,slot_dict_getitem→Ow,entry_list_count→P0,slot_dict_update→P5,attr_ValueError→UN,plainAttrs_dict→UO,slot_list_index→UP,type_list_count→UQ,slot_dict_get→Y4,args_object_init_3→i_
open Option renaming isSome_iff_exists→dH,map_some→rn,isSome_map→zl,map_eq_some_iff→Vo
open Int renaming ofNat_eq_natCast→eP,eq_ofNat_of_zero_le→fB,emod_lt_of_pos→iN,emod_nonneg→lD,toNat_natCast→oa,toNat_of_nonneg→abM
open PySem.Around renaming under_plainId→gO
open PySem.Heap.SameBut renaming update→ij
open PySem.Obj renaming data_mapFields→iO,isFreed_of_fields→rY
open PySem.Calls renaming callWith_builtin→jz,evalArgs_plain→ky,spliced_cons→xD,spliced_nil→zg,Name_function_global→J4
open PySem.Txt renaming slice_le→lQ
open PyProof.Rows.F renaming plain_set_update_loop→pL,entry_set_update_loop→UL
open PySem.PassesOwn renaming never→rp
open LawfulBEq renaming eq_of_beq→uQ
open PySem.Value renaming isStrOf_shape→vI
open PySem.Draws renaming strAscii→J5
open PySem.Paired renaming length→PZ
open PyProof.Rows.IsTup renaming new→UM
theorem f8(h:True:=by rfl):True:=h
def o0:Lean.Syntax:=f8._auto_1
theorem u8(h:True:=by decide):True:=h
def v0:Lean.Syntax:=u8._auto_1
theorem W1(h:True:=by first|exact .inl rfl|exact .inr rfl|assumption):True:=h
def ac7:Lean.Syntax:=W1._auto_1
theorem ac8(h:True:=by decide +kernel):True:=h
def ac9:Lean.Syntax:=ac8._auto_1
theorem ad0(h:True:=by intro _;rfl):True:=h
def ad1:Lean.Syntax:=ad0._auto_1
noncomputable section
abbrev dw:=PySem.Value->PySem.Shared->Prop
open PySem.Builtin.SmallTypes renaming nextOf→q0',ownedTupleHandOut→q1',ownedTupleIsFree→q2'
abbrev aP7:=List (PySem.Addr×PySem.Obj)
abbrev mG7:=PySem.Str->Option PySem.Value
abbrev lS7:=List PySem.Str
section
open PySem PySem.Spec PyProof.Rows
def aT:=@decide_eq_true
def aX:=@of_decide_eq_true
def aY:=@decide_eq_false
def bF:=@if_pos
def bJ:=@if_neg
def cP:=@beq_eq_false_iff_ne
def eB:=@congrArg
def eS:=@decide_eq_true_eq
def fH:=@beq_self_eq_true
def jE:=@if_true
def mV:=@beq_iff_eq
def pS:=@if_false
def pT:=@or_false
end
open PySem.W (instObj methodObj Frag lookIn plainGet hasDictIn findIn handedIn plainOver takerIn Looks makesIn typeIn emptyDict specialIn takesIn mroIn kitOne keepIn isFn fnOf codeIn OpenLaw WalkO KeysLit excIn clsIn subIn KitX nsIn kitCls findObj kIn_of)
namespace L2
open PySem PySem.Spec PyProof.Rows
variable{P prog:ab0}{w:ab1}{H H':Hp}{h h' base:Heap}{a b dx C it:Addr}{o:HO}{x name m qual:Str}{e tg c:Expr}{X:Cx}{pins:aP7}{σ:St}{s s':aa1}{ta tb te:TE}{pos pos' p apos:Pos}{xs vs:List V}{E:dw}{t:TA}{u:Value}{A:ab4}{K:Frag}{f:Value->Value->Sem Value}{mA mg:mG7}{v:V}{Q:Unit->aa1->Prop}{es:List Expr}{CX:vK}{k t' i j n:Nat}{fd:ab5}{ps N:lS7}{sp:Sp}{r r':R2}{us:List Value}{g':Array GenState}{d':Drawn}{ch fp:List Addr}{M:Model}{α:Type}{R:V->V->Hp->Prop}{op MF:CmpOp}{D:Ends}{body:List Stmt}{kw:List (Str×Value)}{outer:List Env}{scope:Scope}
abbrev Key:=Sum Int Str
noncomputable def vh:Key->Value->Bool
 |.inl k,v=>Value.isInt k v
 |.inr x,v=>Value.isStrOf x v
def aaC(w:ab1):Key->Int
 |.inl k=>hashInt k
 |.inr x=>hashStr w x
theorem dY:∀{k:Key}{v:Value},vh k v=true->(∃i t,k=Sum.inl i/\v=Value.int i t)\/(∃x t,k=Sum.inr x/\v=Value.str x t)
 |.inl i,v,h=>by
  obtain⟨t,e⟩:=Value.isInt_shape (k:=i) (v:=v) h
  exact .inl ⟨i,t,rfl,e⟩
 |.inr x,v,h=>by
  obtain⟨t,e⟩:=vI (x:=x) (v:=v) h
  exact .inr ⟨x,t,rfl,e⟩
theorem DZ(i:Int)(t:Tok):vh (.inl i) (.int i t)=true:=by simp[vh,Value.isInt]
theorem D0(x:Str)(t:Tok):vh (.inr x) (.str x t)=true:=by simp[vh,Value.isStrOf]
theorem RQ(a b:Int):decide ((Sum.inl a:Key)=Sum.inl b)=(a == b):=by
 by_cases e:a=b
 ·subst e;simp
 ·have h : ¬ (Sum.inl a:Key)=Sum.inl b:=λq=>e (Sum.inl.inj q)
  rw[aY h]
  exact(cP.mpr e).symm
theorem RU(a b:Str):decide ((Sum.inr a:Key)=Sum.inr b)=decide (a=b):=by
 by_cases e:a=b
 ·subst e;simp
 ·have h : ¬ (Sum.inr a:Key)=Sum.inr b:=λq=>e (Sum.inr.inj q)
  rw[aY h,aY e]
theorem RR(a:Int)(b:Str):decide ((Sum.inl a:Key)=Sum.inr b)=false:=aY (λq=>nomatch q)
theorem RT(a:Str)(b:Int):decide ((Sum.inr a:Key)=Sum.inl b)=false:=aY (λq=>nomatch q)
def cX(prog:ab0)(w:ab1):PySem.KeyKind prog w Key where
 is:=vh
 hash:=aaC w
 inj:=λv a b ha hb=>by
  rcases dY ha with ⟨i,t,rfl,rfl⟩|⟨x,t,rfl,rfl⟩
  ·rcases dY hb with ⟨j,u,rfl,e⟩|⟨y,u,rfl,e⟩
   ·injection e with e1 _;rw[e1]
   ·exact nomatch e
  ·rcases dY hb with ⟨j,u,rfl,e⟩|⟨y,u,rfl,e⟩
   ·exact nomatch e
   ·injection e with e1 _;rw[e1]
 byValue:=λk v h=>by
  rcases dY h with ⟨i,t,rfl,rfl⟩|⟨x,t,rfl,rfl⟩<;>rfl
 pyHash:=λhv h=>by
  rcases dY hv with ⟨i,t,rfl,rfl⟩|⟨x,t,rfl,rfl⟩
  ·exact wpAny_pyHash_int h
  ·exact wpAny_pyHash_str h
 eqBool:=λhu hv h=>by
  rcases dY hu with ⟨i,t,rfl,rfl⟩|⟨x,t,rfl,rfl⟩
  ·rcases dY hv with ⟨j,u,rfl,rfl⟩|⟨y,u,rfl,rfl⟩
   ·rw[RQ] at h;exact wpAny_eqBool_int h
   ·rw[RR] at h;exact SeqAt.EqAt.int_str i t y u _ _ _ _ h
  ·rcases dY hv with ⟨j,u,rfl,rfl⟩|⟨y,u,rfl,rfl⟩
   ·rw[RT] at h;exact SeqAt.EqAt.str_int x t j u _ _ _ _ h
   ·rw[RU] at h;exact wpAny_eqBool_str h
 «strs»:=λk x t v h=>by
  rcases dY h with ⟨i,u,rfl,e⟩|⟨y,u,rfl,e⟩
  ·exact nomatch e
  ·injection e with e1 _
   subst e1
   cases v<;>rfl
theorem qD(prog:ab0)(w:ab1)(i:Int)(t:Tok):(cX prog w).is (.inl i) (.int i t)=true:=DZ i t
theorem qE(prog:ab0)(w:ab1)(x:Str)(t:Tok):(cX prog w).is (.inr x) (.str x t)=true:=D0 x t
inductive V where
 |non|bl (b:Bool)|int (i:Int)|str (x:Str)|E2 (b:Array UInt8)|Le (b:UInt64)|ref (a:Addr)|ty (n:String)
 deriving DecidableEq
def RelV:V->Value->Prop
 |.non,u=>u=Value.none
 |.bl b,u=>u=Value.bool b
 |.int i,u=>∃t,u=Value.int i t
 |.str x,u=>∃t,u=Value.str x t
 |.E2 b,u=>∃t,u=Value.bytes b t
 |.Le b,u=>∃t,u=Value.float b t
 |.ref a,u=>u=Value.ref a
 |.ty n,u=>u=Value.type n
abbrev Vals:List V->List Value->Prop:=Paired RelV
theorem Vals.length(r:Vals xs us):xs.length=us.length:=PZ r
theorem Vals.get:∀{xs:List V}{us:List Value}{i:Nat}{x:V},Vals xs us->xs[i]?=some x->∃u,us[i]?=some u/\RelV x u
 |_,_,_,_,.nil,e=>by simp at e
 |_,_,0,_,.cons r _,e=>by simp at e;subst e;exact⟨_,rfl,r⟩
 |_,_,i+1,x,.cons _ t,e=>by
  obtain⟨u,h1,h2⟩:=Vals.get (i:=i) (x:=x) t (by simpa using e)
  exact⟨u,by simpa using h1,h2⟩
theorem Vals.set{x:V}{u:Value}(r:RelV x u):∀{xs:List V}{us:List Value} (i:Nat),Vals xs us->Vals (xs.set i x) (us.set i u)
 |_,_,_,.nil=>.nil
 |_,_,0,.cons _ t=>.cons r t
 |_,_,i+1,.cons q t=>.cons q (Vals.set r i t)
theorem Vals.append:∀{xs ys:List V}{us ws:List Value},Vals xs us->Vals ys ws->Vals (xs++ys) (us++ws)
 |_,_,_,_,.nil,s=>s
 |_,_,_,_,.cons r t,s=>.cons r (Vals.append t s)
theorem Vals.take:∀{xs:List V}{us:List Value} (n:Nat),Vals xs us->Vals (xs.take n) (us.take n)
 |_,_,0,_=>.nil
 |_,_,_+1,.nil=>.nil
 |_,_,n+1,.cons r t=>.cons r (Vals.take n t)
theorem Vals.drop:∀{xs:List V}{us:List Value} (n:Nat),Vals xs us->Vals (xs.drop n) (us.drop n)
 |_,_,0,r=>r
 |_,_,_+1,.nil=>.nil
 |_,_,n+1,.cons _ t=>Vals.drop n t
def pV:Option V->Option Value->Prop
 |some v,some u=>RelV v u
 |none,none=>True
 |_,_=>False
def KV{κ:Type}:List (κ×V)->List (κ×Value)->Prop:=Paired λ(p:κ×V) (q:κ×Value)=>p.1=q.1/\RelV p.2 q.2
def kV:Key->V
 |.inl i=>.int i
 |.inr x=>.str x
inductive HO where
 |lst (xs:List V)
 |tup (xs:List V)
 |dK (kvs:List (Key×V))|dT (kvs:List (List Key×V))
 |set (S:Int->Bool) (n:Nat)
 |ins (C dx:Addr) (fs:List (Str×V))
 |own (x:Addr)
 |xd (fs:List (Str×V))
 |met (f x:Addr)
 |ZW (lo hi:Int)
 |Ad (o:Obj) (u:HO)
 |PQ (ps:Array Value)
 |ext (φ:Heap->Prop)
abbrev Hp:=Addr->Option HO
noncomputable def upd(H:Hp)(a:Addr)(o:HO):Hp:=λb=>if b=a then some o else H b
theorem bE:upd H a o a=some o:=by unfold upd;rw[bF rfl]
theorem bf(h:b≠a):upd H a o b=H b:=by unfold upd;rw[bJ h]
theorem Xv{u:HO}(h:H a=some o)(h':H b=some u)(d:o≠u):a≠b:=by
 intro e;subst e;rw[h] at h';exact d (cL h')
theorem bB(h:H a=some o)(h':H b=none):a≠b:=by
 intro e;subst e;rw[h] at h';cases h'
section
variable (P:ab0) (w:ab1)
def dI(H:Hp)(h:Heap)(a:Addr):HO->Prop
 |.lst xs=>xs.length<=sizeLine/\∃(its:List Value) (n:Nat),Vals xs its/\h.get? a=some {cls:=.type "list",data:=.seq its.toArray n}
 |.tup xs=>xs.length<=sizeLine/\∃its:List Value,Vals xs its/\IsTup h a its.toArray
 |.dK kvs=>kvs.length<=sizeLine/\(a == ab6)=false/\∃vs,KV kvs vs/\h.DictOf (cX P w) a vs
 |.dT kvs=>kvs.length<=sizeLine/\(a == ab6)=false/\∃xs:List (List Key×Addr×Value),
   Paired (λ(p:List Key×V) (q:List Key×Addr×Value)=>p.1=q.1/\H q.2.1=some (.tup (p.1.map kV))/\RelV p.2 q.2.2) kvs xs /\
   ∃o es ep,h.get? a=some o/\o.ExactDict/\o.data=.dict es ep/\es.toList=xs.map (entryOfKey (tupleKind (cX P w)))/\(xs.map (·.1)).Nodup
 |.set S n=>h.SetOf (intKind P w) a S n
 |.ins C dx fs=>H dx=some (.own a)/\fs.length<=1000/\dx≠a/\h.get? a=some (instObj C dx) /\
   ∃mA,h.Ns1 dx mA/\(∀f,pV (fs.lookup f) (mA f))/\PySem.Within mA (fs.map (·.1))
 |.own _=>∃o,h.get? a=some o
 |.xd fs=>∃mA,h.Ns1 a mA/\∀f,pV (fs.lookup f) (mA f)
 |.ZW lo hi=>∃t u v,h.get? a=some {cls:=.type "range",data:=.fields #[.int lo t,.int hi u,.int 1 v]}
 |.Ad o u=>h.get? a=some o/\dI H h a u
 |.PQ ps=>h.get? a=some {cls:=.none,data:=.fields ps}
 |.met f x=>h.get? a=some (methodObj (.ref f) (.ref x))
 |.ext φ=>φ h/\(∃o,h.get? a=some o)/\∀h1 h2:Heap,φ h1->(∀o,h1.get? a=some o->h2.get? a=some o)->φ h2
def j4(H:Hp)(h:Heap):Prop:=∀a o,H a=some o->dI P w H h a o
end
theorem dI.lt(x:dI P w H h a o):a<h.objs.size:=by
 cases o with
 |lst xs=>obtain⟨_,_,_,_,e⟩:=x;exact aI e
 |tup xs=>obtain⟨_,_,_,p⟩:=x;exact p.lt
 |dK kvs=>obtain⟨_,_,_,_,o,_,_,e,_⟩:=x;exact aI e
 |dT kvs=>obtain⟨_,_,_,_,o,_,_,e,_⟩:=x;exact aI e
 |set S n=>obtain⟨o,_,_,_,e,_⟩:=x;exact aI e
 |ins C dx fs=>obtain⟨_,_,_,e,_⟩:=x;exact aI e
 |own y=>obtain⟨_,e⟩:=x;exact aI e
 |xd fs=>obtain⟨_,⟨_,_,_,e,_⟩,_⟩:=x;exact aI e
 |ZW lo hi=>obtain⟨_,_,_,e⟩:=x;exact aI e
 |Ad ob u=>obtain⟨e,_⟩:=x;exact aI e
 |PQ ps=>exact aI (show h.get? a=some _ from x)
 |met f y=>exact aI (show h.get? a=some _ from x)
 |ext φ=>obtain⟨_,⟨_,e⟩,_⟩:=x;exact aI e
theorem Paired.R7{α β:Type}{F G:α->β->Prop}:∀{l₁:List α}{l₂:List β},Paired F l₁ l₂->(∀a b,F a b->G a b)->Paired G l₁ l₂
 |_,_,.nil,_=>.nil
 |_,_,.cons r t,f=>.cons (f _ _ r) (Paired.R7 t f)
theorem dI.ug(x:dI P w H h a o)(k:∀b u,(b=a\/H b=some (.own a))->h.get? b=some u->h'.get? b=some u)
  (ho:∀b,H b=some (.own a)->H' b=some (.own a)) (ht:∀b xs,H b=some (.tup xs)->H' b=some (.tup xs)):dI P w H' h' a o:=by
 induction o with
 |lst xs=>obtain⟨z,its,n,r,e⟩:=x;exact⟨z,its,n,r,k _ _ (.inl rfl) e⟩
 |tup xs=>obtain⟨z,its,r,ob,e,c⟩:=x;exact⟨z,its,r,ob,k _ _ (.inl rfl) e,c⟩
 |dK kvs=>obtain⟨z,y,vs,r,ob,es,ep,e,c⟩:=x;exact⟨z,y,vs,r,ob,es,ep,k _ _ (.inl rfl) e,c⟩
 |dT kvs=>
  obtain⟨z,y,xs,r,ob,es,ep,e,c⟩:=x
  exact⟨z,y,xs,Paired.R7 r λp q z=>⟨z.1,ht _ _ z.2.1,z.2.2⟩,ob,es,ep,k _ _ (.inl rfl) e,c⟩
 |set S n=>obtain⟨ob,es,ep,t,e,c⟩:=x;exact⟨ob,es,ep,t,k _ _ (.inl rfl) e,c⟩
 |ins C dx fs=>
  obtain⟨d,z,ne,e,mA,⟨od,es,ep,e2,c⟩,r⟩:=x
  exact⟨ho _ d,z,ne,k _ _ (.inl rfl) e,mA,⟨od,es,ep,k _ _ (.inr d) e2,c⟩,r⟩
 |own y=>obtain⟨ob,e⟩:=x;exact⟨ob,k _ _ (.inl rfl) e⟩
 |xd fs=>obtain⟨mA,⟨od,es,ep,e,c⟩,r⟩:=x;exact⟨mA,⟨od,es,ep,k _ _ (.inl rfl) e,c⟩,r⟩
 |ZW lo hi=>obtain⟨t,u,v,e⟩:=x;exact⟨t,u,v,k _ _ (.inl rfl) e⟩
 |Ad ob u ih=>obtain⟨e,q⟩:=x;exact⟨k _ _ (.inl rfl) e,ih q⟩
 |PQ ps=>
  have e:h.get? a=some {cls:=.none,data:=.fields ps}:=x
  show h'.get? a=some {cls:=.none,data:=.fields ps}
  exact k a _ (.inl rfl) e
 |met f y=>
  have e:h.get? a=some (methodObj (.ref f) (.ref y)):=x
  show h'.get? a=some (methodObj (.ref f) (.ref y))
  exact k a _ (.inl rfl) e
 |ext φ=>obtain⟨p,⟨o,e⟩,st⟩:=x;exact⟨st _ _ p λo q=>k _ _ (.inl rfl) q,⟨o,k _ _ (.inl rfl) e⟩,st⟩
theorem j4.lt(x:j4 P w H h)(e:H a=some o):a<h.objs.size:=(x a o e).lt
theorem j4.fresh(x:j4 P w H h)(e:h.objs.size<=a):H a=none:=by
 cases q:H a with
 |none=>rfl
 |some u=>exact absurd (bw (x.lt q) e) (dG _)
theorem j4.kept(x:j4 P w H h)(k:∀b u,h.get? b=some u->h'.get? b=some u):j4 P w H h':=λa o e=>
 (x a o e).ug (λb u _ q=>k b u q) (λ_ q=>q) λ_ _ q=>q
theorem j4.laid(x:j4 P w H h)(k:∀b u,h.get? b=some u->h'.get? b=some u)(hp:h.objs.size<=a)(new:dI P w (upd H a o) h' a o):j4 P w (upd H a o) h':=λb u e=>by
 have hn:=x.fresh hp
 by_cases hb:b=a
 ·subst hb;rw[bE] at e;cases e;exact new
 ·rw[bf hb] at e
  exact(x b u e).ug (λc v _ q=>k c v q) (λc q=>by rw[bf (bB q hn)];exact q) λc xs q=>by rw[bf (bB q hn)];exact q
def Rd(H:Hp)(a:Addr)(u:HO):Prop:=H a=some u\/∃o,H a=some (.Ad o u)
theorem Rd.ok{u:HO}(r:Rd H a u)(x:j4 P w H h):dI P w H h a u:=by
 rcases r with r|⟨o,r⟩
 ·exact x a u r
 ·obtain⟨_,q⟩:=x a _ r
  exact q
def VC:Option HO->Prop
 |some (.lst _)=>True
 |some (.dK _)=>True
 |some (.dT _)=>True
 |some (.set _ _)=>True
 |some (.ins _ _ _)=>True
 |some (.ext _)=>True
 |_=>False
section
variable {x e:Addr}{o':HO}
theorem j4.write(ok:j4 P w H h)(mu:VC (H x))(he:e=x\/H e=some (.own x))(k:∀b u,b≠e->h.get? b=some u->h'.get? b=some u)(U6:∃u,h'.get? e=some u)
  (new:dI P w (upd H x o') h' x o'):j4 P w (upd H x o') h':=λb u q=>by
 have XD:∀c y,H c=some (.own y)->c≠x:=λc y r z=>by subst z;rw[r] at mu;exact mu
 have aaV:∀c xs,H c=some (.tup xs)->c≠x:=λc xs r z=>by subst z;rw[r] at mu;exact mu
 by_cases hb:b=x
 ·subst hb;rw[bE] at q;cases q;exact new
 ·rw[bf hb] at q
  by_cases Rj:b=e
  ·have q':H b=some (.own x):=by
    rcases he with z|z
    ·exact absurd (Rj.trans z) hb
    ·rw[Rj];exact z
   rw[q] at q';cases q'
   obtain⟨v,hv⟩:=U6
   exact⟨v,by rw[Rj];exact hv⟩
  ·refine(ok b u q).ug (λc v hc r=>k c v ?_ r) (λc r=>by rw[bf (XD c b r)];exact r) λc xs r=>by rw[bf (aaV c xs r)];exact r
   rcases hc with rfl|hc
   ·exact Rj
   ·rintro rfl
    rcases he with z|z
    ·exact XD c b hc z
    ·rw[hc] at z;cases z;exact hb rfl
end
structure Un (fs ex:List Addr) (H H':Hp) (h h':Heap):Prop where
 keep:∀b o,h.get? b=some o->H b=none->b∉fs->b∉ex->h'.get? b=some o
 slot:∀b o,h.get? b=some o->H b=none->b∈fs->b∉ex->∃sl,h'.get? b=some {o with slots:=sl}
 free:∀b o,h.get? b=some o->H b=none->b∉ex->H' b=none
 there:∀b o,h.get? b=some o->b∉ex->∃o',h'.get? b=some o'
 uo:∀b xs,H b=some (.tup xs)->H' b=some (.tup xs)
 qT:∀b o u,H b=some (.Ad o u)->H' b=some (.Ad o u)
 uk:∀b ps,H b=some (.PQ ps)->∃more,H' b=some (.PQ (ps++more))
section
variable {fs Ga ex ex':List Addr}{H1 H2:Hp}{h1 h2:Heap}{x e:Addr}
theorem Un.any(u:Un fs ex H H1 h h1){ob:Obj}(q:h.get? b=some ob)(n:H b=none)(hx:b∉ex):∃sl,h1.get? b=some {ob with slots:=sl}:=by
 by_cases hb:b∈fs
 ·exact u.slot b ob q n hb hx
 ·exact⟨ob.slots,u.keep b ob q n hb hx⟩
theorem Un.kept(k:∀b u,h.get? b=some u->h'.get? b=some u):Un fs ex H H h h':=
 ⟨λb ob q _ _ _=>k b ob q,λb ob q _ _ _=>⟨ob.slots,k b ob q⟩,λ_ _ _ n _=>n,λb ob q _=>⟨ob,k b ob q⟩,λ_ _ q=>q,λ_ _ _ q=>q,λ_ ps q=>⟨#[],by rw[q];simp⟩⟩
theorem Un.refl:Un fs ex H H h h:=Un.kept λ_ _ q=>q
theorem Un.laid(k:∀b u,h.get? b=some u->h'.get? b=some u)(hp:h.objs.size<=a)(hn:H a=none):Un fs ex H (upd H a o) h h' where
 keep:=λb u q _ _ _=>k b u q
 slot:=λb u q _ _ _=>⟨u.slots,k b u q⟩
 free:=λb u q n _=>by rw[bf (aW (bw (aI q) hp))];exact n
 there:=λb u q _=>⟨u,k b u q⟩
 uo:=λb xs q=>by rw[bf (bB q hn)];exact q
 qT:=λb u xs q=>by rw[bf (bB q hn)];exact q
 uk:=λb ps q=>⟨#[],by rw[bf (bB q hn),q];simp⟩
theorem Un.write(mu:VC (H x))(he:e=x\/H e=some (.own x))(k:∀b u,b≠e->h.get? b=some u->h'.get? b=some u)(U6:∃u,h'.get? e=some u):Un fs ex H (upd H x o) h h':=by
 have hx:∀b,H b=none->b≠x:=λb n z=>by subst z;rw[n] at mu;exact mu
 have hb:∀b,H b=none->b≠e:=λb n z=>by
  subst z
  rcases he with r|r
  ·exact hx b n r
  ·rw[n] at r;cases r
 have hm:∀b u,H b=some u -> ¬VC (some u)->b≠x:=λb u q nm z=>by subst z;rw[q] at mu;exact nm mu
 refine⟨λb u q n _ _=>k b u (hb b n) q,λb u q n _ _=>⟨u.slots,k b u (hb b n) q⟩,λb u q n _=>by rw[bf (hx b n)];exact n,λb u q _=>?_,
  λb xs q=>by rw[bf (hm b _ q λz=>z)];exact q,λb u xs q=>by rw[bf (hm b _ q λz=>z)];exact q,λb ps q=>⟨#[],by rw[bf (hm b _ q λz=>z),q];simp⟩⟩
 by_cases Rj:b=e
 ·subst Rj;exact U6
 ·exact⟨u,k b u Rj q⟩
end
noncomputable def Z5(h:Heap)(H:Hp):List Addr:=(List.range h.objs.size).filter λa=>(H a).isSome
def wG(h:Heap)(H:Hp):Heap:=PySem.W.hideAll h (Z5 h H)
theorem DQ(h:Heap)(H:Hp):(wG h H).objs.size=h.objs.size:=PySem.W.hideAll_size _ _
theorem Gq{o:Obj}(e:h.get? b=some o)(n:H b=none):(wG h H).get? b=some o:=
 PySem.W.hideAll_get _ e λhm=>by
  have q:(H b).isSome=true:=(Fb.mp hm).2
  rw[n] at q;simp at q
theorem ME{o:Obj}(e:(wG h H).get? b=some o):h.get? b=some o/\H b=none:=by
 have e':h.get? b=some o:=PySem.W.of_hideAll (Z5 h H) e
 refine⟨e',?_⟩
 cases q:H b with
 |none=>rfl
 |some x=>
  have hm:b∈Z5 h H:=Fb.mpr ⟨mR.mpr (aI e'),by simp[q]⟩
  have z:(wG h H).get? b=none:=PySem.W.hideAll_none (Z5 h H) hm
  rw[z] at e;cases e
structure Mod (K:Frag) (mg:mG7) (base:Heap):Prop where
 LZ:K.In base
 glob:base.Ns aa4 mg
 blt:∃mb,base.Ns builtinsNs mb/\∀x:Str,x≠"__name__"->mb x=aa6 x
 nolimit:base.NoLimit
structure Cx where
 prog:ab0
 w:ab1
 K:Frag
 mg:mG7
 base:Heap
 A:ab4
 N:lS7
 s₀:aa1
 H₀:Hp
 env:Env
 outer:List Env
 stack:List Env
 ex:List Addr
 fn:Str->Bool
 calm:Bool
 pn:aP7
 xe:dw
noncomputable def rJ(l:List Env):List Addr:=l.filterMap (·.frame)
abbrev Cx.fs (X:Cx):List Addr:=rJ X.outer
def UX(sc:Scope)(x:Str):Prop:=sc.names.lookup x=some .local\/sc.names.lookup x=some .cell\/sc.names.lookup x=some .free
def Loc(sc:Scope)(x:Str):Prop:=sc.names.lookup x=some .local\/sc.names.lookup x=some .cell
def A_(env:Env)(h:Heap)(m:mG7)(x:Str)(u:Value):Prop:=
 (env.kindOf x=some .local/\m x=some u)\/((env.kindOf x=some .cell\/env.kindOf x=some .free)/\∃c,env.cells.lookup x=some c/\h.IsCell c (some u))
structure Cx.Ok (X:Cx):Prop where
 mod:Mod X.K X.mg X.base
 kind:X.env.scope.kind=.function
 glob:X.env.globals=aa4
 blt:X.env.builtins=builtinsNs
 above:X.s₀.heap.objs.size<=X.env.locals
 inj:∀x y c,X.env.cells.lookup x=some c->X.env.cells.lookup y=some c->x=y
 has:∀x,(X.env.kindOf x=some .cell\/X.env.kindOf x=some .free)->∃c,X.env.cells.lookup x=some c
 OG:∀x c,X.fn x=true->X.env.cells.lookup x=some c->X.s₀.heap.objs.size<=c
 hd:X.calm=true->X.A.handled=none
 frames:X.A.frames=some X.stack
 Ua:X.stack=X.outer\/(X.stack=X.env::X.outer/\X.env.frame=some X.env.locals)
 Lb:∀b∈X.ex,b≠X.env.locals/\∀x c,X.env.cells.lookup x=some c->c≠b
 bs:∀b o,X.base.get? b=some o->X.s₀.heap.get? b=some o/\X.H₀ b=none
 Bt:X.base.objs.size<=X.s₀.heap.objs.size
 wZ:∀b o,X.base.get? b=some o->b∉X.ex
 wz:∀b∈X.ex,b∉X.fs
 kI:X.s₀.heap.FunFrames X.base X.outer
 F9:∀b∈X.fs,X.H₀ b=none
structure Inv (X:Cx) (pins:aP7) (σ:List (Option V)) (H:Hp) (s:aa1):Prop where
 ok:X.Ok
 os:s.os=X.s₀.os
 bare:AllBare s.gens
 base:Un X.fs X.ex X.H₀ H X.s₀.heap s.heap
 loc:∃m,s.heap.Ns X.env.locals m/\∀(i:Nat) (x:Str) (v:V),X.N[i]?=some x->σ[i]?=some (some v)->UX X.env.scope x->∃u,RelV v u/\A_ X.env s.heap m x u
 cell:∀x c,X.env.cells.lookup x=some c->∃v,s.heap.IsCell c v
 free:H X.env.locals=none
 iq:∀x c,X.env.cells.lookup x=some c->H c=none
 pin:∀p∈X.pn++pins,s.heap.get? p.1=some p.2/\H p.1=none/\p.1≠X.env.locals/\p.1∉X.fs/\∀v,p.2.data≠.cell v
 cN:j4 X.prog X.w H s.heap
 len:σ.length=X.N.length
section
variable {σ:List (Option V)}
theorem Cx.Ok.aaT(ok:X.Ok){o:Obj}(e:X.base.get? b=some o):b∉X.fs:=λhb=>by
 have:=(ok.kI.mem hb).1
 rw[e] at this;cases this
theorem Inv.bs(I:Inv X pins σ H s):∀b o,X.base.get? b=some o->s.heap.get? b=some o/\H b=none:=λb o e=>
 ⟨I.base.keep b o (I.ok.bs b o e).1 (I.ok.bs b o e).2 (I.ok.aaT e) (I.ok.wZ b o e),I.base.free b o (I.ok.bs b o e).1 (I.ok.bs b o e).2 (I.ok.wZ b o e)⟩
theorem Inv.bk(I:Inv X pins σ H s):∀b o,X.base.get? b=some o->s.heap.get? b=some o:=λb o e=>(I.bs b o e).1
theorem Inv.mod(I:Inv X pins σ H s):Mod X.K X.mg X.base:=I.ok.mod
theorem Inv.nO(I:Inv X pins σ H s):X.K.In s.heap:=I.ok.mod.LZ.keeps I.bk
theorem Inv.lt(I:Inv X pins σ H s):X.env.locals<s.heap.objs.size:=let ⟨_,hn,_⟩:=I.loc;hn.lt
theorem Inv.sz(I:Inv X pins σ H s):X.s₀.heap.objs.size<=s.heap.objs.size:=aA I.ok.above (Vm I.lt)
theorem Inv.aaU(I:Inv X pins σ H s)(h:s.heap.objs.size<=a):a∉X.fs:=λhb=>by
 obtain⟨_,o,ho,_⟩:=I.ok.kI.mem hb
 exact absurd (bw (aI ho) (aA I.sz h)) (dG _)
theorem Inv.KH(I:Inv X pins σ H s):∀x c,X.env.cells.lookup x=some c->c≠X.env.locals:=λx c e z=>by
 obtain⟨v,o,ho,hd⟩:=I.cell x c e
 obtain⟨m,⟨o',es,ep,BX,y9,_⟩,_⟩:=I.loc
 rw[z,BX] at ho;cases ho;rw[y9] at hd;cases hd
theorem Inv.kI(I:Inv X pins σ H s):s.heap.FunFrames X.base X.outer:=by
 have all:∀(l:List Env),(∀b∈rJ l,b∈X.fs)->X.s₀.heap.FunFrames X.base l->s.heap.FunFrames X.base l:=by
  intro l
  induction l with
  |nil=>intro _ _;trivial
  |cons env r ih=>
   intro hs hl
   obtain⟨hk,⟨L,o,hf,hn,ho,hd⟩,hr⟩:=hl
   have hL:L∈X.fs:=hs L (by unfold rJ;rw[fA,hf];exact aL)
   obtain⟨sl,e⟩:=I.base.slot L o ho (I.ok.F9 L hL) hL λz=>I.ok.wz L z hL
   exact⟨hk,⟨L,_,hf,hn,e,hd⟩,ih (λb hb=>hs b (by unfold rJ;rw[fA,hf];exact ax _ hb)) hr⟩
 exact all X.outer (λ_ hb=>hb) I.ok.kI
theorem Inv.stack(I:Inv X pins σ H s):s.heap.FunFrames X.base X.stack:=by
 rcases I.ok.Ua with e|⟨e,hf⟩
 ·rw[e];exact I.kI
 ·rw[e]
  obtain⟨m,hn,_⟩:=I.loc
  refine .cons (by rw[I.ok.kind];decide) hf hn ?_ I.kI
  exact Heap.get?_none_of_le (aA I.ok.Bt I.ok.above)
theorem Inv.xp(I:Inv X pins σ H s):∀b∈rJ X.stack,b∈X.env.locals::X.fs:=λb hb=>by
 rcases I.ok.Ua with e|⟨e,hf⟩
 ·rw[e] at hb;exact ax _ hb
 ·rw[e] at hb
  unfold rJ at hb
  rw[fA,hf] at hb
  exact hb
theorem Inv.rQ(I:Inv X pins σ H s):∀b∈rJ X.stack,H b=none:=λb hb=>by
 rcases aN.mp (I.xp b hb) with e|hb
 ·rw[e];exact I.free
 ·obtain⟨_,o,ho,_⟩:=I.ok.kI.mem hb
  exact I.base.free b o ho (I.ok.F9 b hb) λz=>I.ok.wz b z hb
theorem Inv.step(I:Inv X pins σ H s)
  (E5:∀b∈ch,(b∈X.ex\/X.s₀.heap.objs.size<=b)/\b≠X.env.locals/\(∀x c,X.env.cells.lookup x=some c->c≠b)/\∀p∈X.pn++pins,p.1≠b)
  (keep:∀b o,b≠X.env.locals->b∉X.fs->b∉ch->s.heap.get? b=some o->H b=none->h'.get? b=some o)
  (slot:∀b o,b≠X.env.locals->b∈X.fs->b∉ch->s.heap.get? b=some o->H b=none->∃sl,h'.get? b=some {o with slots:=sl}) (free:∀b o,b∉ch->s.heap.get? b=some o->H b=none->H' b=none)
  (there:∀b o,b∉ch->s.heap.get? b=some o->∃o',h'.get? b=some o')
  (uo:∀b xs,H b=some (.tup xs)->H' b=some (.tup xs)) (qT:∀b o u,H b=some (.Ad o u)->H' b=some (.Ad o u)) (uk:∀b ps,H b=some (.PQ ps)->∃more,H' b=some (.PQ (ps++more)))
  (ns:∀m,s.heap.Ns X.env.locals m->h'.Ns X.env.locals m) (cN:j4 X.prog X.w H' h') (hg:AllBare g') :
  Inv X pins σ H' {s with heap:=h',gens:=g',drawn:=d',toks:=t'}:=by
 have neL:∀b o,X.s₀.heap.get? b=some o->b≠X.env.locals:=λb o e=>aW (bw (aI e) I.ok.above)
 have O3:∀b o,X.s₀.heap.get? b=some o->b∉X.ex->b∉ch:=λb o e hx hb=>by
  rcases (E5 b hb).1 with z|z
  ·exact hx z
  ·exact absurd (bw (aI e) z) (dG _)
 have cellK:∀x c,X.env.cells.lookup x=some c->∀v,s.heap.IsCell c v->h'.IsCell c v:=λx c e v ⟨o,ho,hd⟩=>by
  have Xu:c∉ch:=λz=>(E5 c z).2.2.1 x c e rfl
  by_cases hc:c∈X.fs
  ·obtain⟨sl,q⟩:=slot c o (I.KH x c e) hc Xu ho (I.iq x c e)
   exact⟨_,q,hd⟩
  ·exact⟨o,keep c o (I.KH x c e) hc Xu ho (I.iq x c e),hd⟩
 refine⟨I.ok,I.os,hg,⟨λb o e n hb hx=>?_,λb o e n hb hx=>?_,λb o e n hx=>?_,λb o e hx=>?_,λb xs e=>uo b xs (I.base.uo b xs e),λb o xs e=>qT b o xs (I.base.qT b o xs e),λb ps e=>?_⟩,?_,λx c e=>?_,?_,λx c e=>?_,λp hp=>?_,cN,I.len⟩
 ·exact keep b o (neL b o e) hb (O3 b o e hx) (I.base.keep b o e n hb hx) (I.base.free b o e n hx)
 ·obtain⟨sl,e1⟩:=I.base.slot b o e n hb hx
  obtain⟨Yn,e2⟩:=slot b _ (neL b o e) hb (O3 b o e hx) e1 (I.base.free b o e n hx)
  exact⟨Yn,e2⟩
 ·obtain⟨o',e1⟩:=I.base.there b o e hx
  exact free b o' (O3 b o e hx) e1 (I.base.free b o e n hx)
 ·obtain⟨o',e1⟩:=I.base.there b o e hx
  exact there b o' (O3 b o e hx) e1
 ·obtain⟨m1,e1⟩:=I.base.uk b ps e
  obtain⟨m2,e2⟩:=uk b _ e1
  exact⟨m1++m2,by rw[e2,Array.append_assoc]⟩
 ·obtain⟨m,hn,hl⟩:=I.loc
  refine⟨m,ns m hn,λi x v e1 e2 e3=>?_⟩
  obtain⟨u,r,l⟩:=hl i x v e1 e2 e3
  refine⟨u,r,?_⟩
  rcases l with l|⟨k,c,e,z⟩
  ·exact .inl l
  ·exact .inr ⟨k,c,e,cellK x c e _ z⟩
 ·obtain⟨v,z⟩:=I.cell x c e
  exact⟨v,cellK x c e v z⟩
 ·obtain⟨m,⟨o,_,_,ho,_⟩,_⟩:=I.loc
  exact free _ o (λz=>(E5 _ z).2.1 rfl) ho I.free
 ·obtain⟨v,o,ho,hd⟩:=I.cell x c e
  exact free c o (λz=>(E5 c z).2.2.1 x c e rfl) ho (I.iq x c e)
 ·obtain⟨e,n,ne,nf,d⟩:=I.pin p hp
  have Xu:p.1∉ch:=λz=>(E5 p.1 z).2.2.2 p hp rfl
  exact⟨keep p.1 p.2 ne nf Xu e n,free p.1 p.2 Xu e n,ne,nf,d⟩
theorem Inv.un(I:Inv X pins σ H s)(u:Un X.fs [] H H' s.heap h')(cN:j4 X.prog X.w H' h'):Inv X pins σ H' {s with heap:=h',toks:=t'}:=by
 obtain⟨m,⟨o,es,ep,ho,r⟩,_⟩:=id I.loc
 obtain⟨sl,hL⟩:=u.any ho I.free (by simp)
 exact I.step (g':=s.gens) (d':=s.drawn) (ch:= []) (λ_ z=>nomatch z) (λb o _ hb _ e n=>u.keep b o e n hb (by simp)) (λb o _ hb _ e n=>u.slot b o e n hb (by simp)) (λb o _ e n=>u.free b o e n (by simp)) (λb o _ e=>u.there b o e (by simp)) u.uo u.qT u.uk (λm' hm=>by
  obtain⟨o',DJ,Zp,BX,r'⟩:=hm
  rw[ho] at BX;cases BX
  exact⟨_,DJ,Zp,hL,r'⟩) cN I.bare
theorem Inv.call(I:Inv X pins σ H s)(u:Un (rJ X.stack) ch H H' s.heap h')(cN:j4 X.prog X.w H' h')(hg:AllBare g')
  (E5:∀b∈ch,(b∈X.ex\/X.s₀.heap.objs.size<=b)/\b≠X.env.locals/\(∀x c,X.env.cells.lookup x=some c->c≠b)/\∀p∈X.pn++pins,p.1≠b) :
  Inv X pins σ H' {s with heap:=h',gens:=g',drawn:=d',toks:=t'}:=by
 obtain⟨m,⟨o,es,ep,ho,r⟩,_⟩:=id I.loc
 obtain⟨sl,hL⟩:=u.any ho I.free λz=>(E5 _ z).2.1 rfl
 exact I.step (ch:=ch) E5 (λb o hL hb hc e n=>u.keep b o e n (λz=>(aN.mp (I.xp b z)).elim hL hb) hc) (λb o _ _ hc e n=>u.any e n hc) (λb o hc e n=>u.free b o e n hc) (λb o hc e=>u.there b o e hc) u.uo u.qT u.uk (λm' hm=>by
  obtain⟨o',DJ,Zp,BX,r'⟩:=hm
  rw[ho] at BX;cases BX
  exact⟨_,DJ,Zp,hL,r'⟩) cN hg
theorem Inv.turned(I:Inv X pins σ H s)(k:∀b o,b≠it->s.heap.get? b=some o->h'.get? b=some o)(hn:H it=none)(hL:it≠X.env.locals)
  (h1:it∈X.ex\/X.s₀.heap.objs.size<=it) (h2:∀x c,X.env.cells.lookup x=some c->c≠it) (h3:∀p∈X.pn++pins,p.1≠it):Inv X pins σ H {s with heap:=h',toks:=t'}:=by
 have nit:∀b u,H b=some u->b≠it:=λb u e z=>by rw[z,hn] at e;cases e
 refine I.step (g':=s.gens) (d':=s.drawn) (ch:= [it]) (λb hb=>?_) (λb o _ _ hc e _=>k b o (λz=>hc (by simp[z])) e) (λb o _ _ hc e _=>⟨o.slots,k b o (λz=>hc (by simp[z])) e⟩) (λ_ _ _ _ n=>n)
  (λb o hc e=>⟨o,k b o (λz=>hc (by simp[z])) e⟩) (λ_ _ e=>e) (λ_ _ _ e=>e) (λb ps e=>⟨#[],by rw[e];simp⟩) (λm hm=>?_) (λb u e=>?_) I.bare
 ·have e:b=it:=by simpa using hb
  subst e
  exact⟨h1,hL,h2,h3⟩
 ·obtain⟨o,es,ep,ho,r⟩:=hm
  exact⟨o,es,ep,k _ o (cR hL) ho,r⟩
 ·refine(I.cN b u e).ug (λc v hc q=>k c v ?_ q) (λ_ q=>q) λ_ _ q=>q
  rcases hc with z|z
  ·rw[z];exact nit b u e
  ·exact nit c _ z
theorem Inv.tok(I:Inv X pins σ H s)(t:Nat):Inv X pins σ H {s with toks:=t}:=I.un (h':=s.heap) (t':=t) Un.refl I.cN
theorem Inv.kept(I:Inv X pins σ H s)(k:∀b u,s.heap.get? b=some u->h'.get? b=some u):Inv X pins σ H {s with heap:=h',toks:=t'}:=I.un (Un.kept k) (I.cN.kept k)
theorem Inv.laid(I:Inv X pins σ H s)(k:∀b u,s.heap.get? b=some u->h'.get? b=some u)(hp:s.heap.objs.size<=a)(new:dI X.prog X.w (upd H a o) h' a o) :
  Inv X pins σ (upd H a o) {s with heap:=h',toks:=t'}:=I.un (Un.laid k hp (I.cN.fresh hp)) (I.cN.laid k hp new)
theorem Inv.write{x e:Addr}(I:Inv X pins σ H s)(mu:VC (H x))(he:e=x\/H e=some (.own x))(k:∀b u,b≠e->s.heap.get? b=some u->h'.get? b=some u)(U6:∃u,h'.get? e=some u)
  (new:dI X.prog X.w (upd H x o) h' x o):Inv X pins σ (upd H x o) {s with heap:=h',toks:=t'}:=I.un (Un.write mu he k U6) (I.cN.write mu he k U6 new)
theorem Inv.xg{Pf:aP7}(I:Inv X pins σ H s)(h:∀p∈Pf,s.heap.get? p.1=some p.2/\H p.1=none/\p.1≠X.env.locals/\p.1∉X.fs/\∀v,p.2.data≠.cell v):Inv X Pf σ H s:=
 ⟨I.ok,I.os,I.bare,I.base,I.loc,I.cell,I.free,I.iq,λp hp=>(bu.mp hp).elim (λz=>I.pin p (dO _ z)) (h p),I.cN,I.len⟩
theorem tT(hN:N.Nodup)(a:N[i]?=some x)(b:N[j]?=some x):i=j:=by
 obtain⟨h1,e1⟩:=aw.mp a
 obtain⟨h2,e2⟩:=aw.mp b
 exact(g5 hN).mp (e1.trans e2.symm)
theorem EI(I:Inv X pins σ H s)(hN:X.N.Nodup)(hi:X.N[i]?=some x)(hx:Loc X.env.scope x)(r:RelV v u)
  (h:∀s',Inv X pins (σ.set i (some v)) H s'->(∃a,Heap.SameBut a s.heap s'.heap/\(a=X.env.locals\/X.env.cells.lookup x=some a))->Q () s') (hf:autoParam (X.fn x=true\/X.env.scope.names.lookup x=some .local) ac7):aa0 M A (storeName X.env x u) Q E s:=by
 obtain⟨m,hn,hl⟩:=id I.loc
 have Δ:(X.env.scope.kind == .class||(X.env.scope.kind == .module&&X.env.locals != X.env.globals))=false:=by rw[I.ok.kind];rfl
 have WJ:i<σ.length:=by rw[I.len];exact(aw.mp hi).1
 have KH:=I.KH
 have tracked:∀{a:Addr}{h':Heap},(∃o,s.heap.get? a=some o/\H a=none)->Heap.SameBut a s.heap h'->j4 X.prog X.w H h':=λ{a h'} ha hs b ob e=>by
  obtain⟨_,_,jL⟩:=ha
  refine(I.cN b ob e).ug (λc w' hc q=>(hs.2 c ?_).trans q) (λ_ q=>q) λ_ _ q=>q
  rintro rfl
  rcases hc with rfl|hc
  ·rw[jL] at e;cases e
  ·rw[jL] at hc;cases hc
 rcases hx with hk|hk
 ·refine wpAny_storeName_local hk hn (λh' WM hs=>?_) Δ
  obtain⟨oL,_,_,hoL,_⟩:=id hn
  refine h _ ⟨I.ok,I.os,I.bare,⟨λb o e n hb hx=>?_,λb o e n hb hx=>?_,I.base.free,λb o e hx=>?_,I.base.uo,I.base.qT,I.base.uk⟩,⟨_,WM,λj y v' e1 e2 e3=>?_⟩,λy c e=>?_,I.free,I.iq,λp hp=>?_,tracked ⟨oL,hoL,I.free⟩ hs,by simpa using I.len⟩ ⟨_,hs,.inl rfl⟩
  ·exact(hs.2 b (aW (bw (aI e) I.ok.above))).trans (I.base.keep b o e n hb hx)
  ·obtain⟨sl,e1⟩:=I.base.slot b o e n hb hx
   exact⟨sl,(hs.2 b (aW (bw (aI e) I.ok.above))).trans e1⟩
  ·obtain⟨o',e1⟩:=I.base.there b o e hx
   exact⟨o',(hs.2 b (aW (bw (aI e) I.ok.above))).trans e1⟩
  ·by_cases hj:j=i
   ·subst hj
    rw[hi] at e1;cases e1
    rw[cx WJ] at e2
    cases e2
    exact⟨u,r,.inl ⟨hk,by simp⟩⟩
   ·rw[dc (cR hj)] at e2
    obtain⟨u',r',q⟩:=hl j y v' e1 e2 e3
    refine⟨u',r',?_⟩
    rcases q with ⟨k,e⟩|⟨k,c,e,z⟩
    ·refine .inl ⟨k,?_⟩
     have:y≠x:=λe=>hj (tT hN e1 (e▸hi))
     simp[this,e]
    ·exact .inr ⟨k,c,e,z.sameBut hs (KH y c e)⟩
  ·obtain⟨w',z⟩:=I.cell y c e
   exact⟨w',z.sameBut hs (KH y c e)⟩
  ·obtain⟨e,n,ne,nf,d⟩:=I.pin p hp
   exact⟨(hs.2 p.1 ne).trans e,n,ne,nf,d⟩
 ·have Φ:X.fn x=true:=by
   rcases hf with z|z
   ·exact z
   ·rw[z] at hk;cases hk
  obtain⟨c,hc⟩:=I.ok.has x (.inl hk)
  obtain⟨w',z⟩:=I.cell x c hc
  refine wpAny_storeName_cell I.ok.kind hk hc z (λh' wF hs=>?_)
  obtain⟨oc,Rq,aai⟩:=id z
  refine h {s with heap:=h'} ⟨I.ok,I.os,I.bare,⟨λb o e n hb hx=>?_,λb o e n hb hx=>?_,I.base.free,λb o e hx=>?_,I.base.uo,I.base.qT,I.base.uk⟩,⟨m,hn.sameBut hs (cR (KH x c hc)),λj y v' e1 e2 e3=>?_⟩,λy c' e=>?_,I.free,I.iq,λp hp=>?_,tracked ⟨oc,Rq,I.iq x c hc⟩ hs,by simpa using I.len⟩ ⟨c,hs,.inr hc⟩
  ·exact(hs.2 b (aW (bw (aI e) (I.ok.OG x c Φ hc)))).trans (I.base.keep b o e n hb hx)
  ·obtain⟨sl,e1⟩:=I.base.slot b o e n hb hx
   exact⟨sl,(hs.2 b (aW (bw (aI e) (I.ok.OG x c Φ hc)))).trans e1⟩
  ·obtain⟨o',e1⟩:=I.base.there b o e hx
   exact⟨o',(hs.2 b (aW (bw (aI e) (I.ok.OG x c Φ hc)))).trans e1⟩
  ·by_cases hj:j=i
   ·subst hj
    rw[hi] at e1;cases e1
    rw[cx WJ] at e2
    cases e2
    exact⟨u,r,.inr ⟨.inl hk,c,hc,wF⟩⟩
   ·rw[dc (cR hj)] at e2
    obtain⟨u',r',q⟩:=hl j y v' e1 e2 e3
    refine⟨u',r',?_⟩
    rcases q with q|⟨k,c',e,z'⟩
    ·exact .inl q
    ·refine .inr ⟨k,c',e,z'.sameBut hs ?_⟩
     rintro rfl
     exact hj (tT hN e1 (I.ok.inj _ _ _ e hc▸hi))
  ·by_cases hcc:c'=c
   ·subst hcc;exact⟨_,wF⟩
   ·obtain⟨w2,z2⟩:=I.cell y c' e
    exact⟨w2,z2.sameBut hs hcc⟩
  ·obtain⟨e,n,ne,nf,d⟩:=I.pin p hp
   refine⟨(hs.2 p.1 ?_).trans e,n,ne,nf,d⟩
   intro q
   rw[q,Rq] at e
   have q':oc=p.2:=cL e
   exact d w' (by rw[<-q'];exact aai)
theorem pA(I:Inv X pins σ H s)(hN:X.N.Nodup)(hi:X.N[i]?=some x)(hx:Loc X.env.scope x)(r:RelV v u)
  (h:∀s',Inv X pins (σ.set i (some v)) H s'->Q () s') (hf:autoParam (X.fn x=true\/X.env.scope.names.lookup x=some .local) ac7):aa0 M A (storeName X.env x u) Q E s:=
 EI I hN hi hx r (λs' I' _=>h s' I') hf
theorem Inv.FE(I:Inv X pins σ H s)(ho:s'.os=s.os)(u:Un (rJ X.stack) ch H H' s.heap s'.heap)(cN:j4 X.prog X.w H' s'.heap)(hg:AllBare s'.gens)
  (E5:∀b∈ch,(b∈X.ex\/X.s₀.heap.objs.size<=b)/\b≠X.env.locals/\(∀x c,X.env.cells.lookup x=some c->c≠b)/\∀p∈X.pn++pins,p.1≠b):Inv X pins σ H' s':=by
 obtain⟨h',g',d',t',o'⟩:=s'
 have e:o'=s.os:=ho
 subst e
 exact I.call (g':=g') (t':=t') (d':=d') u cN hg E5
end
abbrev XK:=Value->Option Addr->Hp->Prop
abbrev St:=List (Option V)
abbrev VK:=V->Hp->Prop
abbrev TE:=St->Hp->VK->Prop
abbrev TT:=St->Hp->(Bool->Hp->Prop)->Prop
abbrev TA:=St->Hp->(List V->Hp->Prop)->Prop
structure Ends where
 nx:St->Hp->Prop
 rt:VK
 bk:St->Hp->Prop:=λ_ _=>False
 ct:St->Hp->Prop:=λ_ _=>False
abbrev TS:=Ends->St->Hp->Prop
def EP(X:Cx)(pins:aP7)(σ:St)(Q:VK)(u:Value)(s':aa1):Prop:=∃v H',Inv X pins σ H' s'/\RelV v u/\Q v H'
def TP(X:Cx)(pins:aP7)(σ:St)(Q:Bool->Hp->Prop)(b:Bool)(s':aa1):Prop:=∃H',Inv X pins σ H' s'/\Q b H'
def AP(X:Cx)(pins:aP7)(σ:St)(Q:List V->Hp->Prop)(us:List Value)(s':aa1):Prop:=∃vs H',Inv X pins σ H' s'/\Vals vs us/\Q vs H'
def SP(X:Cx)(pins:aP7)(D:Ends)(f:Flow)(s':aa1):Prop:=
 match f with
 |.next=>∃σ' H',Inv X pins σ' H' s'/\D.nx σ' H'
 |.brk=>∃σ' H',Inv X pins σ' H' s'/\D.bk σ' H'
 |.cont=>∃σ' H',Inv X pins σ' H' s'/\D.ct σ' H'
 |.ret u=>∃v σ' H',Inv X pins σ' H' s'/\RelV v u/\D.rt v H'
def PE(X:Cx)(e:Expr)(t:TE):Prop:=
 ∀(pins:aP7) (s:aa1) (σ:St) (H:Hp) (Q:VK),Inv X pins σ H s->t σ H Q->aa0 (aa5 X.prog X.w) X.A (eval e X.env) (EP X pins σ Q) X.xe s
def PT(X:Cx)(e:Expr)(t:TT):Prop:=
 ∀(pins:aP7) (s:aa1) (σ:St) (H:Hp) (Q:Bool->Hp->Prop),Inv X pins σ H s->t σ H Q->aa0 (aa5 X.prog X.w) X.A (isTrue e X.env (eval e X.env)) (TP X pins σ Q) X.xe s
def PW(X:Cx)(e:Expr)(t:TT):Prop:=
 ∀(nD:Sem Value) (pins:aP7) (s:aa1) (σ:St) (H:Hp) (Q:Bool->Hp->Prop),Inv X pins σ H s->t σ H Q->aa0 (aa5 X.prog X.w) X.A (isTrue e X.env nD) (TP X pins σ Q) X.xe s
theorem PW.pt{t:TT}(h:PW X e t):PT X e t:=h _
def PA(X:Cx)(es:List Expr)(t:TA):Prop:=
 ∀(pos:Pos) (pins:aP7) (s:aa1) (σ:St) (H:Hp) (Q:List V->Hp->Prop),Inv X pins σ H s->t σ H Q->aa0 (aa5 X.prog X.w) X.A (spliced (ac5 pos (aa9 es X.env))) (AP X pins σ Q) X.xe s
def PS(X:Cx)(st:Stmt)(t:TS):Prop:=
 ∀(pins:aP7) (s:aa1) (σ:St) (H:Hp) (D:Ends),Inv X pins σ H s->t D σ H->aa0 (aa5 X.prog X.w) X.A (exec st X.env) (SP X pins D) X.xe s
def nj(X:Cx)(st:List Stmt)(t:TS):Prop:=
 ∀(pins:aP7) (s:aa1) (σ:St) (H:Hp) (D:Ends),Inv X pins σ H s->t D σ H->aa0 (aa5 X.prog X.w) X.A (execs st X.env) (SP X pins D) X.xe s
theorem cM{t:Sem α}{Q Q':α->aa1->Prop}(h:aa0 M A t Q E s)(hQ:∀a s,Q a s->Q' a s):aa0 M A t Q' E s:=eD h hQ λ_ _ x=>x
section
theorem Ds{a b:Expr}(ha:PE X a ta)(hb:PE X b tb)(I:Inv X pins σ H s)(h:ta σ H λx H1=>tb σ H1 λy H2=>R x y H2)
  {Q:α->aa1->Prop}{f:Value->Value->Sem α}
  (hf:∀v u s2 x y H2,Inv X pins σ H2 s2->RelV x v->RelV y u->R x y H2->aa0 (aa5 X.prog X.w) X.A (f v u) Q X.xe s2) :
  aa0 (aa5 X.prog X.w) X.A (eval a X.env) (λv s₁=>aa0 (aa5 X.prog X.w) X.A (eval b X.env) (λu s₂=>aa0 (aa5 X.prog X.w) X.A (f v u) Q X.xe s₂) X.xe s₁) X.xe s:=by
 refine cM (ha pins s σ H _ I h) λv s1 ⟨x,H1,I1,r1,q1⟩=>?_
 refine cM (hb pins s1 σ H1 _ I1 q1) λu s2 ⟨y,H2,I2,r2,q2⟩=>?_
 exact hf v u s2 x y H2 I2 r1 r2 q2
def EL(i:Nat):TE:=λσ H Q=>∃v,σ[i]?=some (some v)/\Q v H
def tC(v:V):TE:=λ_ H Q=>Q v H
theorem HR(hN:X.N[i]?=some x)(hv:UX X.env.scope x)(hd:autoParam ((x == ("__debug__":Str))=false) v0)(Ai:autoParam ((x == ("__classdict__":Str))=false) v0):PE X (.Name x pos) (EL i):=by
 intro pins s σ H Q I h
 obtain⟨v,e,h⟩:=h
 obtain⟨m,hn,hl⟩:=I.loc
 obtain⟨u,r,l⟩:=hl i x v hN e hv
 have fin:EP X pins σ Q u s:=⟨v,H,I,r,h⟩
 rcases l with ⟨hk,hm⟩|⟨hk,c,hc,OR⟩
 ·exact wpAny_Name (wpAny_loadName_local I.ok.kind hk hn hm fin) hd
 ·rcases hk with hk|hk
  ·exact wpAny_Name (wpAny_loadName_cell I.ok.kind hk hc OR fin) hd
  ·exact wpAny_Name (wpAny_loadName_free I.ok.kind hk hc OR fin Ai) hd
theorem ma{i j pos}:PE X (.Constant (.int i) j pos) (tC (.int i)):=λ_ _ _ H _ I h=>wpAny_Constant_int ⟨.int i,H,I.tok _,⟨_,rfl⟩,h⟩
theorem O9{b j pos}:PE X (.Constant (.bool b) j pos) (tC (.bl b)):=λ_ _ _ H _ I h=>Constant_bool ⟨.bl b,H,I,rfl,h⟩
theorem HN{j pos}:PE X (.Constant .none j pos) (tC .non):=λ_ _ _ H _ I h=>PX ⟨.non,H,I,rfl,h⟩
theorem xa{x j pos}:PE X (.Constant (.str x) j pos) (tC (.str x)):=λ_ _ _ H _ I h=>Calls.Constant_str ⟨.str x,H,I.tok _,⟨_,rfl⟩,h⟩
def Gl(X:Cx)(x:Str):Prop:=X.env.kindOf x=some .globalImplicit
theorem kN{Q:dw}(I:Inv X pins σ H s)(hg:Gl X x)(hm:X.mg x=some u)(h:Q u s)
  (hd:autoParam ((x == ("__debug__":Str))=false) v0):aa0 (aa5 X.prog X.w) X.A (eval (.Name x pos) X.env) Q E s:=
 J4 I.ok.kind hg (Calls.loadGlobal_global (by rw[I.ok.glob];exact I.mod.glob.keeps I.bk) hm h) hd
theorem qj{Q:dw}(I:Inv X pins σ H s)(hg:Gl X x)(hm:X.mg x=none)(hv:aa6 x=some u)(h:Q u s)
  (hn:autoParam (x≠"__name__") v0) (hd:autoParam ((x == ("__debug__":Str))=false) v0):aa0 (aa5 X.prog X.w) X.A (eval (.Name x pos) X.env) Q E s:=by
 obtain⟨mb,h1,h2⟩:=I.mod.blt
 exact J4 I.ok.kind hg (Calls.loadGlobal_builtin (by rw[I.ok.glob];exact I.mod.glob.keeps I.bk) hm (by rw[I.ok.blt];exact h1.keeps I.bk) ((h2 x hn).trans hv) h) hd
theorem fY(hg:Gl X x)(hm:X.mg x=some u)(r:RelV v u)(hd:autoParam ((x == ("__debug__":Str))=false) v0):PE X (.Name x pos) (tC v):=
 λ_ _ _ H _ I h=>kN I hg hm ⟨v,H,I,r,h⟩ hd
theorem MM(hg:Gl X x)(hm:X.mg x=none)(hv:aa6 x=some u)(r:RelV v u)(hn:autoParam (x≠"__name__") v0)(hd:autoParam ((x == ("__debug__":Str))=false) v0):PE X (.Name x pos) (tC v):=
 λ_ _ _ H _ I h=>qj I hg hm hv ⟨v,H,I,r,h⟩ hn hd
variable {a b:Expr}
def PC(X:Cx)(op:CmpOp)(a b:Expr)(t:TE):Prop:=
 ∀(pins:aP7) (s:aa1) (σ:St) (H:Hp) (Q:VK),Inv X pins σ H s->t σ H Q ->
  aa0 (aa5 X.prog X.w) X.A (eval a X.env) (λv s₁=>aa0 (aa5 X.prog X.w) X.A (eval b X.env) (λu s₂=>aa0 (aa5 X.prog X.w) X.A (ac1 op v u) (EP X pins σ Q) X.xe s₂) X.xe s₁) X.xe s
def abt(ta:TE):TE:=λσ H Q=>ta σ H λx H1=>Q (.bl (decide (x=.non))) H1
def YB(ta:TE):TE:=λσ H Q=>ta σ H λx H1=>Q (.bl (!decide (x=.non))) H1
theorem RelV.yA{x:V}{v:Value}(r:RelV x v):(v == Value.none)=decide (x=.non):=by
 cases x with
 |non=>cases r;rfl
 |bl _=>cases r;rfl
 |int _=>obtain⟨t,rfl⟩:=r;rfl
 |str _=>obtain⟨t,rfl⟩:=r;rfl
 |E2 _=>obtain⟨t,rfl⟩:=r;rfl
 |Le _=>obtain⟨t,rfl⟩:=r;rfl
 |ref _=>cases r;rfl
 |ty _=>cases r;rfl
theorem SO{j pos'}(ha:PE X a ta):PC X .Is a (.Constant .none j pos') (abt ta):=by
 intro pins s σ H Q I h
 refine cM (ha pins s σ H _ I h) λv s1 ⟨x,H1,I1,r1,q1⟩=>?_
 exact PX (is_none_gen ⟨.bl _,H1,I1,by rw[r1.yA];rfl,q1⟩)
theorem ML{j pos'}(ha:PE X a ta):PC X .IsNot a (.Constant .none j pos') (YB ta):=by
 intro pins s σ H Q I h
 refine cM (ha pins s σ H _ I h) λv s1 ⟨x,H1,I1,r1,q1⟩=>?_
 exact PX (isnot_none_gen ⟨.bl _,H1,I1,by rw[r1.yA];rfl,q1⟩)
def tB(t:TE):TT:=λσ H Q=>t σ H λx H1=>∃c,x=.bl c/\Q c H1
theorem SS{t:TE}(h:PC X op a b t)(h1:ab2 op b=false:=by first|exact Hk _ (by decide) (by decide)|rfl):PE X (.Compare a [op] [b] pos) t:=λpins s σ H Q I hw=>wpAny_Compare1 (h pins s σ H Q I hw) h1
theorem Ts{t:TE}(h:PC X op a b t)(h1:ab2 op b=false:=by first|exact Hk _ (by decide) (by decide)|rfl):PT X (.Compare a [op] [b] pos) (tB t):=by
 intro pins s σ H Q I hw
 refine Y6 (cM (h pins s σ H _ I hw) λv s1 h1=>cM h1 λu s2 h2=>cM h2 λc s3 ⟨x,H1,I1,r1,q1⟩=>?_) h1
 obtain⟨d,rfl,q⟩:=q1
 cases r1
 exact cS ⟨H1,I1,q⟩
theorem IC{t:TE}(h:PE X e t)(he:autoParam (∀nD,isTrue e X.env nD=(do let v <-nD;standAt e.pos;holding [v] (truthy v))) ad1):PT X e (tB t):=by
 intro pins s σ H Q I hw
 refine isTrue_plain (cM (h pins s σ H _ I hw) λv s1 ⟨x,H1,I1,r1,q1⟩=>?_) (he _)
 obtain⟨d,rfl,q⟩:=q1
 cases r1
 exact cS ⟨H1,I1,q⟩
variable {tA Yu:TT}{rest:List Expr}
def Yt(t u:TT):TT:=λσ H Q=>t σ H λc H1=>if c=true then u σ H1 Q else Q false H1
def tOr(t u:TT):TT:=λσ H Q=>t σ H λc H1=>if c=true then Q true H1 else u σ H1 Q
def YA(t:TT):TT:=λσ H Q=>t σ H λc H1=>Q (!c) H1
theorem Nu(ha:PT X a tA):PW X (.BoolOp .And [a] pos) tA:=by
 intro wh pins s σ H Q I h
 refine isTrue_and (cM (ha pins s σ H Q I h) λc s1 e=>?_)
 cases c with
 |true=>exact isTrue_and_nil e
 |false=>exact e
theorem IE(ha:PT X a tA):PW X (.BoolOp .Or [a] pos) tA:=by
 intro wh pins s σ H Q I h
 refine isTrue_or (cM (ha pins s σ H Q I h) λc s1 e=>?_)
 cases c with
 |false=>exact isTrue_or_nil e
 |true=>exact e
theorem Tv(ha:PT X a tA)(hb:PW X (.BoolOp .And (b::rest) pos) Yu):PW X (.BoolOp .And (a::b::rest) pos) (Yt tA Yu):=by
 intro wh pins s σ H Q I h
 refine isTrue_and (cM (ha pins s σ H _ I h) λc s1 ⟨H1,I1,q1⟩=>?_)
 cases c with
 |true=>exact hb wh pins s1 σ H1 Q I1 q1
 |false=>exact⟨H1,I1,q1⟩
theorem Ph(ha:PT X a tA)(hb:PW X (.BoolOp .Or (b::rest) pos) Yu):PW X (.BoolOp .Or (a::b::rest) pos) (tOr tA Yu):=by
 intro wh pins s σ H Q I h
 refine isTrue_or (cM (ha pins s σ H _ I h) λc s1 ⟨H1,I1,q1⟩=>?_)
 cases c with
 |true=>exact⟨H1,I1,q1⟩
 |false=>exact hb wh pins s1 σ H1 Q I1 q1
theorem IB(ha:PT X a tA):PT X (.UnaryOp .Not a pos) (YA tA):=by
 intro pins s σ H Q I h
 exact isTrue_not (ha pins s σ H (λc H1=>Q (!c) H1) I h)
def PB(ta tb:TE):TE:=λσ H Q=>ta σ H λx H1=>∃c,x=.bl c/\if c=true then tb σ H1 Q else Q (.bl false) H1
def YD(ta tb:TE):TE:=λσ H Q=>ta σ H λx H1=>∃c,x=.bl c/\if c=true then Q (.bl true) H1 else tb σ H1 Q
def PL(ta:TE):TE:=λσ H Q=>ta σ H λx H1=>∃c,x=.bl c/\Q (.bl (!c)) H1
theorem HP{op}{t:TE}(h:PE X a t):PE X (.BoolOp op [a] pos) t:=λpins s σ H Q I hw=>BoolOp_one (h pins s σ H Q I hw)
theorem SQ(ha:PE X a ta)(hb:PE X (.BoolOp .And (b::rest) pos) tb):PE X (.BoolOp .And (a::b::rest) pos) (PB ta tb):=by
 intro pins s σ H Q I h
 refine BoolOp_and (cM (ha pins s σ H _ I h) λv s1 ⟨x,H1,I1,r1,q1⟩=>?_)
 obtain⟨c,rfl,q1⟩:=q1
 cases r1
 refine cS ?_
 cases c with
 |true=>exact hb pins s1 σ H1 Q I1 q1
 |false=>exact⟨.bl false,H1,I1,rfl,q1⟩
theorem XS(ha:PE X a ta)(hb:PE X (.BoolOp .Or (b::rest) pos) tb):PE X (.BoolOp .Or (a::b::rest) pos) (YD ta tb):=by
 intro pins s σ H Q I h
 refine BoolOp_or (cM (ha pins s σ H _ I h) λv s1 ⟨x,H1,I1,r1,q1⟩=>?_)
 obtain⟨c,rfl,q1⟩:=q1
 cases r1
 refine cS ?_
 cases c with
 |false=>exact hb pins s1 σ H1 Q I1 q1
 |true=>exact⟨.bl true,H1,I1,rfl,q1⟩
theorem SV(ha:PE X a ta):PE X (.UnaryOp .Not a pos) (PL ta):=by
 intro pins s σ H Q I h
 refine UnaryOp_ (cM (ha pins s σ H _ I h) λv s1 ⟨x,H1,I1,r1,q1⟩=>?_)
 obtain⟨c,rfl,q1⟩:=q1
 cases r1
 exact not_of (cS ⟨.bl (!c),H1,I1,rfl,q1⟩)
end
def gq(K:Frag)(H:Hp)(a:Addr)(xs:List V):Prop:=
 Rd H a (.lst xs) \/
  ∃(o:Obj) (its:Array Value) (n:Nat),K.lookup a=some o/\o.cls=.type "list"/\o.dict=none/\o.data=.seq its n/\its.size<=sizeLine/\Vals xs its.toList
def el(K:Frag)(H:Hp)(a:Addr)(xs:List V):Prop:=
 Rd H a (.tup xs) \/
  ∃(o:Obj) (its:Array Value) (n:Nat),K.lookup a=some o/\o.cls=.type "tuple"/\o.data=.seq its n/\its.size<=sizeLine/\Vals xs its.toList
noncomputable def E_:Value->Option V
 |.none=>some .non
 |.bool b=>some (.bl b)
 |.int i _=>some (.int i)
 |.str x _=>some (.str x)
 |.bytes b _=>some (.E2 b)
 |.float b _=>some (.Le b)
 |.ref a=>some (.ref a)
 |.type n=>some (.ty n)
 |_=>none
theorem RelV.abs{x:V}(r:RelV x u):E_ u=some x:=by
 cases x with
 |non=>cases r;rfl
 |bl _=>cases r;rfl
 |int _=>obtain⟨t,rfl⟩:=r;rfl
 |str _=>obtain⟨t,rfl⟩:=r;rfl
 |E2 _=>obtain⟨t,rfl⟩:=r;rfl
 |Le _=>obtain⟨t,rfl⟩:=r;rfl
 |ref _=>cases r;rfl
 |ty _=>cases r;rfl
theorem RelV.inj{x y:V}(r:RelV x u)(q:RelV y u):x=y:=cL (r.abs.symm.trans q.abs)
theorem Vals.inj:∀{xs ys:List V}{us:List Value},Vals xs us->Vals ys us->xs=ys
 |_,_,_,.nil,.nil=>rfl
 |_,_,_,.cons r t,.cons r' t'=>by rw[r.inj r',Vals.inj t t']
section
variable {ys:List V}
theorem gq.of(h:H a=some (.lst xs)):gq K H a xs:=.inl (.inl h)
theorem el.of(h:H a=some (.tup xs)):el K H a xs:=.inl (.inl h)
theorem Inv.list(I:Inv X pins σ H s)(h:gq X.K H a xs):∃its:List Value,Vals xs its/\PlainL s.heap a its.toArray/\xs.length<=sizeLine:=by
 rcases h with h|⟨o,its,n,hk,hc,hd,hs,hz,r⟩
 ·obtain⟨z,its,n,r,e⟩:=h.ok I.cN
  exact⟨its,r,⟨_,n,e,rfl,rfl,rfl⟩,z⟩
 ·refine⟨its.toList,r,⟨o,n,I.nO a o hk,hc,hd,by simpa using hs⟩,?_⟩
  have e:=r.length
  simp only[bX] at e
  lia
theorem Inv.tuple(I:Inv X pins σ H s)(h:el X.K H a xs):∃its:List Value,Vals xs its/\IsTup s.heap a its.toArray/\xs.length<=sizeLine:=by
 rcases h with h|⟨o,its,n,hk,hc,hs,hz,r⟩
 ·obtain⟨z,its,r,p⟩:=h.ok I.cN
  exact⟨its,r,p,z⟩
 ·refine⟨its.toList,r,⟨o,I.nO a o hk,hc,n,by simpa using hs⟩,?_⟩
  have e:=r.length
  simp only[bX] at e
  lia
theorem Inv.yu(I:Inv X pins σ H s)(h:gq X.K H a xs)(h':gq X.K H a ys):xs=ys:=by
 obtain⟨its,r,⟨o,n,e,_,_,d⟩,_⟩:=I.list h
 obtain⟨its',r',⟨o',n',e',_,_,d'⟩,_⟩:=I.list h'
 rw[e] at e';cases e'
 rw[d] at d'
 injection d' with d1 _
 have:its=its':=by simpa using eB Array.toList d1
 subst this
 exact r.inj r'
theorem Inv.jc(I:Inv X pins σ H s)(h:el X.K H a xs)(h':el X.K H a ys):xs=ys:=by
 obtain⟨its,r,⟨o,e,_,n,d⟩,_⟩:=I.tuple h
 obtain⟨its',r',⟨o',e',_,n',d'⟩,_⟩:=I.tuple h'
 rw[e] at e';cases e'
 rw[d] at d'
 injection d' with d1 _
 have:its=its':=by simpa using eB Array.toList d1
 subst this
 exact r.inj r'
end
noncomputable abbrev Cx.uP (X:Cx) (E:dw):Cx:={X with xe:=E}
abbrev Cx.O5 (X:Cx):Cx:=X.uP λ_ _=>False
theorem Cx.Ok.uP(ok:X.Ok)(E:dw):(X.uP E).Ok:=
 ⟨ok.mod,ok.kind,ok.glob,ok.blt,ok.above,ok.inj,ok.has,ok.OG,ok.hd,ok.frames,ok.Ua,ok.Lb,ok.bs,ok.Bt,ok.wZ,ok.wz,ok.kI,ok.F9⟩
theorem Cx.Ok.mm(ok:(X.uP E).Ok):X.Ok:=
 ⟨ok.mod,ok.kind,ok.glob,ok.blt,ok.above,ok.inj,ok.has,ok.OG,ok.hd,ok.frames,ok.Ua,ok.Lb,ok.bs,ok.Bt,ok.wZ,ok.wz,ok.kI,ok.F9⟩
theorem Inv.uP(I:Inv X pins σ H s)(E:dw):Inv (X.uP E) pins σ H s:=⟨I.ok.uP E,I.os,I.bare,I.base,I.loc,I.cell,I.free,I.iq,I.pin,I.cN,I.len⟩
theorem Inv.mm(I:Inv (X.uP E) pins σ H s):Inv X pins σ H s:=⟨I.ok.mm,I.os,I.bare,I.base,I.loc,I.cell,I.free,I.iq,I.pin,I.cN,I.len⟩
theorem SP.mm{f:Flow}(h:SP (X.uP E) pins D f s'):SP X pins D f s':=by
 cases f with
 |next=>obtain⟨σ',H',I,q⟩:=h;exact⟨σ',H',I.mm,q⟩
 |brk=>obtain⟨σ',H',I,q⟩:=h;exact⟨σ',H',I.mm,q⟩
 |cont=>obtain⟨σ',H',I,q⟩:=h;exact⟨σ',H',I.mm,q⟩
 |ret u=>obtain⟨v,σ',H',I,r,q⟩:=h;exact⟨v,σ',H',I.mm,r,q⟩
theorem nj.O5{st:List Stmt}{t:TS}(h:nj X.O5 st t):nj X st t:=λpins s σ H D I hw=>
 eD (h pins s σ H D (I.uP _) hw) (λ_ _ q=>q.mm) λ_ _ z=>False.elim z
section
variable {st:Stmt}{rest:List Stmt}{t u:TS}
def Yz:TS:=λD σ H=>D.nx σ H
def YG(t u:TS):TS:=λD σ H=>t {D with nx:=u D} σ H
theorem Cw:nj X [] Yz:=λ_ _ σ H _ I h=>lF ⟨σ,H,I,h⟩
theorem jr(h1:PS X st t)(h2:nj X rest u):nj X (st::rest) (YG t u):=by
 intro pins s σ H D I h
 refine wpAny_execs_cons (cM (h1 pins s σ H {D with nx:=u D} I h) λf s1 q=>?_)
 cases f with
 |next=>
  obtain⟨σ',H',I',q⟩:=q
  exact h2 pins s1 σ' H' D I' q
 |ret v=>exact q
 |brk=>exact q
 |cont=>exact q
theorem jN(h1:PS X st t):nj X [st] t:=by
 intro pins s σ H D I h
 refine wpAny_execs_cons (cM (h1 pins s σ H D I h) λf s1 q=>?_)
 cases f with
 |next=>exact lF q
 |ret v=>exact q
 |brk=>exact q
 |cont=>exact q
def Ug:TS:=λD σ H=>D.bk σ H
def Yw:TS:=λD σ H=>D.ct σ H
theorem Iv:PS X (.Break pos) Ug:=λ_ _ σ H _ I h=>wpAny_Break ⟨σ,H,I,h⟩
theorem yF:PS X (.Continue pos) Yw:=λ_ _ σ H _ I h=>wpAny_Continue ⟨σ,H,I,h⟩
theorem Inv.quiet(I:Inv X pins σ H s):interactive X.env=false:=by simp[interactive,I.ok.kind]
def PH(te:TE):TS:=λD σ H=>te σ H λ_ H1=>D.nx σ H1
theorem rP(he:PE X e te)(hs:autoParam (ac2 e none pos.line X.env=pure false) o0):PS X (.Expr e pos) (PH te):=by
 intro pins s σ H D I h
 exact wpAny_Expr_any (cM (he pins s σ H _ I h) λv s1 ⟨x,H1,I1,r1,q1⟩=>⟨σ,H1,I1,q1⟩) I.quiet hs
def abu(te:TE):TS:=λD σ H=>te σ H D.rt
theorem tX(he:PE X e te):PS X (.Return (some e) pos) (abu te):=by
 intro pins s σ H D I h
 exact wpAny_Return_some (cM (he pins s σ H _ I h) λv s1 ⟨x,H1,I1,r1,q1⟩=>⟨x,σ,H1,I1,r1,q1⟩)
def abr(c:TT)(t u:TS):TS:=λD σ H=>c σ H λb H1=>if b=true then t D σ H1 else u D σ H1
theorem Pg{a b:List Stmt}{tc:TT}(hc:PT X c tc)(ha:nj X a t)(hb:nj X b u):PS X (.If c a b pos) (abr tc t u):=by
 intro pins s σ H D I h
 refine wpAny_If (cM (hc pins s σ H _ I h) λd s1 ⟨H1,I1,q1⟩=>?_)
 cases d with
 |true=>exact ha pins s1 σ H1 D I1 q1
 |false=>exact hb pins s1 σ H1 D I1 q1
end
abbrev TG:=V->St->Hp->(St->Hp->Prop)->Prop
abbrev Oz:=List V->St->Hp->(St->Hp->Prop)->Prop
def PG(X:Cx)(target:Expr)(t:TG):Prop:=
 ∀(pins:aP7) (s:aa1) (σ:St) (H:Hp) (v:V) (u:Value) (Q:St->Hp->Prop),Inv X pins σ H s->RelV v u->t v σ H Q ->
  aa0 (aa5 X.prog X.w) X.A (assign target X.env u) (λ_ s'=>∃σ' H',Inv X pins σ' H' s'/\Q σ' H') X.xe s
def Qn(X:Cx)(ts:List Expr)(t:Oz):Prop:=
 ∀(pins:aP7) (s:aa1) (σ:St) (H:Hp) (vs:List V) (us:List Value) (Q:St->Hp->Prop),Inv X pins σ H s->Vals vs us->t vs σ H Q ->
  aa0 (aa5 X.prog X.w) X.A (assignInOrder ((ab9 ts X.env).map (·.2)) us) (λ_ s'=>∃σ' H',Inv X pins σ' H' s'/\Q σ' H') X.xe s
abbrev Qo:=V->V->V->Hp->(Hp->Prop)->Prop
def Ki(X:Cx)(t:Qo):Prop:=
 ∀(pins:aP7) (s:aa1) (σ:St) (H:Hp) (o i v:V) (ov iv u:Value) (Q:Hp->Prop),Inv X pins σ H s->RelV o ov->RelV i iv->RelV v u->t o i v H Q ->
  aa0 (aa5 X.prog X.w) X.A (setItem ov iv u) (λ_ s'=>∃H',Inv X pins σ H' s'/\Q H') X.xe s
def lW(i:Nat):TG:=λv σ H Q=>Q (σ.set i (some v)) H
theorem xb(hN:X.N.Nodup)(hi:autoParam (X.N[i]?=some x) o0)(hx:Loc X.env.scope x:=by exact Or.inl rfl)(hf:autoParam (X.fn x=true\/X.env.scope.names.lookup x=some .local) ac7):PG X (.Name x pos) (lW i):=by
 intro pins s σ H v u Q I r h
 exact wpAny_assign_Name (pA I hN hi hx r (λs' I'=>⟨_,H,I',h⟩) hf)
def Wh:Oz:=λvs σ H Q=>vs = []/\Q σ H
def OO(t:TG)(u:Oz):Oz:=λvs σ H Q=>∃v r,vs=v::r/\t v σ H λσ' H'=>u r σ' H' Q
theorem Nk:Qn X [] Wh:=by
 intro pins s σ H vs us Q I r h
 obtain⟨e,h⟩:=h
 subst e
 cases r
 exact assignInOrder_nil ⟨σ,H,I,h⟩
theorem Ii{t:TG}{u:Oz}(h1:PG X e t)(h2:Qn X es u)
  (hs:autoParam ((ab9 (e::es) X.env).map (·.2)=assign e X.env::(ab9 es X.env).map (·.2)) o0):Qn X (e::es) (OO t u):=by
 intro pins s σ H vs us Q I r h
 obtain⟨v,vr,e1,h⟩:=h
 subst e1
 cases r with
 |cons r rr=>
  rw[hs]
  refine assignInOrder_cons (cM (h1 pins s σ H _ _ _ I r h) λ_ s1 ⟨σ1,H1,I1,q1⟩=>?_)
  exact h2 pins s1 σ1 H1 _ _ Q I1 rr q1
def Q6(K:Frag)(n:Nat)(t:Oz):TG:=λv σ H Q=>∃a xs,v=.ref a/\el K H a xs/\xs.length=n/\t xs σ H Q
theorem Th{t:Oz}(hc:X.calm=true)(h:Qn X es t)
  (hn:autoParam ((ab9 es X.env).length=n) o0) (OV:autoParam ((ab9 es X.env).findIdx? (·.1)=none) o0):PG X (.Tuple es k pos) (Q6 X.K n t):=by
 intro pins s σ H v u Q I r hw
 obtain⟨a,xs,e1,hq,hl,hw⟩:=hw
 subst e1
 cases r
 obtain⟨its,rv,ht,hz⟩:=I.tuple hq
 refine assign_Tuple_tuple (I.ok.hd hc) ht (by simp[hn,<-hl,rv.length]) OV λh' hx=>?_
 have I1:Inv X pins σ H {s with heap:=h'}:=I.kept (t':=s.toks) λb o e=>hx b o (aW (aI e)) e
 exact h pins _ σ H xs _ Q I1 (by simpa using rv) hw
def Wj(to ti:TE)(t:Qo):TG:=λv σ H Q=>to σ H λo H1=>ti σ H1 λi H2=>t o i v H2 λH3=>Q σ H3
theorem Tf{o i:Expr}{to ti:TE}{t:Qo}(ho:PE X o to)(hi:PE X i ti)(hs:Ki X t)
  (ha:autoParam (∀v,assign (.Subscript o i pos) X.env v=(do
   let ov <-holding [v] (eval o X.env)
   let iv <-holding [v,ov] (eval i X.env)
   standAt pos
   holding [v,ov,iv] (setItem ov iv v)
   release [v,ov,iv] [])) ad1):PG X (.Subscript o i pos) (Wj to ti t):=by
 intro pins s σ H v u Q I r h
 rw[ha]
 refine aa (cD (cM (ho pins s σ H _ I h) λov s1 ⟨x,H1,I1,r1,q1⟩=>?_))
 refine aa (cD (cM (hi pins s1 σ H1 _ I1 q1) λiv s2 ⟨y,H2,I2,r2,q2⟩=>?_))
 refine aa (Qa (aa (cD (cM (hs pins s2 σ H2 x y v ov iv u _ I2 r1 r2 r q2) λ_ s3 ⟨H3,I3,q3⟩=>?_))))
 exact wpAny_release ⟨σ,H3,I3,q3⟩
def yN(te:TE)(g:TG):TS:=λD σ H=>te σ H λx H1=>g x σ H1 D.nx
theorem Ir{g:TG}(he:PE X e te)(hg:PG X tg g)(hs:autoParam (swapsWithSole [tg] e pos.line X.env=pure false) o0)(hw:autoParam (swappedStores [tg] e X.env=pure none) o0)
  (h1:autoParam ((ab9 [tg] X.env).map (·.2) = [assign tg X.env]) o0):PS X (.Assign [tg] e pos) (yN te g):=by
 intro pins s σ H D I h
 refine wpAny_Assign_stores (cM (he pins s σ H _ I h) λv s1 ⟨x,H1,I1,r1,q1⟩=>?_) hs hw
 rw[h1]
 exact cM (hg pins s1 σ H1 x v _ I1 r1 q1) λ_ s2 q=>q
theorem Iy(hN:X.N.Nodup)(hi:X.N[i]?=some x)(hx:Loc X.env.scope x)(he:PE X e te)(hs:autoParam (ac2 e (some (.Name x pos')) pos.line X.env=pure false) o0)(hf:autoParam (X.fn x=true\/X.env.scope.names.lookup x=some .local) ac7) :
  PS X (.Assign [.Name x pos'] e pos) (yN te (lW i)):=by
 intro pins s σ H D I h
 refine wpAny_Assign_Name (cM (he pins s σ H _ I h) λv s1 ⟨y,H1,I1,r1,q1⟩=>?_) hs
 exact pA I1 hN hi hx r1 (λs2 I2=>⟨_,H1,I2,q1⟩) hf
theorem Nt(i:Nat)(hN:X.N.Nodup)(he:PE X e te)(hi:autoParam (X.N[i]?=some x) o0)(hx:Loc X.env.scope x:=by exact Or.inl rfl)(hs:autoParam (ac2 e (some (.Name x pos')) pos.line X.env=pure false) o0)(hf:autoParam (X.fn x=true\/X.env.scope.names.lookup x=some .local) ac7) :
  PS X (.Assign [.Name x pos'] e pos) (yN te (lW i)):=Iy hN hi hx he hs hf
structure It where
 go:Nat->Hp->Prop
 Vi:Nat->Hp->V->Hp->Prop
 stop:Nat->Hp->Prop
def lG(X:Cx)(pins:aP7)(H:Hp)(b:Addr):Prop:=
 H b=none/\b≠X.env.locals/\b∉X.fs/\(b∈X.ex\/X.s₀.heap.objs.size<=b)/\(∀x c,X.env.cells.lookup x=some c->c≠b)/\∀p∈X.pn++pins,p.1≠b
theorem Inv.Ab(I:Inv X pins σ H s)(hb:s.heap.objs.size<=b)(hn:H' b=none):lG X pins H' b:=by
 refine⟨hn,fR (bw I.lt hb),I.aaU hb,.inr (aA I.sz hb),λx c e z=>?_,λp hp z=>?_⟩
 ·obtain⟨v,q⟩:=I.cell x c e
  exact absurd (bw q.lt (by rw[z];exact hb)) (dG _)
 ·exact absurd (bw (aI (I.pin p hp).1) (by rw[z];exact hb)) (dG _)
structure zv (P:ab0) (w:ab1) (K:Frag) (tg:Expr) (J:It) (fp:List Addr) (it:Addr) (tn:Nat->Heap->Prop):Prop where
 mem:it∈fp
 obj:∀i h,tn i h->∀b∈fp,∃o,h.get? b=some o/\∀v,o.data≠.cell v
 keep:∀i h h',tn i h->(∀b∈fp,∀o,h.get? b=some o->h'.get? b=some o)->tn i h'
 item:∀(X:Cx),X.prog=P->X.w=w->X.K=K->X.calm=true->∀(i:Nat) (pins:aP7) (s:aa1) (σ:St) (H:Hp) (E:dw),Inv X pins σ H s->(∀b∈fp,lG X pins H b)->tn i s.heap->J.go i H ->
  aa0 (aa5 P w) X.A (pyNext (.ref it)) (λr s1=>∃u,r=some u /\
   aa0 (aa5 P w) X.A (letOwnedTupleGo tg (.ref it) u) (λ_ s2=>∃x H',Inv X pins σ H' s2/\RelV x u/\J.Vi i H x H'/\tn (i+1) s2.heap/\∀b∈fp,H' b=none) E s1) E s
 done:∀(X:Cx),X.prog=P->X.w=w->X.K=K->X.calm=true->∀(i:Nat) (pins:aP7) (s:aa1) (σ:St) (H:Hp) (E:dw),Inv X pins σ H s->(∀b∈fp,lG X pins H b)->tn i s.heap->J.stop i H ->
  aa0 (aa5 P w) X.A (pyNext (.ref it)) (λr s1=>r=none/\Inv X pins σ H s1) E s
 self:∀(A:ab4) (i:Nat) (s:aa1) (Q:dw) (E:dw),tn i s.heap->Q (.ref it) s->aa0 (aa5 P w) A (pyIter (.ref it)) Q E s
abbrev TI:=St->Hp->(It->Hp->Prop)->Prop
def PIE(X:Cx)(pins:aP7)(σ:St)(tg:Expr)(R:It->Hp->Prop)(Xb:Value)(s2:aa1):Prop:=
 ∃(it:Addr) (fp:List Addr) (tn:Nat->Heap->Prop) (J:It) (H':Hp),Xb=.ref it/\Inv X pins σ H' s2/\zv X.prog X.w X.K tg J fp it tn/\tn 0 s2.heap/\(∀b∈fp,lG X pins H' b)/\R J H'
def PI(X:Cx)(tg iter:Expr)(wi:TI):Prop:=
 ∀(pins:aP7) (s:aa1) (σ:St) (H:Hp) (R:It->Hp->Prop),Inv X pins σ H s->wi σ H R ->
  aa0 (aa5 X.prog X.w) X.A (eval iter X.env) (λv s1=>aa0 (aa5 X.prog X.w) X.A (pyIter v) (PIE X pins σ tg R) X.xe s1) X.xe s
theorem BS{o:Obj}{n:String}{vs:Array Value}(ho:s.heap.get? it=some o)(hc:o.cls=.type n)(hd:o.data=.fields vs)
    (hn : ["enumerate","zip","dict_itemiterator","dict_reverseitemiterator","odict_iterator","itertools.zip_longest","itertools.pairwise"].contains n=false) (hQ:Q () s):aa0 M A (letOwnedTupleGo tg (.ref it) u) Q E s:=by
  unfold letOwnedTupleGo
  cases tg<;>first
    | exact ak hQ
    | (cases u<;>first
        | exact ak hQ
        | (refine aa (wpAny_load ho ?_)
           rw[hc,hd]
           show aa0 M A (if (["enumerate","zip","dict_itemiterator","dict_reverseitemiterator","odict_iterator","itertools.zip_longest","itertools.pairwise"].contains n&&vs[0]? == some (ab7 _))=true then _ else _) Q E s
           rw[bJ (by intro h;rw[hn,Bool.false_and] at h;cases h)]
           exact ak hQ))
def x_(K:Frag)(a:Addr):It:=
 ⟨λi H=>∃xs x,gq K H a xs/\xs[i]?=some x,λi H x H'=>H'=H/\∀xs,gq K H a xs->xs[i]?=some x,λi H=>∃xs,gq K H a xs/\xs.length<=i⟩
def JT(K:Frag)(a:Addr):It:=
 ⟨λi H=>∃xs x,el K H a xs/\xs[i]?=some x,λi H x H'=>H'=H/\∀xs,el K H a xs->xs[i]?=some x,λi H=>∃xs,el K H a xs/\xs.length<=i⟩
def Zc(lo:Int)(n:Nat):It:=⟨λi _=>i<n,λi H x H'=>H'=H/\x=.int (lo+i),λi _=>n<=i⟩
theorem EM(a it:Addr):zv P w K tg (x_ K a) [it] it (λi h=>h.IsListIter it a i) where
 mem:=by simp
 obj:=λi h st b hb=>by
  have e:b=it:=by simpa using hb
  subst e
  obtain⟨o,e,c,d⟩:=st
  exact⟨o,e,λv z=>by rw[d] at z;cases z⟩
 keep:=λi h h' st k=>st.at λo e=>k it (by simp) o e
 item:=by
  intro X hP hw hK hc i pins s σ H E I hf st hg
  subst hP hw hK
  obtain⟨xs,x,hq,hx⟩:=hg
  obtain⟨its,rv,p,hz⟩:=I.list hq
  obtain⟨u,hu,ru⟩:=rv.get hx
  obtain⟨f0,f1,f2,f3,f4,f5⟩:=hf it (by simp)
  refine Vt st p.isList (x:=u) (by simpa using hu) λh' A7 sb=>?_
  have I1:Inv X pins σ H {s with heap:=h'}:=I.turned (t':=s.toks) (λb o hb e=>(sb.2 b hb).trans e) f0 f1 f3 f4 f5
  obtain⟨o,e,c,d⟩:=id A7
  exact⟨u,rfl,BS (s:={s with heap:=h'}) e c d (by decide) ⟨x,H,I1,ru,⟨rfl,λys hy=>by rw[I.yu hy hq];exact hx⟩,A7,λb hb=>(hf b hb).1⟩⟩
 done:=by
  intro X hP hw hK hc i pins s σ H E I hf st hg
  subst hP hw hK
  obtain⟨xs,hq,hx⟩:=hg
  obtain⟨its,rv,p,hz⟩:=I.list hq
  obtain⟨f0,f1,f2,f3,f4,f5⟩:=hf it (by simp)
  have hl:=rv.length
  exact Y7 (I.ok.hd hc) st p.isList (by simp;lia) λh' eb=>⟨rfl,I.turned (t':=s.toks) (λb o hb e=>eb b o hb e) f0 f1 f3 f4 f5⟩
 self:=λ_ _ _ _ _ st h=>wpAny_pyIter_listiter st h
theorem Be(a it:Addr):zv P w K tg (JT K a) [it] it (λi h=>h.IsTupleIter it a i) where
 mem:=by simp
 obj:=λi h st b hb=>by
  have e:b=it:=by simpa using hb
  subst e
  obtain⟨o,e,c,d⟩:=st
  exact⟨o,e,λv z=>by rw[d] at z;cases z⟩
 keep:=λi h h' st k=>st.at λo e=>k it (by simp) o e
 item:=by
  intro X hP hw hK hc i pins s σ H E I hf st hg
  subst hP hw hK
  obtain⟨xs,x,hq,hx⟩:=hg
  obtain⟨its,rv,p,hz⟩:=I.tuple hq
  obtain⟨u,hu,ru⟩:=rv.get hx
  obtain⟨f0,f1,f2,f3,f4,f5⟩:=hf it (by simp)
  refine UR st (show s.heap.IsTuple a its.toArray from p) (x:=u) (by simpa using hu) λh' A7 sb=>?_
  have I1:Inv X pins σ H {s with heap:=h'}:=I.turned (t':=s.toks) (λb o hb e=>(sb.2 b hb).trans e) f0 f1 f3 f4 f5
  obtain⟨o,e,c,d⟩:=id A7
  exact⟨u,rfl,BS (s:={s with heap:=h'}) e c d (by decide) ⟨x,H,I1,ru,⟨rfl,λys hy=>by rw[I.jc hy hq];exact hx⟩,A7,λb hb=>(hf b hb).1⟩⟩
 done:=by
  intro X hP hw hK hc i pins s σ H E I hf st hg
  subst hP hw hK
  obtain⟨xs,hq,hx⟩:=hg
  obtain⟨its,rv,p,hz⟩:=I.tuple hq
  obtain⟨f0,f1,f2,f3,f4,f5⟩:=hf it (by simp)
  have hl:=rv.length
  exact wpAny_pyNext_tuple_end (I.ok.hd hc) st (show s.heap.IsTuple a its.toArray from p) (by simp;lia) λh' eb=>⟨rfl,I.turned (t':=s.toks) (λb o hb e=>eb b o hb e) f0 f1 f3 f4 f5⟩
 self:=λ_ _ _ _ _ st h=>wpAny_pyIter_tupleiter st h
theorem Bd(it:Addr)(lo:Int)(n:Nat):zv P w K tg (Zc lo n) [it] it (λi h=>IsRangeIter h it (lo+(i:Nat)*1) ((n:Int)-(i:Nat)) 1) where
 mem:=by simp
 obj:=λi h st b hb=>by
  have e:b=it:=by simpa using hb
  subst e
  exact⟨_,st,λv z=>by
   have z':Data.fields _=Data.cell v:=z
   cases z'⟩
 keep:=λi h h' st k=>k it (by simp) _ st
 item:=by
  intro X hP hw hK hc i pins s σ H E I hf st hg
  subst hP hw hK
  obtain⟨f0,f1,f2,f3,f4,f5⟩:=hf it (by simp)
  have W:=Walks.range (prog:=X.prog) (w:=X.w) (I.ok.hd hc) it lo 1 n
  refine W.item i s _ _ hg st λv h' tk hv A7 kk=>?_
  obtain⟨t,rfl⟩:=hv
  have I1:Inv X pins σ H {s with heap:=h',toks:=tk}:=I.turned (λb o hb e=>kk b o (by simpa using hb) e) f0 f1 f3 f4 f5
  refine⟨_,rfl,BS (s:={s with heap:=h',toks:=tk}) (n:="range_iterator") A7 rfl rfl (by decide) ⟨.int (lo+i),H,I1,⟨t,?_⟩,⟨rfl,rfl⟩,A7,λb hb=>(hf b hb).1⟩⟩
  rw[Int.mul_one]
 done:=by
  intro X hP hw hK hc i pins s σ H E I hf st hg
  subst hP hw hK
  obtain⟨f0,f1,f2,f3,f4,f5⟩:=hf it (by simp)
  exact wpAny_pyNext_range_end (I.ok.hd hc) st (by have:n<=i:=hg;lia) λh' eb=>⟨rfl,I.turned (t':=s.toks) (λb o hb e=>eb b o hb e) f0 f1 f3 f4 f5⟩
 self:=λ_ _ _ _ _ st h=>wpAny_pyIter_rangeiter st h
def aau(K:Frag)(tl:TE):TI:=λσ H R=>tl σ H λx H1=>∃a,x=.ref a/\(∃xs,el K H1 a xs)/\R (JT K a) H1
theorem IH{R:It->Hp->Prop}{lo hi:Int}{t u v:Tok}{tk:Nat}(I:Inv X pins σ H s)(h1 : -(2 ^ 62)<=lo)(h2:lo<2 ^ 62)(h3 : -(2 ^ 62)<=hi)(h4:hi<2 ^ 62)
  (q:R (Zc lo (hi-lo).toNat) H):aa0 (aa5 X.prog X.w) X.A (pyIter (.ref s.heap.objs.size)) (PIE X pins σ tg R) E {s with heap:=s.heap.push {cls:=.type "range",data:=.fields #[.int lo t,.int hi u,.int 1 v]},toks:=tk}:=by
 refine wpAny_pyIter_range (IsRange.new ..) (small_one h1 h2 h3 h4) ?_
 have I1:Inv X pins σ H {s with heap:=s.heap.push {cls:=.type "range",data:=.fields #[.int lo t,.int hi u,.int 1 v]},toks:=tk}:=I.kept λb o e=>ae _ e
 refine⟨(s.heap.push {cls:=.type "range",data:=.fields #[.int lo t,.int hi u,.int 1 v]}).objs.size,[(s.heap.push {cls:=.type "range",data:=.fields #[.int lo t,.int hi u,.int 1 v]}).objs.size],_,_,H,rfl,
  I1.kept (t':=tk) λb o e=>ae _ e,Bd _ lo (hi-lo).toNat,?_,λb hb=>?_,q⟩
 ·have e1:lo+((0:Nat):Int)*1=lo:=by simp
  have e2:(((hi-lo).toNat:Nat):Int)-((0:Nat):Int)=Builtin.Range.rangeSize lo hi 1:=by rw[rangeSize_one];split<;>lia
  show IsRangeIter _ _ (lo+((0:Nat):Int)*1) ((((hi-lo).toNat:Nat):Int)-((0:Nat):Int)) 1
  rw[e1,e2]
  exact aG _ rfl
 ·have e:b=(s.heap.push {cls:=.type "range",data:=.fields #[.int lo t,.int hi u,.int 1 v]}).objs.size:=by simpa using hb
  subst e
  exact I1.Ab (au _) (I1.cN.fresh (au _))
def W5(ta:TA):TI:=λσ H R=>ta σ H λvs H1=>∃j:Int,vs = [.int j] /\ -(2 ^ 62)<=j/\j<2 ^ 62/\R (Zc 0 j.toNat) H1
theorem Ew{a:Expr}{ta:TA}(hg:Gl X "range")(hm:X.mg "range"=none)(ha:PA X [a] ta)(hs:autoParam (aa9 [a] X.env = [(false,eval a X.env)]) o0):PI X tg (.Call (.Name "range" p) [a] [] pos) (W5 ta):=by
 intro pins s σ H R I h
 refine Call_ (qj I hg hm boot_range (gB (cM (ha pos pins s σ H _ I h) λus s1 ⟨vs,H1,I1,r1,q1⟩=>?_) hs rfl))
 obtain⟨j,e,q1,q2,q⟩:=q1
 subst e
 cases r1 with
 |cons r rr=>
  cases rr
  obtain⟨t,rfl⟩:=r
  exact call_range_1 (IH I1 (by lia) (by lia) q1 q2 (by simpa using q))
def Ui(wi:TI)(g:TG)(tb:TS):TS:=λD σ H=>wi σ H λJ H1=>∃W:Nat->Nat->St->Hp->Prop,(∃m,W 0 m σ H1)/\∀i m σ H,W i m σ H ->
 (J.stop i H/\D.nx σ H)\/(J.go i H/\∃N:St->Hp->Prop,(∀σ' H',N σ' H'->∃m',m'<m/\W (i+1) m' σ' H')/\∀x H',J.Vi i H x H'->g x σ H' λσ2 H2=>tb {D with nx:=N,ct:=N,bk:=D.nx} σ2 H2)
def md(fp:List Addr)(h:Heap):aP7:=fp.filterMap λb=>(h.get? b).map λo=>(b,o)
theorem fq{o:Obj}(hb:b∈fp)(e:h.get? b=some o):(b,o)∈md fp h:=mQ.mpr ⟨b,hb,by rw[e];rfl⟩
theorem Eg{p:Addr×Obj}(hp:p∈md fp h):p.1∈fp/\h.get? p.1=some p.2:=by
 obtain⟨b,hb,e⟩:=mQ.mp hp
 cases q:h.get? b with
 |none=>rw[q] at e;cases e
 |some o=>
  rw[q] at e
  have e':(b,o)=p:=cL e
  subst e'
  exact⟨hb,q⟩
theorem Inv.pinned(I:Inv X pins σ H s)(hf:∀b∈fp,lG X pins H b)(ho:∀b∈fp,∃o,s.heap.get? b=some o/\∀v,o.data≠.cell v):Inv X (pins++md fp s.heap) σ H s:=
 I.xg λp hp=>(bu.mp hp).elim (λz=>I.pin p (aM _ z)) λz=>by
  obtain⟨hb,e⟩:=Eg z
  obtain⟨f0,f1,f2,_⟩:=hf p.1 hb
  obtain⟨o,e',d⟩:=ho p.1 hb
  rw[e] at e';cases e'
  exact⟨e,f0,f1,f2,d⟩
theorem Inv.fz{pl:aP7}(I:Inv X (pins++pl) σ H s):Inv X pins σ H s:=I.xg λp hp=>I.pin p (aM _ (dO _ hp))
theorem Tq{iter:Expr}{wi:TI}{g:TG}{tb:TS}(hp:PassesOwn (aa5 X.prog X.w) X.A X.env X.xe)(hc:X.calm=true)(hi:PI X tg iter wi)(hg:PG X tg g)(hb:nj X body tb)
  (hs:autoParam (∀x,ab8 iter X.env x=pure x) ad1):PS X (.For tg iter body [] pos) (Ui wi g tb):=by
 intro pins s σ H D I h
 refine wpAny_For (cM (hi pins s σ H _ I h) λv s1 h1=>cM h1 λXb s2 h2=>?_) hs
 obtain⟨it,fp,tn,J,H2,e,I2,T,T8,f2,W,⟨m0,w0⟩,turn⟩:=h2
 subst e
 have ue:∀{H':Hp},(∀b∈fp,H' b=none)->∀b∈fp,lG X pins H' b:=λhn b hb=>⟨hn b hb,(f2 b hb).2⟩
 refine abQ (λn s'=>∃i σ' H',Inv X pins σ' H' s'/\tn i s'.heap/\(∀b∈fp,H' b=none)/\W i n σ' H') ?_ m0 ⟨0,σ,H2,I2,T8,λb hb=>(f2 b hb).1,w0⟩
 rintro n s3 ⟨i,σ3,H3,I3,Yq,Zq,w3⟩
 rcases turn i n σ3 H3 w3 with ⟨stop,qn⟩|⟨go,N,hN,step⟩
 ·refine dv hp (cM (T.done X rfl rfl rfl hc i pins s3 σ3 H3 X.xe I3 (ue Zq) Yq stop) λr s4 ⟨hr,I4⟩=>?_)
  subst hr
  exact lF ⟨σ3,H3,I4,qn⟩
 ·refine dv hp (cM (T.item X rfl rfl rfl hc i pins s3 σ3 H3 X.xe I3 (ue Zq) Yq go) λr s4 ⟨u,hr,h4⟩=>?_)
  subst hr
  refine dv hp (cM h4 λ_ s5 ⟨x,H5,I5,r5,y5,NP,Q1⟩=>?_)
  have I5':=I5.pinned (ue Q1) (T.obj _ _ NP)
  refine dv hp (cM (hg _ s5 σ3 H5 x u _ I5' r5 (step x H5 y5)) λ_ s6 ⟨σ6,H6,I6,q6⟩=>?_)
  refine dv hp (cM (hb _ s6 σ6 H6 _ I6 q6) λf s7 q7=>?_)
  have again:∀{σ7:St}{H7:Hp},Inv X (pins++md fp s5.heap) σ7 H7 s7->N σ7 H7->∃m,m<n/\∃i σ' H',Inv X pins σ' H' s7/\tn i s7.heap/\(∀b∈fp,H' b=none)/\W i m σ' H':=λ{σ7 H7} I7 n7=>by
   obtain⟨m',hm,w7⟩:=hN σ7 H7 n7
   refine⟨m',hm,i+1,σ7,H7,I7.fz,T.keep _ _ _ NP λb hb o e=>(I7.pin (b,o) (aM _ (aM _ (fq hb e)))).1,λb hb=>?_,w7⟩
   obtain⟨o,e,d⟩:=T.obj _ _ NP b hb
   exact(I7.pin (b,o) (aM _ (aM _ (fq hb e)))).2.1
  cases f with
  |next=>obtain⟨σ7,H7,I7,n7⟩:=q7;exact again I7 n7
  |cont=>obtain⟨σ7,H7,I7,n7⟩:=q7;exact again I7 n7
  |brk=>obtain⟨σ7,H7,I7,q7⟩:=q7;exact⟨σ7,H7,I7.fz,q7⟩
  |ret v=>obtain⟨x7,σ7,H7,I7,r7,q7⟩:=q7;exact⟨x7,σ7,H7,I7.fz,r7,q7⟩
theorem Lg{g:TG}{tb:TS}(Pv:Nat->St->Hp->Prop)(h0:Pv 0 σ H)(hl:∀i σ H,i<=xs.length->Pv i σ H->el K H a xs)
  (hs:∀i x σ H,xs[i]?=some x->Pv i σ H->g x σ H λσ2 H2=>tb {D with nx:=Pv (i+1),ct:=Pv (i+1),bk:=D.nx} σ2 H2) (hd:∀σ H,Pv xs.length σ H->D.nx σ H) :
  ∃W:Nat->Nat->St->Hp->Prop,(∃m,W 0 m σ H)/\∀i m σ H,W i m σ H ->
   ((JT K a).stop i H/\D.nx σ H)\/((JT K a).go i H/\∃N:St->Hp->Prop,(∀σ' H',N σ' H'->∃m',m'<m/\W (i+1) m' σ' H')/\∀x H',(JT K a).Vi i H x H'->g x σ H' λσ2 H2=>tb {D with nx:=N,ct:=N,bk:=D.nx} σ2 H2):=by
 refine⟨λi m σ H=>m=xs.length-i/\i<=xs.length/\Pv i σ H,⟨xs.length,by simp,cI _,h0⟩,?_⟩
 rintro i m σ H ⟨rfl,hi,p⟩
 have q:=hl i σ H hi p
 by_cases qd:i<xs.length
 ·refine .inr ⟨⟨xs,xs[i],q,by simp[qd]⟩,Pv (i+1),λσ' H' p'=>⟨xs.length-(i+1),by lia,rfl,qd,p'⟩,λx H' y=>?_⟩
  obtain⟨e,y⟩:=y
  subst e
  exact hs i x σ _ (y xs q) p
 ·have e:i=xs.length:=by lia
  subst e
  exact .inl ⟨⟨xs,q,au _⟩,hd σ H p⟩
abbrev R2:=V->V->Hp->VK->Prop
def iX(X:Cx)(f:Value->Value->Sem Value)(r:R2):Prop:=
 ∀(pins:aP7) (s:aa1) (σ:St) (H:Hp) (x y:V) (v u:Value) (Q:VK),Inv X pins σ H s->RelV x v->RelV y u->r x y H Q ->
  aa0 (aa5 X.prog X.w) X.A (f v u) (EP X pins σ Q) X.xe s
def UW(X:Cx)(f:Value->Sem Value)(r:V->Hp->VK->Prop):Prop:=
 ∀(pins:aP7) (s:aa1) (σ:St) (H:Hp) (x:V) (v:Value) (Q:VK),Inv X pins σ H s->RelV x v->r x H Q ->
  aa0 (aa5 X.prog X.w) X.A (f v) (EP X pins σ Q) X.xe s
def dQ(X:Cx)(f:Value)(r:List V->Hp->VK->Prop):Prop:=
 ∀(pins:aP7) (s:aa1) (σ:St) (H:Hp) (xs:List V) (us:List Value) (Q:VK),Inv X pins σ H s->Vals xs us->r xs H Q ->
  aa0 (aa5 X.prog X.w) X.A (call f us) (EP X pins σ Q) X.xe s
def YC(r:R2)(ta tb:TE):TE:=λσ H Q=>ta σ H λx H1=>tb σ H1 λy H2=>r x y H2 Q
def tUn(r:V->Hp->VK->Prop)(ta:TE):TE:=λσ H Q=>ta σ H λx H1=>r x H1 Q
def rI(C:Int->Int->Prop)(g:Int->Int->V):R2:=λx y H Q=>∃i j,x=.int i/\y=.int j/\C i j/\Q (g i j) H
def EA(g:Int->Int->V):R2:=λx y H Q=>∃i j,x=.int i/\y=.int j/\Q (g i j) H
def rU(g:Int->V):V->Hp->VK->Prop:=λx H Q=>∃i,x=.int i/\Q (g i) H
section
variable {a b:Expr}{tc:TE}
theorem Qu(ha:PE X a ta)(hb:PE X b tb)(I:Inv X pins σ H s)
  (h:ta σ H λx H1=>tb σ H1 λy H2=>R x y H2) {Q:dw}
  (hf:∀v u s2 x y H2,Inv X pins σ H2 s2->RelV x v->RelV y u->R x y H2->aa0 (aa5 X.prog X.w) X.A (f v u) Q X.xe s2) :
  aa0 (aa5 X.prog X.w) X.A (eval a X.env) (λv s₁=>aa0 (aa5 X.prog X.w) X.A (eval b X.env) (λu s₂=>aa0 (aa5 X.prog X.w) X.A (f v u) Q X.xe s₂) X.xe s₁) X.xe s:=by
 refine cM (ha pins s σ H _ I h) λv s1 ⟨x,H1,I1,r1,q1⟩=>?_
 refine cM (hb pins s1 σ H1 _ I1 q1) λu s2 ⟨y,H2,I2,r2,q2⟩=>?_
 exact hf v u s2 x y H2 I2 r1 r2 q2
theorem XR{op:Operator}(ho:iX X (binaryOp op) r)(ha:PE X a ta)(hb:PE X b tb):PE X (.BinOp a op b pos) (YC r ta tb):=by
 intro pins s σ H Q I h
 exact wpAny_BinOp (Qu ha hb I h λv u s2 x y H2 I2 rx ry q=>ho pins s2 σ H2 x y v u Q I2 rx ry q)
theorem Pc{op:UnaryOp}{r:V->Hp->VK->Prop}(ho:UW X (unaryOp op) r)(ha:PE X a ta):PE X (.UnaryOp op a pos) (tUn r ta):=by
 intro pins s σ H Q I h
 exact UnaryOp_ (cM (ha pins s σ H _ I h) λv s1 ⟨x,H1,I1,r1,q1⟩=>ho pins s1 σ H1 x v Q I1 r1 q1)
theorem ZT{C:Int->Int->Prop}{g:Int->Int->Int}
  (rule:∀(i j:Int) (t u:Tok) (s:aa1) (Q:dw) (E:dw),C i j->Q (.int (g i j) s.toks) {s with toks:=s.toks+1}->aa0 (aa5 X.prog X.w) X.A (f (.int i t) (.int j u)) Q E s) :
  iX X f (rI C λi j=>.int (g i j)):=by
 intro pins s σ H x y v u Q I rx ry h
 obtain⟨i,j,rfl,rfl,hc,q⟩:=h
 obtain⟨t,rfl⟩:=rx
 obtain⟨t',rfl⟩:=ry
 exact rule i j t t' s _ _ hc ⟨.int (g i j),H,I.tok _,⟨_,rfl⟩,q⟩
theorem XI{g:Int->Int->Int}
  (rule:∀(i j:Int) (t u:Tok) (s:aa1) (Q:dw) (E:dw),Q (.int (g i j) s.toks) {s with toks:=s.toks+1}->aa0 (aa5 X.prog X.w) X.A (f (.int i t) (.int j u)) Q E s) :
  iX X f (EA λi j=>.int (g i j)):=by
 intro pins s σ H x y v u Q I rx ry h
 obtain⟨i,j,rfl,rfl,q⟩:=h
 obtain⟨t,rfl⟩:=rx
 obtain⟨t',rfl⟩:=ry
 exact rule i j t t' s _ _ ⟨.int (g i j),H,I.tok _,⟨_,rfl⟩,q⟩
theorem Sw{g:Int->Int->Bool}
  (rule:∀(i j:Int) (t u:Tok) (s:aa1) (Q:dw) (E:dw),Q (.bool (g i j)) s->aa0 (aa5 X.prog X.w) X.A (f (.int i t) (.int j u)) Q E s) :
  iX X f (EA λi j=>.bl (g i j)):=by
 intro pins s σ H x y v u Q I rx ry h
 obtain⟨i,j,rfl,rfl,q⟩:=h
 obtain⟨t,rfl⟩:=rx
 obtain⟨t',rfl⟩:=ry
 exact rule i j t t' s _ _ ⟨.bl (g i j),H,I,rfl,q⟩
def Vu(i j:Int):Prop:=0<j/\j<1073741824
def Vv(i j:Int):Prop:=0<=j/\j<=1000000/\i.natAbs<2 ^ 64
def Fd(i j:Int):Prop:=(-(2 ^ 64)<i/\i<2 ^ 64)\/(-(2 ^ 64)<j/\j<2 ^ 64)
theorem Fd.ok{i j:Int}(h:Fd i j):IntMulOk i j:=by
 rcases h with ⟨h1,h2⟩|⟨h1,h2⟩
 ·exact .of_left (intBits_le_64 h1 h2)
 ·exact .of_right (intBits_le_64 h1 h2)
theorem Sy:iX X (binaryOp .Add) (EA λi j=>.int (i+j)):=XI λ_ _ _ _ _ _ _ q=>add_int q
theorem SK:iX X (binaryOp .Sub) (EA λi j=>.int (i-j)):=XI λ_ _ _ _ _ _ _ q=>sub_int q
theorem SG:iX X (binaryOp .Mult) (rI Fd λi j=>.int (i*j)):=ZT λ_ _ _ _ _ _ _ hc q=>mul_int q hc.ok
theorem MI:iX X (binaryOp .FloorDiv) (rI Vu λi j=>.int (i / j)):=ZT λi j _ _ _ _ _ hc q=>by
 have h1:(0:Int)<j:=hc.1
 have h2:j<1073741824:=hc.2
 exact floordiv_int (by lia) (by rw[Int.fdiv_eq_ediv_of_nonneg i (by lia)];exact q) (.inl (PyProof.noPylong_small (by lia)))
theorem SF:iX X (binaryOp .Mod) (rI (λ_ j=>0<j) λi j=>.int (i%j)):=ZT λi j _ _ _ _ _ hc q=>by
 have h1:(0:Int)<j:=hc
 exact mod_int' (by lia) (by rw[Int.fmod_eq_emod_of_nonneg i (by lia)];exact q)
theorem SI:iX X (binaryOp .Pow) (rI Vv λi j=>.int (i ^ j.toNat)):=ZT λ_ _ _ _ _ _ _ hc q=>pow_int_small hc.1 hc.2.1 hc.2.2 q
theorem unI{f:Value->Sem Value}{g:Int->Int}
  (rule:∀(i:Int) (t:Tok) (s:aa1) (Q:dw) (E:dw),Q (.int (g i) s.toks) {s with toks:=s.toks+1}->aa0 (aa5 X.prog X.w) X.A (f (.int i t)) Q E s) :
  UW X f (rU λi=>.int (g i)):=by
 intro pins s σ H x v Q I rx h
 obtain⟨i,rfl,q⟩:=h
 obtain⟨t,rfl⟩:=rx
 exact rule i t s _ _ ⟨.int (g i),H,I.tok _,⟨_,rfl⟩,q⟩
theorem JA:UW X (unaryOp .USub) (rU λi=>.int (-i)):=unI λ_ _ _ _ _ q=>neg_int q
noncomputable def abi:V->V->Bool
 |.non,.non=>true|.non,.int _=>true|.int _,.non=>true|.non,.bl _=>true|.bl _,.non=>true|.non,.str _=>true|.str _,.non=>true
 |.int _,.int _=>true|.bl _,.bl _=>true|.str _,.str _=>true|.E2 _,.E2 _=>true
 |.int _,.str _=>true|.str _,.int _=>true|.bl _,.str _=>true|.str _,.bl _=>true
 |_,_=>false
def rNe:R2:=λx y H Q=>abi x y=true/\Q (.bl (!decide (x=y))) H
theorem K6{i j:Int}:decide (V.int i=V.int j)=(i == j):=by
 rw[cq]
 simp
theorem QQ{i j:Bool}:decide (V.bl i=V.bl j)=(i == j):=by
 rw[cq]
 simp
theorem K7{i j:Str}:decide (V.str i=V.str j)=(i == j):=by
 rw[cq]
 simp
theorem K5{i j:Array UInt8}:decide (V.E2 i=V.E2 j)=(i.toList == j.toList):=by
 rw[cq]
 cases i
 cases j
 simp
theorem fM{Q:VK}{k k':Bool}(I:Inv X pins σ H s)(q:Q (.bl k) H)(e:k=k'):EP X pins σ Q (.bool k') s:=by
 subst e
 exact⟨.bl k,H,I,rfl,q⟩
theorem XO:iX X (compareOp .NotEq) rNe:=by
 intro pins s σ H x y v u Q I rx ry h
 obtain⟨hs,q⟩:=h
 cases x with
 |non=>
  cases rx
  cases y with
  |non=>cases ry;exact PySem.EqNone.ne_none_none (fM I q (by simp))
  |bl j=>cases ry;exact PySem.EqNone.ne_none_bool (fM I q (by simp))
  |int j=>obtain⟨t',rfl⟩:=ry;exact PySem.EqNone.ne_none_int (fM I q (by simp))
  |str j=>obtain⟨t',rfl⟩:=ry;exact PySem.EqNone.ne_none_str (fM I q (by simp))
  |_=>exact absurd (show false=true from hs) aH
 |bl i=>
  cases rx
  cases y with
  |non=>cases ry;exact PySem.EqNone.ne_bool_none (fM I q (by simp))
  |bl j=>cases ry;exact ne_bool (fM I q (eB not QQ))
  |str j=>obtain⟨t',rfl⟩:=ry;exact PySem.EqMixed.ne_bool_str (fM I q (by simp))
  |_=>exact absurd (show false=true from hs) aH
 |int i=>
  obtain⟨t,rfl⟩:=rx
  cases y with
  |non=>cases ry;exact PySem.EqNone.ne_int_none (fM I q (by simp))
  |int j=>obtain⟨t',rfl⟩:=ry;exact ne_int (fM I q (eB not K6))
  |str j=>obtain⟨t',rfl⟩:=ry;exact PySem.EqMixed.ne_int_str (fM I q (by simp))
  |_=>exact absurd (show false=true from hs) aH
 |str i=>
  obtain⟨t,rfl⟩:=rx
  cases y with
  |non=>cases ry;exact PySem.EqNone.ne_str_none (fM I q (by simp))
  |bl j=>cases ry;exact PySem.EqMixed.ne_str_bool (fM I q (by simp))
  |int j=>obtain⟨t',rfl⟩:=ry;exact PySem.EqMixed.ne_str_int (fM I q (by simp))
  |str j=>obtain⟨t',rfl⟩:=ry;exact ne_str (fM I q (eB not K7))
  |_=>exact absurd (show false=true from hs) aH
 |E2 i=>
  obtain⟨t,rfl⟩:=rx
  cases y with
  |E2 j=>obtain⟨t',rfl⟩:=ry;exact PySem.W.ne_bytes (fM I q (eB not K5))
  |_=>exact absurd (show false=true from hs) aH
 |_=>cases y<;>exact absurd (show false=true from hs) aH
theorem XN:iX X (compareOp .Lt) (EA λi j=>.bl (decide (i<j))):=Sw λ_ _ _ _ _ _ _ q=>lt_int q
theorem XM:iX X (compareOp .LtE) (EA λi j=>.bl (decide (i<=j))):=Sw λ_ _ _ _ _ _ _ q=>le_int q
theorem XJ:iX X (compareOp .Gt) (EA λi j=>.bl (decide (j<i))):=Sw λ_ _ _ _ _ _ _ q=>gt_int q
theorem Ei:iX X (compareOp .In) (λx y H Q=>∃i j,x=.str i/\y=.str j/\Q (.bl (!(Builtin.Str.occurrences j i 0 j.length 1).isEmpty)) H):=by
 intro pins s σ H x y v u Q I rx ry h
 obtain⟨i,j,rfl,rfl,q⟩:=h
 obtain⟨t,rfl⟩:=rx
 obtain⟨t',rfl⟩:=ry
 exact in_str (fM I q rfl)
theorem iX.or(h:iX X f r)(h':iX X f r'):iX X f (λx y H Q=>r x y H Q\/r' x y H Q):=by
 intro pins s σ H x y v u Q I rx ry q
 rcases q with q|q
 ·exact h pins s σ H x y v u Q I rx ry q
 ·exact h' pins s σ H x y v u Q I rx ry q
theorem Sd(b:Expr)(h:autoParam (op≠.In) v0)(h2:autoParam (op≠.NotIn) v0):ab2 op b=false:=by
 have e1:(op == CmpOp.In)=false:=by cases op<;>first|rfl|exact absurd rfl h
 have e2:(op == CmpOp.NotIn)=false:=by cases op<;>first|rfl|exact absurd rfl h2
 cases b<;>simp[ab2,e1,e2]
theorem MO(ho:iX X (ac1 op) r)(ha:PE X a ta)(hb:PE X b tb)(hm:ab2 op b=false):PE X (.Compare a [op] [b] pos) (YC r ta tb):=by
 intro pins s σ H Q I h
 exact wpAny_Compare1 (Qu ha hb I h λv u s2 x y H2 I2 rx ry q=>ho pins s2 σ H2 x y v u Q I2 rx ry q) hm
def PM(t:TE):TT:=λσ H Q=>t σ H λx H'=>∃k,x=.bl k/\Q k H'
theorem Cy(ho:iX X (ac1 op) r)(ha:PE X a ta)(hb:PE X b tb)(hm:ab2 op b=false):PT X (.Compare a [op] [b] pos) (PM (YC r ta tb)):=by
 intro pins s σ H Q I h
 refine Y6 (cM (ha pins s σ H _ I h) λv s1 ⟨x,H1,I1,r1,q1⟩=>cM (hb pins s1 σ H1 _ I1 q1) λu s2 ⟨y,H2,I2,r2,q2⟩=>
  cM (ho pins s2 σ H2 x y v u _ I2 r1 r2 q2) λc s3 ⟨z,H3,I3,r3,k,e,q3⟩=>?_) hm
 subst e
 cases r3
 exact cS ⟨H3,I3,q3⟩
def Ba(r r':R2)(ta tb tc:TE):TE:=λσ H Q=>ta σ H λx H1=>tb σ H1 λy H2=>r x y H2 λz H3=>∃k,z=.bl k /\
 (if k=true then tc σ H3 λw' H4=>r' y w' H4 Q else Q (.bl false) H3)
theorem HJ(ho:iX X (ac1 op) r)(BX:iX X (ac1 MF) r')(ha:PE X a ta)(hb:PE X b tb)(hc:PE X c tc)
  (hm:lastMarks [op,MF] [b,c]=false:=by with_unfolding_all rfl):PE X (.Compare a [op,MF] [b,c] pos) (Ba r r' ta tb tc):=by
 intro pins s σ H Q I h
 refine Compare_chain (cM (ha pins s σ H _ I h) λv s1 ⟨x,H1,I1,r1,q1⟩=>chain_link (cM (hb pins s1 σ H1 _ I1 q1) λu s2 ⟨y,H2,I2,r2,q2⟩=>
  cM (ho pins s2 σ H2 x y v u _ I2 r1 r2 q2) λd s3 ⟨z,H3,I3,r3,k,e,q3⟩=>?_)) hm
 subst e
 cases r3
 refine cS ?_
 cases k with
 |false=>exact ite_ff ⟨.bl false,H3,I3,rfl,q3⟩
 |true=>exact ite_tt (chain_last (cM (hc pins s3 σ H3 _ I3 q3) λw' s4 ⟨z',H4,I4,r4,q4⟩=>BX pins s4 σ H4 y z' u w' Q I4 r2 r4 q4))
theorem IA(ho:iX X (ac1 op) r)(BX:iX X (ac1 MF) r')(ha:PE X a ta)(hb:PE X b tb)(hc:PE X c tc)
  (hm:lastMarks [op,MF] [b,c]=false:=by with_unfolding_all rfl):PT X (.Compare a [op,MF] [b,c] pos) (PM (Ba r r' ta tb tc)):=by
 intro pins s σ H Q I h
 refine isTrue_chain (cM (ha pins s σ H _ I h) λv s1 ⟨x,H1,I1,r1,q1⟩=>test_link (cM (hb pins s1 σ H1 _ I1 q1) λu s2 ⟨y,H2,I2,r2,q2⟩=>
  cM (ho pins s2 σ H2 x y v u _ I2 r1 r2 q2) λd s3 ⟨z,H3,I3,r3,k,e,q3⟩=>?_)) hm
 subst e
 cases r3
 refine cS ?_
 cases k with
 |false=>
  obtain⟨k',e',q'⟩:=q3
  cases e'
  exact ite_ff ⟨H3,I3,q'⟩
 |true=>
  refine ite_tt (test_last (cM (hc pins s3 σ H3 _ I3 q3) λw' s4 ⟨z',H4,I4,r4,q4⟩=>cM (BX pins s4 σ H4 y z' u w' _ I4 r2 r4 q4) λd' s5 ⟨z2,H5,I5,r5,k2,e2,q5⟩=>?_))
  subst e2
  cases r5
  exact cS ⟨H5,I5,q5⟩
theorem qk:(sizeLine:Nat)<2 ^ 63:=by rw[EU];decide
theorem AR:iX X (binaryOp .Add) (λx y H Q=>∃i j,x=.str i/\y=.str j/\i.length+j.length<=sizeLine/\Q (.str (i++j)) H):=by
 intro pins s σ H x y v u Q I rx ry h
 obtain⟨i,j,rfl,rfl,hz,q⟩:=h
 obtain⟨t,rfl⟩:=rx
 obtain⟨t',rfl⟩:=ry
 exact add_str (λt' tk=>⟨.str (i++j),H,I.tok _,⟨_,rfl⟩,q⟩) hz
theorem uz{x:V}(r:Vals [x] us):∃u,us = [u]/\RelV x u:=by
 cases r with
 |cons r1 r2=>cases r2;exact⟨_,rfl,r1⟩
theorem Du:dQ X (.type "int") (λxs H Q=>(∃i,xs = [.int i]/\Q (.int i) H)\/∃k,xs = [.bl k]/\Q (.int (if k then 1 else 0)) H):=by
 intro pins s σ H xs us Q I r h
 rcases h with ⟨i,rfl,q⟩|⟨k,rfl,q⟩
 ·obtain⟨u,rfl,t,rfl⟩:=uz r
  exact call_int_int ⟨.int i,H,I,⟨_,rfl⟩,q⟩
 ·obtain⟨u,rfl,r1⟩:=uz r
  cases r1
  exact call_int_bool ⟨.int (if k then 1 else 0),H,I.tok _,⟨_,rfl⟩,q⟩
theorem vZ:dQ X (.type "str") (λxs H Q=>∃i,xs = [.int i]/\i.natAbs.log2<1920/\Q (.str (toString i)) H):=by
 intro pins s σ H xs us Q I r h
 obtain⟨i,rfl,hz,q⟩:=h
 obtain⟨u,rfl,t,rfl⟩:=uz r
 exact PySem.P.str_of_int hz ⟨.str _,H,I.tok _,⟨_,rfl⟩,q⟩
end
structure Dp (h:Heap) (x dx C:Addr) (mA:mG7):Prop where
 obj:h.get? x=some (instObj C dx)
 ns:h.Ns1 dx mA
 ne:dx≠x
theorem D6(n:h.Ns1 dx mA):∃od,h.get? dx=some od/\∀name,lookIn name od=some (mA name):=by
 obtain⟨o,es,ep,ho,hd,hk,_,hm⟩:=n
 refine⟨o,ho,λname=>?_⟩
 have e:=hm name
 unfold nsFind findBy at e
 rw[<-Array.find?_toList] at e
 unfold lookIn
 rw[hd]
 dsimp only
 split
 ·rename_i y q
  rw[q] at e
  exact eB some e
 ·rename_i q
  rw[q] at e
  have a:es.toList.any (·.refKey)=false:=by
   rw[List.any_eq_false]
   intro y hy
   obtain⟨z,t,DR⟩:=hk y (Array.mem_toList_iff.mp hy)
   simp[DictEntry.refKey,DR]
  have a' : ¬es.toList.any (·.refKey)=true:=by rw[a];exact aH
  rw[bJ a']
  exact eB some e
theorem Dp.look{x:Addr}(I:Dp h x dx C mA):∃od,PySem.W.InstAt h x (instObj C dx) C (some od)/\∀name,lookIn name od=some (mA name):=
 let ⟨od,ho,hl⟩:=D6 I.ns
 ⟨od,⟨I.obj,rfl,rfl,ho⟩,hl⟩
section
variable {x f:Addr}{v:Value}
theorem Ll{expr:Bool}{Q:dw}(X:K.In s.heap)(I:Dp s.heap x dx C mA)(hg:plainGet K C name=true)(hh:hasDictIn K C=true)
  (ha:findIn K (.ref C) name=some none) (hv:mA name=some v) (hv':handedIn v=true) (h:Q v {s with toks:=s.toks+1}) :
  aa0 (aa5 prog w) A (getAttr (.ref x) name expr) Q E s:=by
 obtain⟨od,J,hl⟩:=I.look
 exact PySem.W.get_value X J (PySem.W.plainGet_of hg).1 (PySem.W.findObj_own hh ha rfl (by rw[hl,hv])) hv' h
theorem NH{ns:lS7}(X:K.In s.heap)(I:Dp s.heap x dx C mA)
  (hs:findIn K (.ref C) "__setattr__"=some (some (.builtin "object.__setattr__"))) (hp:plainOver K C=true) (ht:takerIn K C name=some none) (hh:hasDictIn K C=true)
  (hw:PySem.Within mA ns) (hsz:ns.length<=sizeLine)
  (h:∀h',Dp h' x dx C (λy=>if y=name then some v else mA y)->Heap.SameBut dx s.heap h'->Q () {s with heap:=h',toks:=s.toks+2}) :
  aa0 (aa5 prog w) A (setAttr (.ref x) name v) Q E s:=by
 obtain⟨od,J,hl⟩:=I.look
 refine PySem.W.set_plain X J hs (PySem.W.osa_open (s:={s with toks:=s.toks+1}) (r:=none) X J hp ht λb=>?_)
 obtain⟨cd,hc,y9⟩:=PySem.W.any_some hh
 have hx:s.heap.get? x=some ⟨.ref C,some dx,.plain,#[]⟩:=I.obj
 refine aa (ak (aa (aa (wpAny_loadPart hx (aa (Looks.here (s:={s with toks:=s.toks+1}) (PySem.W.looks_clsIn X hc) ?_))))))
 rw[y9]
 refine ak (a:=some dx) (aa (ak (aa ?_)))
 refine wpAny_nsSet1 (s:={s with toks:=s.toks+1}) I.ns λh' Lu OU=>?_
 obtain⟨oD,esD,epD,hoD,hdD,hcD⟩:=Lu.count (PySem.Within.cons name v hw)
 refine aa (wpAny_lookBehind hoD (by rw[hdD];exact pastItsLine_dict (aA hcD (by rw[aF];lia))) ?_)
 exact ak (h _ ⟨(OU.2 _ (cR I.ne)).trans I.obj,Lu,I.ne⟩ OU)
theorem Hf{R:Result->aa1->Prop}{vs:List Value}(X:K.In s.heap)(hm:makesIn K C=true)
  (hi:findIn K (.ref C) "__init__"=some (some (.ref f))) (hf:typeIn K (.ref f)=some (.type "function"))
  (h:ac3 (aa5 prog w) (A.under (.builtin "type.__call__" ⟨.ref C::vs,kw⟩)) (.call (.ref f) ⟨.ref (s.heap.objs.size+1)::vs,kw⟩) (PySem.W.InitBack (s.heap.objs.size+1) R)
   {s with heap:=(s.heap.push emptyDict).push (instObj C s.heap.objs.size)}) :
  ac3 (aa5 prog w) A (.call (.ref C) ⟨vs,kw⟩) R s:=by
 obtain⟨hh,g,d,t,os⟩:=s
 exact PySem.W.make_core (PySem.W.makes_of X hm) (PySem.W.looks_findIn X hi) (λself=>PySem.W.bind_fn X self hf) (.inl rfl) h
end
noncomputable def iL(f:Str)(v:V):List (Str×V)->List (Str×V)
 | []=> [(f,v)]
 |(g,x)::r=>if g=f then(g,v)::r else(g,x)::iL f v r
theorem qC(f g:Str)(v:V):∀fs:List (Str×V),(iL f v fs).lookup g=if g=f then some v else fs.lookup g
 | []=>by
  show List.lookup g [(f,v)]=_
  by_cases h:g=f
  ·have hb:(g == f)=true:=mV.mpr h
   simp only[List.lookup,hb,bF h]
  ·have hb:(g == f)=false:=cP.mpr h
   simp only[List.lookup,hb,bJ h]
 |(k,x)::r=>by
  have ih:=qC f g v r
  rw[show iL f v ((k,x)::r)=(if k=f then(k,v)::r else(k,x)::iL f v r) from rfl]
  by_cases hk:k=f
  ·rw[bF hk]
   by_cases h:g=k
   ·have hb:(g == k)=true:=mV.mpr h
    simp only[List.lookup,hb,bF (h.trans hk)]
   ·have hb:(g == k)=false:=cP.mpr h
    simp only[List.lookup,hb,bJ (λe:g=f=>h (e.trans hk.symm))]
  ·rw[bJ hk]
   by_cases h:g=k
   ·have hb:(g == k)=true:=mV.mpr h
    simp only[List.lookup,hb,bJ (λe:g=f=>hk (h.symm.trans e))]
   ·have hb:(g == k)=false:=cP.mpr h
    simp only[List.lookup,hb]
    exact ih
theorem qi(f:Str)(v:V):∀fs:List (Str×V),f∈(iL f v fs).map (·.1)/\∀g,g∈fs.map (·.1)->g∈(iL f v fs).map (·.1)
 | []=>⟨by simp[iL],λg h=>by simp at h⟩
 |(k,x)::r=>by
  obtain⟨i1,i2⟩:=qi f v r
  rw[show iL f v ((k,x)::r)=(if k=f then(k,v)::r else(k,x)::iL f v r) from rfl]
  by_cases hk:k=f
  ·rw[bF hk]
   subst hk
   exact⟨by simp,λg h=>by simpa using h⟩
  ·rw[bJ hk]
   refine⟨?_,λg h=>?_⟩
   ·rw[aP]
    exact ax _ i1
   ·rw[aP] at h⊢
    rcases aN.mp h with e|e
    ·exact aN.mpr (.inl e)
    ·exact ax _ (i2 g e)
theorem qB(f:Str)(v:V):∀fs:List (Str×V),(iL f v fs).length<=fs.length+1
 | []=>by simp[iL]
 |(k,x)::r=>by
  have ih:=qB f v r
  rw[show iL f v ((k,x)::r)=(if k=f then(k,v)::r else(k,x)::iL f v r) from rfl]
  by_cases hk:k=f
  ·rw[bF hk,aF,aF];lia
  ·rw[bJ hk,aF,aF];lia
theorem pV.some_of{o:Option Value}(r:pV (some v) o):∃u,o=some u/\RelV v u:=by
 cases o with
 |none=>exact(show False from r).elim
 |some u=>exact⟨u,rfl,r⟩
theorem DO(r:RelV v u):handedIn u=true:=by
 cases v with
 |non=>cases (show u=Value.none from r);rfl
 |bl b=>cases (show u=Value.bool b from r);rfl
 |int i=>obtain⟨t,e⟩:=(show ∃t,u=Value.int i t from r);cases e;rfl
 |str x=>obtain⟨t,e⟩:=(show ∃t,u=Value.str x t from r);cases e;rfl
 |E2 b=>obtain⟨t,e⟩:=(show ∃t,u=Value.bytes b t from r);cases e;rfl
 |Le b=>obtain⟨t,e⟩:=(show ∃t,u=Value.float b t from r);cases e;rfl
 |ref a=>cases (show u=Value.ref a from r);rfl
 |ty n=>cases (show u=Value.type n from r);rfl
section
variable {fs Ga:List (Str×V)}
theorem wJ(cN:j4 P w H h)(e:H a=some (.ins C dx fs)):∃mA,Dp h a dx C mA/\(∀f,pV (fs.lookup f) (mA f))/\PySem.Within mA (fs.map (·.1))/\fs.length<=1000/\H dx=some (.own a):=by
 obtain⟨d,z,ne,ob,mA,n,r,q⟩:=(show dI P w H h a (.ins C dx fs) from cN a _ e)
 exact⟨mA,⟨ob,n,ne⟩,r,q,z,d⟩
end
structure Kf (K:Frag) (C:Addr):Prop where
 pg:plainGet K C Str.empty=true
 hd:hasDictIn K C=true
 po:plainOver K C=true
 sa:findIn K (.ref C) "__setattr__"=some (some (.builtin "object.__setattr__"))
theorem Kf.get(c:Kf K C)(f:Str):plainGet K C f=true:=c.pg
def iH(K:Frag)(C:Addr)(f:Str):Prop:=findIn K (.ref C) f=some none
theorem iH.YI{f:Str}(n:iH K C f):takerIn K C f=some none:=by
 unfold takerIn
 rw[show findIn K (.ref C) f=some none from n]
 rfl
section
variable {fs:List (Str×V)}{f:Str}
theorem Af{b:Bool}{Q:dw}(I:Inv X pins σ H s)(e:H a=some (.ins C dx fs))(c:Kf X.K C)(n:iH X.K C f)(l:fs.lookup f=some v)
  (h:∀u s',Inv X pins σ H s'->RelV v u->Q u s'):aa0 (aa5 X.prog X.w) A (getAttr (.ref a) f b) Q E s:=by
 obtain⟨mA,O,r,_,_,_⟩:=wJ I.cN e
 obtain⟨u,hu,ru⟩:=pV.some_of (v:=v) (o:=mA f) (by rw[<-l];exact r f)
 exact Ll I.nO O (c.get f) c.hd n hu (DO ru) (h u _ (I.tok _) ru)
theorem A3{y:V}(I:Inv X pins σ H s)(e:H a=some (.ins C dx fs))(c:Kf X.K C)(n:iH X.K C f)(hl:fs.length<1000)(ry:RelV y u)
  (h:∀s',Inv X pins σ (upd H a (.ins C dx (iL f y fs))) s'->Q () s'):aa0 (aa5 X.prog X.w) A (setAttr (.ref a) f u) Q E s:=by
 obtain⟨mA,O,r,wi,_,ho⟩:=wJ I.cN e
 have hz:(fs.map (·.1)).length<=sizeLine:=by rw[ah,EU];lia
 refine NH I.nO O c.sa c.po n.YI c.hd wi hz λh' O' sb=>h _ ?_
 have hd:∃o,h'.get? dx=some o:=let ⟨o,_,_,e',_⟩:=O'.ns;⟨o,e'⟩
 refine I.write (x:=a) (e:=dx) (by rw[e];exact True.intro) (.inr ho) (λb q hb z=>(sb.2 b hb).trans z) hd ?_
 refine⟨by rw[bf O.ne];exact ho,?_,O.ne,O'.obj,_,O'.ns,λg=>?_,λg hg=>?_⟩
 ·have:=qB f y fs;lia
 ·show pV ((iL f y fs).lookup g) (if g=f then some u else mA g)
  rw[qC]
  by_cases q:g=f
  ·rw[bF q,bF q];exact ry
  ·rw[bJ q,bJ q];exact r g
 ·by_cases q:g=f
  ·rw[q];exact(qi f y fs).1
  ·refine(qi f y fs).2 g (wi g λz=>hg ?_)
   show(if g=f then some u else mA g)=none
   rw[bJ q];exact z
theorem Inv.made(I:Inv X pins σ H s):Inv X pins σ (upd (upd H s.heap.objs.size (.own (s.heap.objs.size+1))) (s.heap.objs.size+1) (.ins C s.heap.objs.size []))
  {s with heap:=(s.heap.push emptyDict).push (instObj C s.heap.objs.size)}:=by
 have e1:(s.heap.push emptyDict).get? s.heap.objs.size=some emptyDict:=aG s.heap rfl
 have e2:((s.heap.push emptyDict).push (instObj C s.heap.objs.size)).get? (s.heap.objs.size+1)=some (instObj C s.heap.objs.size):=by
  have:=aG (s.heap.push emptyDict) (o:=instObj C s.heap.objs.size) rfl
  rwa[c7] at this
 have e3:(s.heap.push emptyDict).Ns s.heap.objs.size (λ_=>none):=⟨emptyDict,#[],_,e1,rfl,(λe he=>absurd he (by simp)),λ_=>rfl⟩
 have I1:=I.laid (a:=s.heap.objs.size) (o:=.own (s.heap.objs.size+1)) (h':=s.heap.push emptyDict) (t':=s.toks) (λb u q=>ae _ q) (au _) ⟨_,e1⟩
 refine I1.laid (a:=s.heap.objs.size+1) (o:=.ins C s.heap.objs.size []) (t':=s.toks) (λb u q=>ae _ q) (zj (c7 _ _)) ?_
 have ne:s.heap.objs.size≠s.heap.objs.size+1:=aW (pQ _)
 refine⟨by rw[bf ne,bE],cI _,ne,e2,λ_=>none,(Heap.Ns1.of_empty e3).at λo q=>ae _ q,λ_=>True.intro,λy hy=>absurd rfl hy⟩
theorem Kp{env:Env}{f:Str}{Q:dw}(hb:ab3 e f env (eval e env)=eval e env)
  (h:aa0 (aa5 prog w) A (eval e env) (λo s₁=>aa0 (aa5 prog w) A (getAttr o f true) Q E s₁) E s):aa0 (aa5 prog w) A (eval (.Attribute e f pos) env) Q E s:=
 Attribute_any_ h (by rw[arm_eval_Attribute,hb])
end
def abq(K:Frag)(ta:TE)(f:Str):TE:=λσ H Q=>ta σ H λx H1=>∃a C dx fs v,x=.ref a/\H1 a=some (.ins C dx fs)/\Kf K C/\iH K C f/\fs.lookup f=some v/\Q v H1
def Yd(K:Frag)(ta tv:TE)(f:Str):TS:=λD σ H=>tv σ H λy H1=>ta σ H1 λx H2=>∃a C dx fs,x=.ref a/\H2 a=some (.ins C dx fs)/\Kf K C/\iH K C f/\fs.length<1000 /\
 D.nx σ (upd H2 a (.ins C dx (iL f y fs)))
section
variable {o value:Expr}{f:Str}{rh:Pos}{tv:TE}
theorem SU(he:PE X e ta)(hb:ab3 e f X.env (eval e X.env)=eval e X.env):PE X (.Attribute e f pos) (abq X.K ta f):=by
 intro pins s σ H Q I h
 refine Kp hb (cM (he pins s σ H _ I h) λu s1 ⟨x,H1,I1,rx,a,C,dx,fs,v,ex,ea,c,n,l,q⟩=>?_)
 subst ex
 obtain rfl:u=Value.ref a:=rx
 exact Af I1 ea c n l λu' s2 I2 ru=>⟨v,H1,I2,ru,q⟩
theorem Tp(ha:PE X o ta)(hv:PE X value tv)(hs:ac2 value (some (.Attribute o f pos')) pos.line X.env=pure false):PS X (.Assign [.Attribute o f pos'] value pos) (Yd X.K ta tv f):=by
 intro pins s σ H D I h
 refine plainObj_wpAny_Assign_Attribute (cM (hv pins s σ H _ I h) λu s1 ⟨y,H1,I1,ry,q⟩=>cM (ha pins s1 σ H1 _ I1 q) λov s2 ⟨x,H2,I2,rx,a,C,dx,fs,ex,ea,c,n,l,q2⟩=>?_) hs
 subst ex
 obtain rfl:ov=Value.ref a:=rx
 exact A3 I2 ea c n l ry λs3 I3=>⟨σ,_,I3,q2⟩
end
section
variable {Q:dw}{c:Value}{b:Bool}
inductive pW (K:Frag) (H:Hp):V->Value->Prop where
 |non:pW K H .non (.type "NoneType")
 |bl (x:Bool):pW K H (.bl x) (.type "bool")
 |int (i:Int):pW K H (.int i) (.type "int")
 |str (x:Str):pW K H (.str x) (.type "str")
 |Le (x:UInt64):pW K H (.Le x) (.type "float")
 |lst {a:Addr}{xs:List V} (e:H a=some (.lst xs)):pW K H (.ref a) (.type "list")
 |Ad {a:Addr}{o:Obj}{xs:List V} (e:H a=some (.Ad o (.lst xs))):pW K H (.ref a) (.type "list")
 |tup {a:Addr}{xs:List V} (e:H a=some (.tup xs)):pW K H (.ref a) (.type "tuple")
 |dK {a:Addr}{kvs:List (Key×V)} (e:H a=some (.dK kvs)):pW K H (.ref a) (.type "dict")
 |dT {a:Addr}{kvs:List (List Key×V)} (e:H a=some (.dT kvs)):pW K H (.ref a) (.type "dict")
 |ins {a C dx:Addr}{fs:List (Str×V)} (e:H a=some (.ins C dx fs)) (cl:Kf K C) (ha:findIn K (.ref C) "__class__"=some (some (.builtin "object.__class__")))
   (hn:specialIn K (.builtin "object.__class__") "__get__"=some (some (.builtin "getset_descriptor.__get__"))) (htk:takesIn K (.builtin "object.__class__")=some true)
   (hm:mroIn K C (.type "object")=some true):pW K H (.ref a) (.ref C)
theorem DY{x:V}{t:Value}(I:Inv X pins σ H s)(rx:RelV x u)(ty:pW X.K H x t)(e:kitOne X.K t c=some b)(h:∀tk,Q (.bool b) {s with toks:=tk}) :
  aa0 (aa5 X.prog X.w) A (call (.builtin "isinstance") [u,c]) Q E s:=by
 cases ty with
 |non=>cases (show u=Value.none from rx);exact cB PySem.W.kitx_none I.nO True.intro e (λz=>nomatch z) h
 |bl y=>cases (show u=Value.bool y from rx);exact cB PySem.W.kitx_bool I.nO True.intro e (λz=>nomatch z) h
 |int i=>obtain⟨t,q⟩:=(show ∃t,u=Value.int i t from rx);cases q;exact cB PySem.W.kitx_int I.nO True.intro e (λz=>nomatch z) h
 |str y=>obtain⟨t,q⟩:=(show ∃t,u=Value.str y t from rx);cases q;exact cB PySem.W.kitx_str I.nO True.intro e (λz=>nomatch z) h
 |Le y=>obtain⟨t,q⟩:=(show ∃t,u=Value.float y t from rx);cases q;exact cB PySem.W.kitx_float I.nO True.intro e (λz=>nomatch z) h
 | @lst a xs ea=>
  cases (show u=Value.ref a from rx)
  obtain⟨_,_,n,_,h1⟩:=(show dI X.prog X.w H s.heap a (.lst xs) from I.cN a _ ea)
  exact cB PySem.W.kitx_list I.nO ⟨_,h1,rfl⟩ e (λz=>nomatch z) h
 | @Ad a ob xs ea=>
  cases (show u=Value.ref a from rx)
  obtain⟨_,_,_,n,_,h1⟩:=(show dI X.prog X.w H s.heap a (.Ad ob (.lst xs)) from I.cN a _ ea)
  exact cB PySem.W.kitx_list I.nO ⟨_,h1,rfl⟩ e (λz=>nomatch z) h
 | @tup a xs ea=>
  cases (show u=Value.ref a from rx)
  obtain⟨_,_,_,p⟩:=(show dI X.prog X.w H s.heap a (.tup xs) from I.cN a _ ea)
  obtain⟨o,h1,h2,_⟩:=p
  exact cB PySem.W.kitx_tuple I.nO ⟨o,h1,h2⟩ e (λz=>nomatch z) h
 | @dK a kvs ea=>
  cases (show u=Value.ref a from rx)
  obtain⟨_,_,vs,_,p⟩:=(show dI X.prog X.w H s.heap a (.dK kvs) from I.cN a _ ea)
  obtain⟨o,es,ep,h1,h2,_⟩:=p
  exact cB PySem.W.kitx_dict I.nO ⟨o,h1,h2.1⟩ e (λz=>nomatch z) h
 | @dT a kvs ea=>
  cases (show u=Value.ref a from rx)
  obtain⟨_,_,xs,_,o,es,ep,h1,h2,_⟩:=(show dI X.prog X.w H s.heap a (.dT kvs) from I.cN a _ ea)
  exact cB PySem.W.kitx_dict I.nO ⟨o,h1,h2.1⟩ e (λz=>nomatch z) h
 | @ins a C dx fs ea cl ha hn htk hm=>
  cases (show u=Value.ref a from rx)
  obtain⟨mA,O,_⟩:=wJ I.cN ea
  obtain⟨od,J,_⟩:=O.look
  exact cB (PySem.W.kitx_own (cl.get _) cl.hd ha hn htk hm) I.nO J e (λz=>nomatch z) h
end
structure fi (k:Nat) (A:ab4):Prop where
 hd:A.handled=none
 dp:A.depth+3*k+5<recursionLimit
 un:A.units+16*k+200<cLine
theorem fi.mono(r:fi k A)(h:j<=k):fi j A:=⟨r.hd,by have:=r.dp;lia,by have:=r.un;lia⟩
theorem fi.deeper(r:fi (k+1) A)(env:Env):fi k (A.deeper env):=
 ⟨r.hd,by have:=r.dp;show A.depth+1+3*k+5<_;lia,by have:=r.un;show A.units+3+16*k+200<_;lia⟩
theorem AE:(A.under (.builtin "type.__call__" ⟨.ref C::us,kw⟩)).depth=A.depth+1:=by
 first|rfl|simp[Around.under,Code.weight,Code.isCreation,Code.isGuard,Code.isCaller,Code.frames,Code.isFrame,guardIds]
theorem AF:(A.under (.builtin "type.__call__" ⟨.ref C::us,kw⟩)).units=A.units+1:=by
 first|rfl|simp[Around.under,Code.cUnits,Code.frames,Code.isFrame]
theorem fi.make(r:fi (k+1) A)(C:Addr)(us:List Value)(kw:List (Str×Value)):fi k (A.under (.builtin "type.__call__" ⟨.ref C::us,kw⟩)):=
 ⟨r.hd,by have:=r.dp;rw[AE];lia,by have:=r.un;rw[AF];lia⟩
theorem fi.depth(r:fi k A):A.depth<recursionLimit:=by have:=r.dp;lia
theorem fi.units(r:fi k A):A.units+64<cLine:=by have:=r.un;lia
def Uk:TA:=λ_ H Q=>Q [] H
def CU(ta:TE)(tr:TA):TA:=λσ H Q=>ta σ H λx H1=>tr σ H1 λxs H2=>Q (x::xs) H2
theorem dA:PA X [] Uk:=λ_ _ _ _ H Q I h=>zg ⟨[],H,I,.nil,h⟩
theorem Cn(ha:PE X e te)(hr:PA X es t)(hs:autoParam (aa9 (e::es) X.env=(false,eval e X.env)::aa9 es X.env) o0):PA X (e::es) (CU te t):=by
 intro pos pins s σ H Q I h
 rw[hs]
 show aa0 _ _ (spliced ((false,eval e X.env)::ac5 pos (aa9 es X.env))) _ _ s
 refine xD (cM (ha pins s σ H _ I h) λu s1 ⟨x,H1,I1,r1,q1⟩=>?_)
 exact cM (hr pos pins s1 σ H1 _ I1 q1) λus s2 ⟨xs,H2,I2,r2,q2⟩=>⟨x::xs,H2,I2,.cons r1 r2,q2⟩
def YH(t:TA):TE:=λσ H Q=>t σ H λxs H1=>xs.length<=sizeLine/\∀p,H1 p=none->Q (.ref p) (upd H1 p (.tup xs))
def Uj(t:TA):TE:=λσ H Q=>t σ H λxs H1=>xs.length<=sizeLine/\∀p,H1 p=none->Q (.ref p) (upd H1 p (.lst xs))
theorem AX{x1}(h:PA X es t):PE X (.Tuple es x1 pos) (YH t):=by
 intro pins s σ H Q I hq
 refine wpAny_Tuple_spliced (cM (h pos pins s σ H _ I hq) λus s1 ⟨xs,H1,I1,r,z,q⟩=>⟨by rw[<-r.length];exact z,?_⟩)
 have hf:H1 s1.heap.objs.size=none:=I1.cN.fresh (au _)
 refine⟨.ref s1.heap.objs.size,upd H1 s1.heap.objs.size (.tup xs),I1.laid (t':=s1.toks) (λb u e=>ae _ e) (au _) ?_,rfl,q _ hf⟩
 exact⟨z,us,r,⟨_,aG _ rfl,rfl,_,rfl⟩⟩
theorem tV(h:PA X es t):PE X (.List es pos) (Uj t):=by
 intro pins s σ H Q I hq
 refine wpAny_List_spliced (cM (h pos pins s σ H _ I hq) λus s1 ⟨xs,H1,I1,r,z,q⟩=>⟨by rw[<-r.length];exact z,?_⟩)
 have hf:H1 s1.heap.objs.size=none:=I1.cN.fresh (au _)
 refine⟨.ref s1.heap.objs.size,upd H1 s1.heap.objs.size (.lst xs),I1.laid (t':=s1.toks) (λb u e=>ae _ e) (au _) ?_,rfl,q _ hf⟩
 exact⟨z,us,0,r,aG _ rfl⟩
abbrev Sp:=List V->Hp->VK->XK->Prop
abbrev vK:=List Env->Hp->aa1->XK->Value->aa1->Prop
structure xH (P:ab0) (w:ab1) (K:Frag) (mg:mG7) (base:Heap) (A:ab4) (outer:List Env) (s:aa1) (H:Hp):Prop where
 frames:A.frames=some outer
 mod:Mod K mg base
 bs:∀b o,base.get? b=some o->s.heap.get? b=some o/\H b=none
 Bt:base.objs.size<=s.heap.objs.size
 kI:s.heap.FunFrames base outer
 F9:∀b∈rJ outer,H b=none
 cN:j4 P w H s.heap
 bare:AllBare s.gens
def CE(outer:List Env)(P:ab0)(w:ab1)(H:Hp)(s:aa1)(Q:VK)(u:Value)(s':aa1):Prop:=
 ∃v H',s'.os=s.os/\AllBare s'.gens/\Un (rJ outer) [] H H' s.heap s'.heap/\j4 P w H' s'.heap/\RelV v u/\Q v H'
def CR(CX:vK)(outer:List Env)(P:ab0)(w:ab1)(H:Hp)(s:aa1)(Q:VK)(E:XK)(r:Result)(s':aa1):Prop:=
 match r with
 |.ok (.ret u)=>CE outer P w H s Q u s'
 |.ok _=>False
 |.error e=>CX outer H s E e s'
structure jP (P:ab0) (w:ab1) (K:Frag) (mg:mG7) (base:Heap) (CX:vK) (k:Nat) (f:Addr) (fd:ab5) (ps:lS7) (sp:Sp):Prop where
 len:∀vs H Q E,sp vs H Q E->vs.length=ps.length
 run:∀(A:ab4) (outer:List Env) (s:aa1) (H:Hp) (args:Args) (us:List Value) (vs:List V) (Q:VK) (E:XK),fi k A->xH P w K mg base A outer s H->BindsTo s fd args (ps.zip us)->Vals vs us->sp vs H Q E ->
  ac3 (aa5 P w) A (.call (.ref f) args) (CR CX outer P w H s Q E) s
theorem jP.mono{f:Addr}(F:jP P w K mg base CX j f fd ps sp)(h:j<=k) :
  jP P w K mg base CX k f fd ps sp:=⟨F.len,λA outer s H args us vs Q E hr=>F.run A outer s H args us vs Q E (hr.mono h)⟩
theorem jP.imp{f:Addr}{T6:Sp}(F:jP P w K mg base CX k f fd ps sp)
  (h:∀vs H Q E,T6 vs H Q E->sp vs H Q E):jP P w K mg base CX k f fd ps T6:=
 ⟨λvs H Q E q=>F.len vs H Q E (h _ _ _ _ q),λA outer s H args us vs Q E hr he hb hv hs=>F.run A outer s H args us vs Q E hr he hb hv (h _ _ _ _ hs)⟩
theorem xH.make(e:xH P w K mg base A outer s H)(C:Addr)(us:List Value)(kw:List (Str×Value)) :
  xH P w K mg base (A.under (.builtin "type.__call__" ⟨.ref C::us,kw⟩)) outer s H:=⟨by first|exact e.frames|(simpa [Around.under,Code.envs,Code.isFrame,pushEnvs] using e.frames),e.mod,e.bs,e.Bt,e.kI,e.F9,e.cN,e.bare⟩
theorem Inv.QU(I:Inv X pins σ H s):xH X.prog X.w X.K X.mg X.base X.A X.stack s H:=
 ⟨I.ok.frames,I.ok.mod,I.bs,aA I.ok.Bt I.sz,I.stack,I.rQ,I.cN,I.bare⟩
theorem Inv.after{Q:VK}(I:Inv X pins σ H s)(h:CE X.stack X.prog X.w H s Q u s'):EP X pins σ Q u s':=by
 obtain⟨v,H',os,bare,un,cN,r,q⟩:=h
 obtain⟨hh,g,d,t,os'⟩:=s'
 obtain rfl:os'=s.os:=os
 exact⟨v,H',I.call (h':=hh) (g':=g) (d':=d) (t':=t) (ch:= []) un cN bare (λb z=>absurd z (by simp)),r,q⟩
def Jj(sp:Sp)(yZ:List V)(E:XK)(t:TA):TE:=λσ H Q=>t σ H λvs H1=>sp (vs++yZ) H1 Q E
def PJ(C:Addr)(sp:Sp)(yZ:List V)(E:XK)(t:TA):TE:=λσ H Q=>t σ H λvs H1=>∀x dx,H1 x=none->H1 dx=none->dx≠x ->
 sp (.ref x::(vs++yZ)) (upd (upd H1 dx (.own x)) x (.ins C dx [])) (λv H2=>v=.non/\Q (.ref x) H2) E
def Binds(K:Frag)(fd:ab5)(ps:lS7)(ds:List Value):Prop:=
 ∀(s:aa1) (us:List Value),K.In s.heap->(us++ds).length=ps.length->BindsTo s fd ⟨us,[]⟩ (ps.zip (us++ds))
theorem Binds.all(h:∀us:List Value,us.length=ps.length->bindArgs fd ⟨us,[]⟩=pure (ps.zip us)):Binds K fd ps []:=λs us _ hl=>by
 rw[bS] at hl⊢
 exact .of_eq (h us hl)
def g8(CX:vK)(X:Cx)(E:XK):Prop:=∀(pins:aP7) (σ:St) (H:Hp) (s:aa1) (e:Value) (s':aa1),Inv X pins σ H s->CX X.stack H s E e s'->X.xe e s'
section
variable {f:Addr}{yZ:List V}{ds:List Value}{E:XK}{o:Expr}
theorem IQ{Q:VK}(F:jP X.prog X.w X.K X.mg X.base CX k f fd ps sp)(hr:fi k X.A)(hb:Binds X.K fd ps ds)(hd:Vals yZ ds)(hx:g8 CX X E)
  (I:Inv X pins σ H s) (r:Vals vs us) (h:sp (vs++yZ) H Q E):aa0 (aa5 X.prog X.w) X.A (call (.ref f) us) (EP X pins σ Q) X.xe s:=by
 have r2:Vals (vs++yZ) (us++ds):=r.append hd
 have hl:(us++ds).length=ps.length:=by rw[<-r2.length];exact F.len _ _ _ _ h
 refine qM (jD (F.run X.A X.stack s H ⟨us,[]⟩ (us++ds) (vs++yZ) Q E hr I.QU (hb s us I.nO hl) r2 h) λr s' hq=>?_)
 cases r with
 |error e=>exact hx pins σ H s e s' I hq
 |ok fl=>
  cases fl with
  |ret u=>exact I.after hq
  |next=>exact False.elim hq
  |brk=>exact False.elim hq
  |cont=>exact False.elim hq
theorem MN(F:jP X.prog X.w X.K X.mg X.base CX k f fd ps sp)(hr:fi k X.A)(hg:Gl X x)(hm:X.mg x=some (.ref f))(hk:keepIn X.K (.ref f)=true)(hb:Binds X.K fd ps ds)(hd:Vals yZ ds)(hx:g8 CX X E)
  (ha:PA X (e::es) t) (jT:autoParam ((x == ("__debug__":Str))=false) v0) (he:autoParam (aa9 (e::es) X.env=(false,eval e X.env)::aa9 es X.env) o0) (eo:autoParam ((ac5 pos (aa9 es X.env)).any (·.1)=false) o0) :
  PE X (.Call (.Name x p) (e::es) [] pos) (Jj sp yZ E t):=by
 intro pins s σ H Q I h
 refine fS (kN I hg hm ?_ jT)
 refine mU (h₀:=X.base) I.ok.mod.LZ hk (cM (ha pos pins s σ H _ I h) λus s1 ⟨vs,H1,I1,r,q⟩=>⟨I1.nO,?_⟩) he eo
 exact IQ F hr hb hd hx I1 r q
structure Mk (K:Frag) (C f:Addr):Prop where
 makes:makesIn K C=true
 init:findIn K (.ref C) "__init__"=some (some (.ref f))
 fn:isFn K (.ref f)=true
 kp:keepIn K (.ref C)=true
theorem IS{Q:VK}(M:Mk X.K C f)(F:jP X.prog X.w X.K X.mg X.base CX k f fd ps sp)(hr:fi (k+1) X.A)(hb:Binds X.K fd ps ds)(hd:Vals yZ ds)
  (hx:g8 CX X E) (I:Inv X pins σ H s) (r:Vals vs us)
  (h:∀x dx,H x=none->H dx=none->dx≠x->sp (.ref x::(vs++yZ)) (upd (upd H dx (.own x)) x (.ins C dx [])) (λv H2=>v=.non/\Q (.ref x) H2) E) :
  aa0 (aa5 X.prog X.w) X.A (call (.ref C) us) (EP X pins σ Q) X.xe s:=by
 have hq:=h (s.heap.objs.size+1) s.heap.objs.size (I.cN.fresh (Nat.le_succ _)) (I.cN.fresh (au _)) (aW (pQ _))
 have I2:=Inv.made (C:=C) I
 have r2:Vals (V.ref (s.heap.objs.size+1)::(vs++yZ)) (Value.ref (s.heap.objs.size+1)::(us++ds)):=.cons rfl (r.append hd)
 have hl:(Value.ref (s.heap.objs.size+1)::us++ds).length=ps.length:=by
  have e:=r2.length
  rw[F.len _ _ _ _ hq] at e
  exact e.symm
 refine qM (Hf (f:=f) I.nO M.makes M.init (mV.mp M.fn) (jD (F.run _ X.stack _ _ ⟨Value.ref (s.heap.objs.size+1)::us,[]⟩ (Value.ref (s.heap.objs.size+1)::(us++ds)) _ _ E (hr.make C us [])
  (I2.QU.make C us []) (hb _ (Value.ref (s.heap.objs.size+1)::us) I2.nO hl) r2 hq) λr s' Rv=>?_))
 cases r with
 |error e=>exact hx pins σ _ _ e s' I2 Rv
 |ok fl=>
  cases fl with
  |ret u=>
   obtain⟨v,H',I3,rv,ev,q3⟩:=I2.after Rv
   subst ev
   exact⟨rv,⟨V.ref (s.heap.objs.size+1),H',I3,rfl,q3⟩⟩
  |next=>exact False.elim Rv
  |brk=>exact False.elim Rv
  |cont=>exact False.elim Rv
theorem MU(M:Mk X.K C f)(F:jP X.prog X.w X.K X.mg X.base CX k f fd ps sp)(hr:fi (k+1) X.A)(hg:Gl X x)(hm:X.mg x=some (.ref C))(hb:Binds X.K fd ps ds)(hd:Vals yZ ds)(hx:g8 CX X E)
  (ha:PA X (e::es) t) (jT:autoParam ((x == ("__debug__":Str))=false) v0) (he:autoParam (aa9 (e::es) X.env=(false,eval e X.env)::aa9 es X.env) o0) (eo:autoParam ((ac5 pos (aa9 es X.env)).any (·.1)=false) o0) :
  PE X (.Call (.Name x p) (e::es) [] pos) (PJ C sp yZ E t):=by
 intro pins s σ H Q I h
 refine fS (kN I hg hm ?_ jT)
 refine mU (h₀:=X.base) I.ok.mod.LZ M.kp (cM (ha pos pins s σ H _ I h) λus s1 ⟨vs,H1,I1,r,q⟩=>⟨I1.nO,?_⟩) he eo
 exact IS M F hr hb hd hx I1 r q
end
section
variable {f:Addr}{ks:lS7}{E:XK}{aaD:Pos}{o:Expr}{kws:List ac4}{tk:TA}{nm:Option Str}
variable {g:List Value->List Value->List Value}{gV:List V->List V->List V}
end
structure eX (N P:lS7) (sc:Scope):Prop where
 kind:sc.kind=.function
 co:sc.isCoroutine=false
 gen:sc.isGenerator=false
 nd:N.Nodup
 pre:N.take P.length=P
 par:∀x∈P,sc.names.lookup x=some .local\/sc.names.lookup x=some .cell
 Sb:∀y∈sc.names,y.2≠.free
theorem uV{kindOf:Str->Option NameKind}{x:Str}:∀{binds:List (Str×Value)}{m:mG7},(∀v,(x,v)∉binds)->bindL kindOf binds m x=m x
 | [],_,_=>rfl
 |(n,v)::r,m,h=>by
  unfold bindL
  rw[uV λw hw=>h w (ax _ hw)]
  split
  ·have:x≠n:=by rintro rfl;exact h v aL
   simp[this]
  ·rfl
theorem uT{kindOf:Str->Option NameKind}{x:Str}:∀{binds:List (Str×Value)}{m:mG7},(∀v,(x,v)∉binds)->bindC kindOf binds m x=m x
 | [],_,_=>rfl
 |(n,v)::r,m,h=>by
  unfold bindC
  rw[uT λw hw=>h w (ax _ hw)]
  split
  ·rfl
  ·have:x≠n:=by rintro rfl;exact h v aL
   simp[this]
theorem uU{kindOf:Str->Option NameKind}{x:Str}{v:Value}:∀{P:lS7}{vs:List Value}{i:Nat}{m:mG7},P.Nodup->P[i]?=some x->vs[i]?=some v->kindOf x=some .local ->
  bindL kindOf (P.zip vs) m x=some v
 | [],_,_,_,_,h,_,_=>by simp at h
 |_::_,[],_,_,_,_,h,_=>by simp at h
 |p::P,w::vs,0,m,nd,h1,h2,hk=>by
  simp at h1 h2;subst h1;subst h2
  show bindL kindOf ((p,w)::P.zip vs) m p=_
  unfold bindL
  rw[uV λv hv=>(cA.mp nd).1 (rj hv).1,bF hk]
  simp
 |p::P,w::vs,i+1,m,nd,h1,h2,hk=>by
  show bindL kindOf ((p,w)::P.zip vs) m x=_
  unfold bindL
  exact uU (i:=i) (cA.mp nd).2 (by simpa using h1) (by simpa using h2) hk
theorem uS{kindOf:Str->Option NameKind}{x:Str}{v:Value}:∀{P:lS7}{vs:List Value}{i:Nat}{m:mG7},P.Nodup->P[i]?=some x->vs[i]?=some v->kindOf x≠some .local ->
  bindC kindOf (P.zip vs) m x=some v
 | [],_,_,_,_,h,_,_=>by simp at h
 |_::_,[],_,_,_,_,h,_=>by simp at h
 |p::P,w::vs,0,m,nd,h1,h2,hk=>by
  simp at h1 h2;subst h1;subst h2
  show bindC kindOf ((p,w)::P.zip vs) m p=_
  unfold bindC
  rw[uT λv hv=>(cA.mp nd).1 (rj hv).1,bJ hk]
  simp
 |p::P,w::vs,i+1,m,nd,h1,h2,hk=>by
  show bindC kindOf ((p,w)::P.zip vs) m x=_
  unfold bindC
  exact uS (i:=i) (cA.mp nd).2 (by simpa using h1) (by simpa using h2) hk
noncomputable def start(N:lS7)(vs:List V):St:=vs.map some++List.replicate (N.length-vs.length) none
noncomputable def oN(CX:vK)(P:ab0)(w:ab1)(K:Frag)(mg:mG7)(base:Heap)(N:lS7)(qual:Str)(scope:Scope)(f:Addr)(cd:Value)(A:ab4)(outer:List Env)(s:aa1)(H:Hp)(E:XK):Cx where
 prog:=P
 w:=w
 K:=K
 mg:=mg
 base:=base
 A:=A.deeper (envOfC qual scope s.heap.objs.size f cd)
 N:=N
 s₀:=s
 H₀:=H
 env:=envOfC qual scope s.heap.objs.size f cd
 outer:=outer
 stack:=envOfC qual scope s.heap.objs.size f cd::outer
 ex:= []
 calm:=true
 fn:=λ_=>true
 pn:= []
 xe:=λe s'=>aa0 (aa5 P w) (A.deeper (envOfC qual scope s.heap.objs.size f cd)) (leaving (envOfC qual scope s.heap.objs.size f cd) e) (λ_ EE=>CX outer H s E e EE) (λe' EE=>CX outer H s E e' EE) s'
theorem xT{sc:Scope}(h:sc.names.lookup x=some .cell):∃c,(cellsFrom n sc.names []).lookup x=some c:=by
 have q:=qK sc.names n [] (.inl h)
 exact dH.mp q
theorem vc{f:Addr}{cd:Value}{s1:aa1}{E:XK}
  (S:eX N ps scope) (hd:A.handled=none) (e0:xH P w K mg base A outer s H) (hl:vs.length=ps.length) (r:Vals vs us)
  (x:InCallC s s.heap.objs.size (bindL (envOfC qual scope s.heap.objs.size f cd).kindOf (ps.zip us) λ_=>none) (cellsFrom (s.heap.objs.size+1) scope.names []) (bindC (envOfC qual scope s.heap.objs.size f cd).kindOf (ps.zip us) λ_=>none) s1) :
  Inv (oN CX P w K mg base N qual scope f cd A outer s H E) [] (start N vs) H s1:=by
 have eo:ps.length<=N.length:=by have:=eB List.length S.pre;rw[bQ] at this;lia
 obtain⟨h1,tk,rfl,hk⟩:=x.done
 have XA:∀b:Addr,b∉(oN CX P w K mg base N qual scope f cd A outer s H E).ex:=λb z=>absurd (show b∈([]:List Addr) from z) (by simp)
 refine⟨⟨e0.mod,S.kind,rfl,rfl,au _,λy z c h1 h2=>?_,λy hy=>?_,λy c _ h=>?_,λ_=>hd,Around.frames_deeper e0.frames,.inr ⟨rfl,rfl⟩,λb z=>absurd z (XA b),e0.bs,e0.Bt,λb _ _=>XA b,λb z=>absurd z (XA b),e0.kI,e0.F9⟩,
  rfl,e0.bare,Un.kept hk,⟨_,x.toInCall.ns,λi y v h1 h2 h3=>?_⟩,λy c h=>⟨_,x.cell y c h⟩,e0.cN.fresh (au _),λy c h=>?_,λp hp=>absurd (show p∈([]:aP7) from hp) (by simp),e0.cN.kept hk,?_⟩
 ·exact name_of_addr x.apart (ik h1) (ik h2)
 ·have hy:scope.names.lookup y=some .cell\/scope.names.lookup y=some .free:=hy
  rcases hy with hy|hy
  ·exact xT hy
  ·exact absurd rfl (S.Sb _ (ik hy))
 ·exact Vm (x.above y c (ik h))
 ·have hi:i<vs.length:=by
   unfold start at h2
   by_cases hi:i<vs.length
   ·exact hi
   ·rw[bg (by simpa using hi)] at h2
    rw[fE] at h2
    split at h2<;>cases h2
  have ha:vs[i]?=some v:=by
   unfold start at h2
   rw[aV (by simpa using hi),bP] at h2
   cases e:vs[i]? with
   |none=>rw[e] at h2;cases h2
   |some a=>rw[e] at h2;cases h2;rfl
  obtain⟨u,hu,rv⟩:=r.get ha
  have hp:ps[i]?=some y:=by
   rw[<-S.pre,iB (by lia)];exact h1
  have ndP:ps.Nodup:=by rw[<-S.pre];exact S.nd.sublist (cg _ _)
  refine⟨u,rv,?_⟩
  rcases S.par y (aS hp) with k|k
  ·exact .inl ⟨k,uU ndP hp hu k⟩
  ·obtain⟨c,e⟩:=xT (n:=s.heap.objs.size+1) k
   refine .inr ⟨.inl k,c,e,?_⟩
   have q:=x.cell y c e
   rw[uS ndP hp hu (by show scope.names.lookup y≠_;rw[k];decide)] at q
   exact q
 ·exact e0.cN.fresh (Vm (x.above y c (ik h)))
 ·unfold start
  show _=N.length
  rw[ai,ah,bV]
  lia
theorem OK{f:Addr}{params:Arguments}{dV kV doc pm fT ct oc:Value}{an od:Option Addr}
  {AS:Array (Option Value)} (lk:K.lookup f=some ⟨oc,od,.func (fnOf name qual params body scope dV kV doc pm an fT ct),AS⟩) (Ai:codeIn K fT qual=true) (S:eX N ps scope)
  (len:∀vs H Q E,sp vs H Q E->vs.length=ps.length)
  (oZ:∀(A:ab4) (outer:List Env) (s:aa1) (H:Hp) (vs:List V) (Q:VK) (E:XK),fi k (A.deeper (envOfC qual scope s.heap.objs.size f fT))->sp vs H Q E ->
   ∃t,nj (oN CX P w K mg base N qual scope f fT A outer s H E) body t/\t {nx:=λ_ H'=>Q .non H',rt:=Q} (start N vs) H) :
  jP P w K mg base CX (k+1) f (fnOf name qual params body scope dV kV doc pm an fT ct) ps sp:=by
 refine⟨len,λA outer s H args us vs Q E hr e0 hb r Ap=>?_⟩
 have hl:=len _ _ _ _ Ap
 have KX:K.In s.heap:=e0.mod.LZ.keeps λb o e=>(e0.bs b o e).1
 have lim:s.heap.NoLimit:=e0.mod.nolimit.keeps λb o e=>(e0.bs b o e).1
 have Gr:∀y∈ps.zip us,scope.names.lookup y.1=some .local\/(scope.names.lookup y.1=some .cell/\((cellsFrom (s.heap.objs.size+1) scope.names []).lookup y.1).isSome=true):=λ⟨n,v⟩ hy=>by
  rcases S.par n (rj hy).1 with q|q
  ·exact .inl q
  ·exact .inr ⟨q,qK _ _ _ (.inl q)⟩
 refine Y5 hr.depth (KX _ _ lk) rfl S.co S.gen rfl (PySem.W.codeRec_of KX Ai) (hb _ _ _ _ ?_)
 refine Ke S.kind Gr λenv he s1 x=>?_
 subst he
 refine⟨lim.keeps x.toInCall.keep,codeAny_func ?_⟩
 obtain⟨t,ht,hq⟩:=oZ A outer s H vs Q E (hr.deeper _) Ap
 have I:Inv (oN CX P w K mg base N qual scope f fT A outer s H E) [] (start N vs) H s1:=vc S hr.hd e0 hl r x
 refine eD (ht [] s1 (start N vs) H _ I hq) (λfl s' hs=>?_) λe s' hs=>hs
 have fin:∀{σ':St}{H':Hp}{v:V}{u:Value},Inv (oN CX P w K mg base N qual scope f fT A outer s H E) [] σ' H' s'->RelV v u->Q v H'->CE outer P w H s Q u s':=
  λ{σ' H' v u} J rv q=>⟨v,H',J.os,J.bare,J.base,J.cN,rv,q⟩
 cases fl with
 |ret u=>
  obtain⟨v,σ',H',J,rv,q⟩:=hs
  exact fin J rv q
 |next=>
  obtain⟨σ',H',J,q⟩:=hs
  exact fin (v:=V.non) (u:=Value.none) J rfl q
 |brk=>
  obtain⟨_,_,_,q⟩:=hs
  exact False.elim q
 |cont=>
  obtain⟨_,_,_,q⟩:=hs
  exact False.elim q
section
variable {id T:String}{r:List V->Hp->VK->Prop}
def Z2(r:List V->Hp->VK->Prop)(t:TA):TE:=λσ H Q=>t σ H λvs H1=>r vs H1 Q
theorem HI(hc:dQ X (.builtin id) r)(hg:Gl X x)(hm:X.mg x=none)(hv:aa6 x=some (.builtin id))(ha:PA X (e::es) t)(hn:autoParam (x≠"__name__") v0)(jT:autoParam ((x == ("__debug__":Str))=false) v0)
  (he:autoParam (aa9 (e::es) X.env=(false,eval e X.env)::aa9 es X.env) o0) (eo:autoParam ((ac5 pos (aa9 es X.env)).any (·.1)=false) o0):PE X (.Call (.Name x p) (e::es) [] pos) (Z2 r t):=by
 intro pins s σ H Q I h
 refine fS (qj I hg hm hv ?_ hn jT)
 exact PyProof.Rows.callWith_builtin1 (cM (ha pos pins s σ H _ I h) λus s1 ⟨vs,H1,I1,r1,q1⟩=>hc pins s1 σ H1 vs us Q I1 r1 q1) he eo
theorem Er(hc:dQ X (.type T) r)(hg:Gl X x)(hm:X.mg x=none)(hv:aa6 x=some (.type T))(ha:PA X (e::es) t)(hn:autoParam (x≠"__name__") v0)(jT:autoParam ((x == ("__debug__":Str))=false) v0)
  (he:autoParam (aa9 (e::es) X.env=(false,eval e X.env)::aa9 es X.env) o0) (eo:autoParam ((ac5 pos (aa9 es X.env)).any (·.1)=false) o0):PE X (.Call (.Name x p) (e::es) [] pos) (Z2 r t):=by
 intro pins s σ H Q I h
 refine fS (qj I hg hm hv ?_ hn jT)
 exact gB (cM (ha pos pins s σ H _ I h) λus s1 ⟨vs,H1,I1,r1,q1⟩=>hc pins s1 σ H1 vs us Q I1 r1 q1) he eo
end
end L2
namespace HT
open PySem PyProof.Rows
variable{t sl:Addr}{vl vu:Value}{hi:Option Int}
section
open PySem.SeqAt
open PySem.AutoSeq1 (wpAny_loadPart')
open PySem.MeetsSeq PySem.MeetsSeq2 PySem.MeetsSeq3
end
section
variable {prog:ab0}{w:ab1}{A:ab4}{E:dw}{s:aa1}
theorem KC{b:Addr}{vs ws:List Value}{Q:dw}(ht:IsTup s.heap t vs.toArray)(hb:IsTup s.heap b ws.toArray)(hv:vs ≠ [])
  (h1:ws = []->Q (.ref t) s) (h2:ws ≠ []->Q (.ref s.heap.objs.size) {s with heap:=s.heap.push {cls:=.type "tuple",data:=.seq (vs++ws).toArray}})
  (hsz:vs.length+ws.length<=sizeLine):aa0 (aa5 prog w) A (binaryOp .Add (.ref t) (.ref b)) Q E s:=by
 obtain⟨⟨cls,dd,data,sl⟩,ho,hc,n,hd⟩:=id ht
 obtain⟨⟨U_,U1,data2,Z1⟩,Ro,Wz,n2,hd2⟩:=id hb
 simp only at hc hd Wz hd2
 subst hc hd Wz hd2
 have e:vs.toArray++ws.toArray=(vs++ws).toArray:=by simp
 by_cases hw:ws = []
 ·exact Vq ⟨_,ho,rfl⟩ ⟨_,Ro,rfl⟩ Dh P7 qJ pR (om _ _)
   (tuple_addW1 t b vs.toArray ws.toArray n n2 dd U1 sl Z1 (by simpa using hv) (by simp[hw])) ⟨ho,Ro,h1 hw⟩
 ·refine Vq ⟨_,ho,rfl⟩ ⟨_,Ro,rfl⟩ Dh P7 qJ pR (om _ _)
   (tuple_addW2 t b vs.toArray ws.toArray n n2 dd U1 sl Z1 (by simpa using hv) (by simpa using hw) (by rw[aD,aD];exact hsz)) ⟨ho,Ro,?_⟩
  rw[e]
  exact h2 hw
def fQ(n d:Nat):Option Int->Nat
 |none=>d
 |some v=>if v<0 then(v+(n:Int)).toNat else min v.toNat n
theorem yK(n d:Nat):fQ n d none=d:=rfl
theorem NC(n d k:Nat):fQ n d (some (k:Int))=min k n:=by
 show(if (k:Int)<0 then((k:Int)+(n:Int)).toNat else min (k:Int).toNat n)=min k n
 rw[bJ (by lia),oa]
theorem TM(n d:Nat)(hd:d<=n)(o:Option Int):fQ n d o<=n:=by
 cases o with
 |none=>exact hd
 |some v=>
  show(if v<0 then(v+(n:Int)).toNat else min v.toNat n)<=n
  by_cases hv:v<0
  ·rw[bF hv];lia
  ·rw[bJ hv];exact j7 _ _
theorem wb(v:Int)(n d:Nat):(if v<0 then max (v+(n:Int)) 0 else min v (n:Int))=((fQ n d (some v):Nat):Int):=by
 show(if v<0 then max (v+(n:Int)) 0 else min v (n:Int))=(((if v<0 then(v+(n:Int)).toNat else min v.toNat n):Nat):Int)
 by_cases hv:v<0
 ·simp only[bF hv];lia
 ·simp only[bJ hv];lia
theorem zw(lo hi:Option Int)(n:Nat):Builtin.Slice.sliceAdjust lo hi 1 (n:Int)=(((fQ n 0 lo:Nat):Int),((fQ n n hi:Nat):Int)):=by
 have h1 : ¬ ((1:Int)<0):=by lia
 unfold Builtin.Slice.sliceAdjust
 simp only[h1,pS]
 refine Prod.ext ?_ ?_
 ·cases lo with
  |none=>rfl
  |some v=>exact wb v n 0
 ·cases hi with
  |none=>rfl
  |some v=>exact wb v n n
theorem AZ(i j:Nat):Builtin.Slice.slicePlaces (i:Int) (j:Int) 1=j-i:=by
 unfold Builtin.Slice.slicePlaces
 have h1:(1:Int) > 0:=by lia
 simp only[h1,jE,Int.ediv_one]
 split<;>lia
theorem ud{v:Value}{o:Option Int}{Q:Option Int->aa1->Prop}(p:IsPart v o)(h:Q o s):aa0 (aa5 prog w) A (Builtin.Slice.slicePartIndex v) Q E s:=by
 cases p with
 |none=>exact uy h
 |int i t=>exact slicePart_int h
theorem km{lo:Option Int}{n:Nat}{Q:Int×Int×Nat->aa1->Prop}(hs:s.heap.IsSliceOf sl vl vu .none)(pl:IsPart vl lo)(pu:IsPart vu hi)
  (h:Q (((fQ n 0 lo:Nat):Int),1,fQ n n hi-fQ n 0 lo) s):aa0 (aa5 prog w) A (Builtin.Slice.sliceApplied (.ref sl) (pure (n:Int))) Q E s:=by
 obtain⟨os,BZ,U5,Ls⟩:=id hs
 unfold Builtin.Slice.sliceApplied Builtin.Slice.sliceFields
 refine aa (aa (bh BZ Ls (x:=vl) rfl (aa (bh BZ Ls (x:=vu) rfl (aa (bh BZ Ls (x:=.none) rfl (ak ?_)))))))
 refine aa (uy ?_)
 show aa0 _ _ (if ((1:Int) == 0)=true then _ else _) _ _ s
 rw[bJ (by decide)]
 refine aa (ud pl (aa (ud pu (aa (ak ?_)))))
 show aa0 _ _ (match Builtin.Slice.sliceAdjust lo hi 1 (n:Int) with|(lo,hi)=>pure (lo,(1:Int),Builtin.Slice.slicePlaces lo hi 1)) _ _ s
 rw[zw lo hi n]
 show aa0 _ _ (pure (((fQ n 0 lo:Nat):Int),(1:Int),Builtin.Slice.slicePlaces ((fQ n 0 lo:Nat):Int) ((fQ n n hi:Nat):Int) 1)) _ _ s
 rw[AZ]
 exact ak h
theorem Ij(xs:Array Value)(i k:Nat):((List.range k).filterMap λ(m:Nat)=>xs[((i:Int)+(m:Int)*1).toNat]?).toArray=((xs.toList.drop i).take k).toArray:=by
 have e:(λ(m:Nat)=>xs[((i:Int)+(m:Int)*1).toNat]?)=λm=>xs[i+m]? :=by
  funext m
  have:((i:Int)+(m:Int)*1).toNat=i+m:=by lia
  rw[this]
 rw[e]
 have:=pick_run xs i k
 rw[List.filterMap_map] at this
 have e2:((λx=>xs[x]?) ∘ λx=>i+x)=λm=>xs[i+m]? :=rfl
 rw[e2] at this
 rw[this]
theorem oX{items:Array Value}{lo:Option Int}{Q:dw}(ht:IsTup s.heap t items)(hs:s.heap.IsSliceOf sl vl vu .none)(pl:IsPart vl lo)(pu:IsPart vu hi)
  (hw : ¬ (fQ items.size 0 lo=0/\fQ items.size items.size hi=items.size))
  (h:Q (.ref s.heap.objs.size) {s with heap:=s.heap.push {cls:=.type "tuple",data:=.seq ((items.toList.drop (fQ items.size 0 lo)).take (fQ items.size items.size hi-fQ items.size 0 lo)).toArray}})
  (hsz:items.size<=sizeLine):aa0 (aa5 prog w) A (getItem (.ref t) (.ref sl)) Q E s:=by
 have B0:sizeOk (.seq ((items.toList.drop (fQ items.size 0 lo)).take (fQ items.size items.size hi-fQ items.size 0 lo)).toArray):=by
  show((items.toList.drop (fQ items.size 0 lo)).take (fQ items.size items.size hi-fQ items.size 0 lo)).toArray.size<=sizeLine
  rw[aD,bQ,pN,bX]
  lia
 have hj:fQ items.size items.size hi<=items.size:=TM _ _ (au _) hi
 obtain⟨os,BZ,U5,Ls⟩:=id hs
 have Wt:s.TypeIs (.ref sl) "slice":=⟨os,BZ,U5⟩
 unfold getItem
 try with_reducible refine cD ?_
 first|refine aa (ak ?_)|skip
 refine aa (zm ht.typeIs (by decide) ?_)
 refine aa (bW (name:=Str.ofString "__getitem__") ht.typeIs bI
  (di bI ht.typeIs vJ ?_ (xE _ _)))
 show aa0 _ _ (Builtin.Tuple.tupleItemsOf (.ref t) >>= _) _ _ s
 refine aa (P8 ht ?_)
 refine aa (lR Wt ?_)
 rw[bF (by decide)]
 refine aa (km hs pl pu ?_)
 have hno : ¬ ((((fQ items.size 0 lo:Nat):Int) == 0&&(1:Int) == 1&&(fQ items.size items.size hi-fQ items.size 0 lo) == items.size)=true):=by
  intro q
  rw[ay,ay] at q
  have q1:((fQ items.size 0 lo:Nat):Int)=0:=uQ q.1.1
  have q2:fQ items.size items.size hi-fQ items.size 0 lo=items.size:=uQ q.2
  exact hw ⟨by lia,by lia⟩
 show aa0 _ _ (if (((fQ items.size 0 lo:Nat):Int) == 0&&(1:Int) == 1&&(fQ items.size items.size hi-fQ items.size 0 lo) == items.size)=true then _ else _) _ _ s
 rw[bJ hno,Ij]
 first
  |exact aa (m:=Builtin.Tuple.tupleExact _) (bT (ak ⟨_,rfl,ak h⟩) B0)
  |exact aa (m:=Builtin.Tuple.tupleExact _) (bT (aa (ak (ak ⟨_,rfl,ak h⟩))) B0)
  |exact aa (aa (m:=Builtin.Tuple.tupleExact _) (bT (ak (ak ⟨_,rfl,ak h⟩)) B0))
  |exact aa (aa (m:=Builtin.Tuple.tupleExact _) (bT (ak ⟨_,rfl,ak h⟩) B0))
end
end HT
namespace L2
open PySem PySem.Spec PyProof.Rows
variable{X:Cx}{e:Expr}{pos:Pos}{T:String}{r:V->Option Int->Option Int->Hp->VK->Prop}{pins:aP7}{σ:St}{H:Hp}{s:aa1}{xs ys:List V}{A:ab4}{us its its':List Value}{α:Type}{n j t':Nat}{i:Int}{x:V}{u v:Value}
abbrev TO:=St->Hp->(Option Int->Hp->Prop)->Prop
def PO(X:Cx)(e:Option Expr)(t:TO):Prop:=
 ∀(pins:aP7) (s:aa1) (σ:St) (H:Hp) (Q:Option Int->Hp->Prop),Inv X pins σ H s->t σ H Q ->
  aa0 (aa5 X.prog X.w) X.A (evalPart e X.env) (λu s'=>∃o H',Inv X pins σ H' s'/\IsPart u o/\Q o H') X.xe s
def NX:TO:=λ_ H Q=>Q none H
def YE(t:TE):TO:=λσ H Q=>t σ H λx H1=>∃i,x=.int i/\Q (some i) H1
section
variable {te:TE}{lo hi:Option Expr}{tl th:TO}{p2:Pos}
theorem Nm:PO X none NX:=by
 intro pins s σ H Q I h
 rw[P6]
 exact ak ⟨none,H,I,.none,h⟩
theorem Nn(h:PE X e te):PO X (some e) (YE te):=by
 intro pins s σ H Q I hw
 rw[evalPart_some]
 refine cM (h pins s σ H _ I hw) λu s1 ⟨x,H1,I1,r1,q1⟩=>?_
 obtain⟨i,rfl,q⟩:=q1
 obtain⟨t,rfl⟩:=r1
 exact⟨some i,H1,I1,.int i t,q⟩
def EY(X:Cx)(r:V->Option Int->Option Int->Hp->VK->Prop):Prop:=
 ∀(pins:aP7) (s:aa1) (σ:St) (H:Hp) (x:V) (v vl vu:Value) (lo hi:Option Int) (sl:Addr) (Q:VK),Inv X pins σ H s->RelV x v->s.heap.IsSliceOf sl vl vu .none->IsPart vl lo->IsPart vu hi->r x lo hi H Q ->
  ∃T id,typeLookup (.type T) "__getitem__"=pure (some (.builtin id))/\s.TypeIs v T/\aa0 (aa5 X.prog X.w) X.A (getItem v (.ref sl)) (EP X pins σ Q) X.xe s
theorem EY.or{r':V->Option Int->Option Int->Hp->VK->Prop}(h:EY X r)(h':EY X r'):EY X (λx lo hi H Q=>r x lo hi H Q\/r' x lo hi H Q):=by
 intro pins s σ H x v vl vu lo hi sl Q I rx hs pl pu q
 rcases q with q|q
 ·exact h pins s σ H x v vl vu lo hi sl Q I rx hs pl pu q
 ·exact h' pins s σ H x v vl vu lo hi sl Q I rx hs pl pu q
def tSl(r:V->Option Int->Option Int->Hp->VK->Prop)(te:TE)(tl th:TO):TE:=λσ H Q=>te σ H λx H1=>tl σ H1 λl H2=>th σ H2 λu H3=>r x l u H3 Q
theorem HQ(hr:EY X r)(he:PE X e te)(hl:PO X lo tl)(hu:PO X hi th):PE X (.Subscript e (.Slice lo hi none p2) pos) (tSl r te tl th):=by
 intro pins s σ H Q I h
 refine Kb (cM (he pins s σ H _ I h) λv s1 ⟨x,H1,I1,r1,q1⟩=>?_)
 refine wpAny_Slice (cM (hl pins s1 σ H1 _ I1 q1) λvl s2 ⟨l,H2,I2,pl,q2⟩=>cM (hu pins s2 σ H2 _ I2 q2) λvu s3 ⟨u,H3,I3,pu,q3⟩=>?_)
 rw[P6]
 refine ak ?_
 have I4:Inv X pins σ H3 {s3 with heap:=s3.heap.push {cls:=.type "slice",data:=.fields #[vl,vu,.none]}}:=I3.kept (t':=s3.toks) λb ob q=>ae _ q
 obtain⟨T,id,hT,ht,hg⟩:=hr pins {s3 with heap:=s3.heap.push {cls:=.type "slice",data:=.fields #[vl,vu,.none]}} σ H3 x v vl vu l u s3.heap.objs.size Q I4 r1 (Heap.IsSliceOf.new ..) pl pu q3
 show aa0 (aa5 X.prog X.w) X.A (subscriptTail e (.Slice lo hi none p2) v (.ref s3.heap.objs.size)) (EP X pins σ Q) X.xe {s3 with heap:=s3.heap.push {cls:=.type "slice",data:=.fields #[vl,vu,.none]}}
 exact tail_any (ops:= [.ref s3.heap.objs.size,v]) ht hT hg (by with_unfolding_all rfl)
def nF(xs:List V)(lo hi:Option Int):List V:=(xs.drop (HT.fQ xs.length 0 lo)).take (HT.fQ xs.length xs.length hi-HT.fQ xs.length 0 lo)
theorem qx(xs:List V)(lo hi:Option Int):(nF xs lo hi).length<=xs.length:=by
 unfold nF
 rw[bQ,pN]
 lia
def aa7(K:Frag):V->Option Int->Option Int->Hp->VK->Prop:=λx lo hi H Q=>∃a xs,x=.ref a/\el K H a xs /\
 ¬ (HT.fQ xs.length 0 lo=0/\HT.fQ xs.length xs.length hi=xs.length)/\∀p,H p=none->Q (.ref p) (upd H p (.tup (nF xs lo hi)))
theorem T5:EY X (aa7 X.K):=by
 intro pins s σ H x v vl vu lo hi sl Q I rx hs pl pu h
 obtain⟨a,xs,rfl,hx,hw,q⟩:=h
 cases rx
 obtain⟨its,r,ht,hz⟩:=I.tuple hx
 have hlen:its.toArray.size=xs.length:=by rw[aD];exact r.length.symm
 refine⟨"tuple",_,bI.lookup,ht.typeIs,?_⟩
 refine HT.oX ht hs pl pu (by rw[hlen];exact hw) ?_ (by rw[hlen];exact hz)
 rw[hlen]
 refine⟨.ref s.heap.objs.size,_,I.laid (t':=s.toks) (o:=.tup (nF xs lo hi)) (λb ob q=>ae _ q) (au _) ?_,rfl,q _ (I.cN.fresh (au _))⟩
 exact⟨aA (qx xs lo hi) hz,_,(r.drop (HT.fQ xs.length 0 lo)).take (HT.fQ xs.length xs.length hi-HT.fQ xs.length 0 lo),UM _ _⟩
def X2(K:Frag):R2:=λx y H Q=>∃a b xs ys,x=.ref a/\y=.ref b/\el K H a xs/\el K H b ys/\xs ≠ []/\xs.length+ys.length<=sizeLine /\
 (ys = []->Q (.ref a) H)/\(ys ≠ []->∀p,H p=none->Q (.ref p) (upd H p (.tup (xs++ys))))
theorem Vals.wV(r:Vals xs us):us = []↔xs = []:=by
 cases r with
 |nil=>simp
 |cons _ _=>simp
theorem MH:iX X (binaryOp .Add) (X2 X.K):=by
 intro pins s σ H x y v u Q I rx ry h
 obtain⟨a,b,xs,ys,rfl,rfl,ha,hb,hx,hz,q1,q2⟩:=h
 cases rx
 cases ry
 obtain⟨its,r1,p1,_⟩:=I.tuple ha
 obtain⟨l0,r2,p2,_⟩:=I.tuple hb
 refine HT.KC p1 p2 (λz=>hx (r1.wV.mp z)) (λz=>⟨.ref a,H,I,rfl,q1 (r2.wV.mp z)⟩) (λz=>?_) (by rw[<-r1.length,<-r2.length];exact hz)
 refine⟨.ref s.heap.objs.size,_,I.laid (t':=s.toks) (o:=.tup (xs++ys)) (λb ob q=>ae _ q) (au _) ?_,rfl,q2 (λw=>z (r2.wV.mpr w)) _ (I.cN.fresh (au _))⟩
 exact⟨by rw[ai];exact hz,_,r1.append r2,UM _ _⟩
end
noncomputable def LV(n:Nat)(i:Int):Option Nat:=if 0<=i then(if i<n then some i.toNat else none) else if -(n:Int)<=i then some (i+n).toNat else none
def yY(xs:List α)(i:Int):Option α:=(LV xs.length i).bind λj=>xs[j]?
theorem B7(h:LV n i=some j):seqIndex? i n=some j/\j<n /\ -(n:Int)<=i/\i<n:=by
 unfold LV at h
 by_cases h0:0<=i
 ·rw[bF h0] at h
  by_cases h1:i<n
  ·rw[bF h1] at h
   have e:i.toNat=j:=cL h
   exact⟨by rw[l_ h0 h1,e],by lia,by lia,h1⟩
  ·rw[bJ h1] at h;cases h
 ·rw[bJ h0] at h
  by_cases h1 : -(n:Int)<=i
  ·rw[bF h1] at h
   have e:(i+n).toNat=j:=cL h
   exact⟨by rw[Vr (by lia) h1,e],by lia,h1,by lia⟩
  ·rw[bJ h1] at h;cases h
theorem vO{xs:List α}{v:α}(h:yY xs i=some v):∃j,seqIndex? i xs.length=some j/\xs[j]?=some v/\j<xs.length /\ -(xs.length:Int)<=i/\i<xs.length:=by
 unfold yY at h
 cases e:LV xs.length i with
 |none=>rw[e] at h;cases h
 |some j=>
  rw[e] at h
  obtain⟨h1,h2,h3,h4⟩:=B7 e
  exact⟨j,h1,h,h2,h3,h4⟩
theorem kC{xs:List α}{v:α}(h:xs[j]?=some v):yY xs (j:Int)=some v:=by
 have hj:j<xs.length:=(aw.mp h).1
 have e:LV xs.length (j:Int)=some j:=by
  unfold LV
  rw[bF (by lia),bF (by lia)];simp
 unfold yY;rw[e];exact h
def oF(b:Expr):Prop:=∀o i,subscripted b false o i=operate [o,i] (getItem o i)
def yX(X:Cx)(r:R2):Prop:=
 ∀(value slice:Expr) (pins:aP7) (s:aa1) (σ:St) (H:Hp) (x y:V) (v u:Value) (Q:VK),Inv X pins σ H s->RelV x v->RelV y u->r x y H Q ->
  subscripted slice false v u=operate [v,u] (getItem v u)->aa0 (aa5 X.prog X.w) X.A (subscriptTail value slice v u) (EP X pins σ Q) X.xe s
def Qk(X:Cx)(id:String)(r:V->List V->Hp->VK->Prop):Prop:=
 ∀(pins:aP7) (s:aa1) (σ:St) (H:Hp) (x:V) (xs:List V) (v:Value) (us:List Value) (Q:VK),Inv X pins σ H s->RelV x v->Vals xs us->r x xs H Q ->
  aa0 (aa5 X.prog X.w) X.A (call (.builtin id) (v::us)) (EP X pins σ Q) X.xe s
section
variable {a b:Expr}{ta tb:TE}
theorem yX.or{r r':R2}(h:yX X r)(h':yX X r'):yX X (λx y H Q=>r x y H Q\/r' x y H Q):=by
 intro value slice pins s σ H x y v u Q I rx ry q hs
 rcases q with q|q
 ·exact h value slice pins s σ H x y v u Q I rx ry q hs
 ·exact h' value slice pins s σ H x y v u Q I rx ry q hs
theorem tU{r:R2}(hr:yX X r)(ha:PE X a ta)(hb:PE X b tb)(hs:oF b:=by exact λ_ _=>rfl):PE X (.Subscript a b pos) (YC r ta tb):=by
 intro pins s σ H Q I h
 exact Kb (Qu ha hb I h λv u s2 x y H2 I2 rx ry q=>hr a b pins s2 σ H2 x y v u Q I2 rx ry q (hs _ _))
def X3(K:Frag):R2:=λx y H Q=>∃p xs i v,x=.ref p/\y=.int i/\gq K H p xs/\yY xs i=some v/\Q v H
def EB(K:Frag):R2:=λx y H Q=>∃p xs i v,x=.ref p/\y=.int i/\el K H p xs/\yY xs i=some v/\Q v H
def X4:R2:=λx y H Q=>∃z i c,x=.str z/\y=.int i/\z.length<=sizeLine/\yY z.cps.toList i=some c/\Q (.str ⟨#[c]⟩) H
theorem B8:yX X (X3 X.K):=by
 intro value slice pins s σ H x y v u Q I rx ry h hs
 obtain⟨p,xs,i,z,rfl,rfl,hq,he,q⟩:=h
 cases rx
 obtain⟨t,rfl⟩:=ry
 obtain⟨its,r,pl,hz⟩:=I.list hq
 obtain⟨j,h1,h2,h3,h4,h5⟩:=vO he
 obtain⟨w,ew,ED⟩:=r.get h2
 have hl:=r.length
 have hn:=qk
 have fin:EP X pins σ Q w s:=⟨z,H,I,ED,q⟩
 by_cases h0:0<=i
 ·have hj:i.toNat=j:=by
   rw[l_ h0 h5] at h1
   exact cL h1
  exact item_listR pl.isList h0 (by lia) (by rw[hj];simpa using ew) fin hs
 ·have hj:(i+(its.toArray.size:Int)).toNat=j:=by
   rw[Vr (by lia) h4] at h1
   rw[aD,<-hl]
   exact cL h1
  exact qL (x:=w) pl.isList.typeIs slot_list_getitem.lookup
   (wpAny_getItem_list_neg (Q:=λr s'=>r=w/\EP X pins σ Q r s') pl.isList (by lia) (by rw[aD]<;>lia) (by lia) (by rw[hj];simpa using ew) ⟨rfl,fin⟩) hs
theorem tM:yX X (EB X.K):=by
 intro value slice pins s σ H x y v u Q I rx ry h hs
 obtain⟨p,xs,i,z,rfl,rfl,hq,he,q⟩:=h
 cases rx
 obtain⟨t,rfl⟩:=ry
 obtain⟨its,r,pl,hz⟩:=I.tuple hq
 obtain⟨j,h1,h2,h3,h4,h5⟩:=vO he
 obtain⟨w,ew,ED⟩:=r.get h2
 have hl:=r.length
 have hn:=qk
 have fin:EP X pins σ Q w s:=⟨z,H,I,ED,q⟩
 exact qL (x:=w) pl.typeIs slot_tuple_getitem.lookup
  (getItem_tuple (j:=j) (Q:=λr s'=>r=w/\EP X pins σ Q r s') pl (by lia) (by lia) (by rw[aD,<-hl];exact h1) (by simpa using ew) ⟨rfl,fin⟩) hs
theorem RM:yX X X4:=by
 intro value slice pins s σ H x y v u Q I rx ry h hs
 obtain⟨z,i,c,rfl,rfl,hz,he,q⟩:=h
 obtain⟨t,rfl⟩:=rx
 obtain⟨t',rfl⟩:=ry
 obtain⟨j,h1,h2,h3,h4,h5⟩:=vO he
 have hl:z.cps.toList.length=z.length:=by simp[Str.length]
 rw[hl] at h1 h4 h5
 have hn:=qk
 exact tail_any (typeIs_str s z t) slot_str_getitem.lookup (getItem_str (c:=c) (by
  have e1:decide (i < -(2 ^ 63:Int))=false:=aY (by lia)
  have e2:decide (i>=2 ^ 63)=false:=aY (by lia)
  rw[e1,e2,xB]) (by rw[h1];simpa using h2) ⟨.str ⟨#[c]⟩,H,I.tok _,⟨_,rfl⟩,q⟩) hs
def rIx(K:Frag):R2:=λx y H Q=>X3 K x y H Q\/EB K x y H Q\/X4 x y H Q
theorem RL:yX X (rIx X.K):=B8.or (tM.or RM)
theorem AG(its:List Value)(n j:Nat)(u:Value):Obj.mapSeq (·.setIfInBounds j u) {cls:=.type "list",data:=.seq its.toArray n}={cls:=.type "list",data:=.seq (its.set j u).toArray n}:=by
 simp[Obj.mapSeq]
theorem Inv.lst{pins:aP7}{σ:St}{H:Hp}{s:aa1}{p:Addr}{xs:List V}(I:Inv X pins σ H s)(h:H p=some (.lst xs)) :
  ∃(its:List Value) (n:Nat),Vals xs its/\s.heap.get? p=some {cls:=.type "list",data:=.seq its.toArray n}/\xs.length<=sizeLine:=by
 obtain⟨z,its,n,r,e⟩:=I.cN p _ h
 exact⟨its,n,r,e,z⟩
theorem Inv.R5{p:Addr}{n':Nat}{f:Obj->Obj}(I:Inv X pins σ H s)(h:H p=some (.lst xs))
  (ho:s.heap.get? p=some {cls:=.type "list",data:=.seq its.toArray n}) (hf:f {cls:=.type "list",data:=.seq its.toArray n}={cls:=.type "list",data:=.seq its'.toArray n'}) (r:Vals ys its') (hz:ys.length<=sizeLine) (t:Nat) :
  Inv X pins σ (upd H p (.lst ys)) {s with heap:=s.heap.update p f,toks:=t}:=by
 have e:(s.heap.update p f).get? p=some {cls:=.type "list",data:=.seq its'.toArray n'}:=by
  rw[dy f ho (by rw[hf]<;>rfl),hf]
 refine I.write (x:=p) (e:=p) (by rw[h];trivial) (.inl rfl) (λb u hb q=>(bZ _ _ (cR hb)).trans q) ⟨_,e⟩ ?_
 exact⟨hz,its',n',r,e⟩
def Pn:V->V->V->Hp->(Hp->Prop)->Prop:=λo i v H Q=>∃p xs k j,o=.ref p/\i=.int k/\H p=some (.lst xs)/\LV xs.length k=some j/\Q (upd H p (.lst (xs.set j v)))
theorem Jd:Ki X Pn:=by
 intro pins s σ H o i v ov iv u Q I ro ri rv h
 obtain⟨p,xs,k,j,rfl,rfl,hp,hj,q⟩:=h
 cases ro
 obtain⟨t,rfl⟩:=ri
 obtain⟨its,n,r,ho,hz⟩:=I.lst hp
 obtain⟨h1,h2,h3,h4⟩:=B7 hj
 have hl:=r.length
 have hn:=qk
 have I':Inv X pins σ (upd H p (.lst (xs.set j v))) {s with heap:=s.heap.update p (Obj.mapSeq (·.setIfInBounds j u))}:=
  I.R5 hp ho (AG its n j u) (r.set rv j) (by rw[c8];exact hz) s.toks
 by_cases h0:0<=k
 ·have hk:k.toNat=j:=by
   rw[l_ h0 h4] at h1
   exact cL h1
  exact PySem.W.ki_setAt ho h0 (by lia) (by rw[aD,<-hl];exact h4) (by rw[hk];exact⟨_,I',q⟩)
 ·have hk:(k+(its.toArray.size:Int)).toNat=j:=by
   rw[Vr (by lia) h3] at h1
   rw[aD,<-hl]
   exact cL h1
  exact PySem.W.ki_setBack ho (by lia) (by rw[aD,<-hl];exact h3) (by lia) (by rw[hk];exact⟨_,I',q⟩)
theorem xo(lo hi:Option Int)(n:Nat):(ac6 lo hi none n).1=((HT.fQ n 0 lo:Nat):Int)/\(ac6 lo hi none n).2.1=((HT.fQ n n hi:Nat):Int)/\(ac6 lo hi none n).2.2=1:=by
 refine⟨?_,?_,rfl⟩
 ·cases lo with
  |none=>simp[ac6,HT.fQ]
  |some i=>
   simp only[ac6,HT.fQ,Option.getD_none,show(1:Int) > 0 by decide,jE]
   by_cases h:i<0
   ·simp only[h,jE]<;>lia
   ·simp only[h,pS]<;>lia
 ·cases hi with
  |none=>simp[ac6,HT.fQ]
  |some i=>
   simp only[ac6,HT.fQ,Option.getD_none,show(1:Int) > 0 by decide,jE]
   by_cases h:i<0
   ·simp only[h,jE]<;>lia
   ·simp only[h,pS]<;>lia
theorem uN(its:List Value)(lo hi:Option Int):slicePick its.toArray lo hi none=((its.drop (HT.fQ its.length 0 lo)).take (HT.fQ its.length its.length hi-HT.fQ its.length 0 lo)).toArray:=by
 obtain⟨h1,h2,h3⟩:=xo lo hi its.toArray.size
 unfold slicePick
 rw[h1,h2,h3]
 simp only[sliceRange_one,pick_run,aD]<;>rfl
def X8(K:Frag):V->Option Int->Option Int->Hp->VK->Prop:=λx lo hi H Q=>∃a xs,x=.ref a/\gq K H a xs/\∀p,H p=none->Q (.ref p) (upd H p (.lst (nF xs lo hi)))
theorem NJ:EY X (X8 X.K):=by
 intro pins s σ H x v vl vu lo hi sl Q I rx hs pl pu h
 obtain⟨a,xs,rfl,hx,q⟩:=h
 cases rx
 obtain⟨its,r,ht,hz⟩:=I.list hx
 have hlen:=r.length
 refine⟨"list",_,slot_list_getitem.lookup,ht.isList.typeIs,?_⟩
 refine wpAny_getItem_list_slice ht.isList hs pl pu .none (by simp) ?_ (by rw[aD]<;>lia)
 rw[uN,<-hlen]
 refine⟨.ref s.heap.objs.size,_,I.laid (t':=s.toks) (o:=.lst (nF xs lo hi)) (λb ob q=>ae _ q) (au _) ?_,rfl,q _ (I.cN.fresh (au _))⟩
 exact⟨aA (qx xs lo hi) hz,_,0,(r.drop (HT.fQ xs.length 0 lo)).take (HT.fQ xs.length xs.length hi-HT.fQ xs.length 0 lo),aG _ rfl⟩
def nv:V->Bool
 |.non=>true
 |.bl _=>true
 |.int _=>true
 |.str _=>true
 |_=>false
noncomputable def F2:V->V->Bool
 |.non,.non=>true
 |.bl a,.bl b=>a == b
 |.bl a,.int b=>(if a then 1 else 0) == b
 |.int a,.bl b=>a == (if b then 1 else 0)
 |.int a,.int b=>a == b
 |.str a,.str b=>a == b
 |_,_=>false
theorem zU{y:V}(ry:RelV y u)(rx:RelV x v)(fy:nv y=true)(fx:nv x=true):SeqAt.EqAt A s u v (F2 y x):=by
 cases y with
 |non=>
  cases ry
  cases x with
  |non=>cases rx;exact SeqAt.EqAt.same _
  |bl b=>cases rx;exact SeqAt.EqAt.none_bool b
  |int b=>obtain⟨t,rfl⟩:=rx;exact SeqAt.EqAt.none_int b t
  |str b=>obtain⟨t,rfl⟩:=rx;exact SeqAt.EqAt.none_str b t
  |_=>exact absurd (show false=true from fx) aH
 |bl a=>
  cases ry
  cases x with
  |non=>cases rx;exact SeqAt.EqAt.bool_none a
  |bl b=>cases rx;exact SeqAt.EqAt.bool_bool a b
  |int b=>obtain⟨t,rfl⟩:=rx;exact SeqAt.EqAt.bool_int a b t
  |str b=>obtain⟨t,rfl⟩:=rx;exact SeqAt.EqAt.bool_str a b t
  |_=>exact absurd (show false=true from fx) aH
 |int a=>
  obtain⟨t',rfl⟩:=ry
  cases x with
  |non=>cases rx;exact SeqAt.EqAt.int_none a t'
  |bl b=>cases rx;exact SeqAt.EqAt.int_bool a t' b
  |int b=>obtain⟨t,rfl⟩:=rx;exact SeqAt.EqAt.int_int a t' b t
  |str b=>obtain⟨t,rfl⟩:=rx;exact SeqAt.EqAt.int_str a t' b t
  |_=>exact absurd (show false=true from fx) aH
 |str a=>
  obtain⟨t',rfl⟩:=ry
  cases x with
  |non=>cases rx;exact SeqAt.EqAt.str_none a t'
  |bl b=>cases rx;exact SeqAt.EqAt.str_bool a t' b
  |int b=>obtain⟨t,rfl⟩:=rx;exact SeqAt.EqAt.str_int a t' b t
  |str b=>obtain⟨t,rfl⟩:=rx;exact SeqAt.EqAt.str_str a t' b t
  |_=>exact absurd (show false=true from fx) aH
 |_=>exact absurd (show false=true from fy) aH
def zV(x:V)(u:Value):Bool:=match u with
 |.none=>F2 .non x
 |.bool b=>F2 (.bl b) x
 |.int i _=>F2 (.int i) x
 |.str z _=>F2 (.str z) x
 |_=>false
theorem F1{y:V}(r:RelV y u)(f:nv y=true):zV x u=F2 y x:=by
 cases y with
 |non=>cases r;rfl
 |bl b=>cases r;rfl
 |int i=>obtain⟨t,rfl⟩:=r;rfl
 |str z=>obtain⟨t,rfl⟩:=r;rfl
 |_=>exact absurd (show false=true from f) aH
theorem oG{x:V}:∀{xs:List V}{us:List Value},Vals xs us->xs.all nv=true->us.any (zV x)=xs.any λy=>F2 y x
 |_,_,.nil,_=>rfl
 |y::xs,u::us,.cons r t,f=>by
  rw[aB,ay] at f
  rw[iA,iA,F1 r f.1,oG t f.2]
theorem l7{A:ab4}{s:aa1}{x:V}{v:Value}(rx:RelV x v)(fx:nv x=true):∀{xs:List V}{us:List Value},Vals xs us->xs.all nv=true->∀u∈us,SeqAt.EqAt A s u v (zV x u)
 |_,_,.nil,_=>λu hu=>by cases hu
 |y::xs,u::us,.cons r t,f=>λu' hu=>by
  rw[aB,ay] at f
  rcases aN.mp hu with rfl|hu
  ·rw[F1 r f.1];exact zU r rx f.1 fx
  ·exact l7 rx fx t f.2 u' hu
def ZI(x:V)(xs:List V):Bool:=xs.any λy=>F2 y x
def rIn(K:Frag)(neg:Bool):R2:=λx y H Q=>∃p xs,y=.ref p/\(gq K H p xs\/el K H p xs)/\nv x=true/\xs.all nv=true/\Q (.bl (if neg then !ZI x xs else ZI x xs)) H
theorem Eh:iX X (compareOp .In) (rIn X.K false):=by
 intro pins s σ H x y v u Q I rx ry h
 obtain⟨p,xs,rfl,hq,fx,fs,q⟩:=h
 cases ry
 rcases hq with hq|hq
 ·obtain⟨its,r,pl,hz⟩:=I.list hq
  refine SeqAt.in_listAt (zV x) pl.isList (λw hw=>l7 rx fx r fs w (by simpa using hw)) ⟨.bl _,H,I,rfl,?_⟩
  rw[show its.toArray.any (zV x)=its.any (zV x) by simp,oG r fs]
  exact q
 ·obtain⟨its,r,pl,hz⟩:=I.tuple hq
  refine SeqAt.in_tupleAt (zV x) pl (λw hw=>l7 rx fx r fs w (by simpa using hw)) ⟨.bl _,H,I,rfl,?_⟩
  rw[show its.toArray.any (zV x)=its.any (zV x) by simp,oG r fs]
  exact q
theorem w6:iX X (compareOp .NotIn) (rIn X.K true):=by
 intro pins s σ H x y v u Q I rx ry h
 obtain⟨p,xs,rfl,hq,fx,fs,q⟩:=h
 cases ry
 rcases hq with hq|hq
 ·obtain⟨its,r,pl,hz⟩:=I.list hq
  refine SeqAt.notIn_listAt (zV x) pl.isList (λw hw=>l7 rx fx r fs w (by simpa using hw)) ⟨.bl _,H,I,rfl,?_⟩
  rw[show its.toArray.any (zV x)=its.any (zV x) by simp,oG r fs]
  exact q
 ·obtain⟨its,r,pl,hz⟩:=I.tuple hq
  refine SeqAt.notIn_tupleAt (zV x) pl (λw hw=>l7 rx fx r fs w (by simpa using hw)) ⟨.bl _,H,I,rfl,?_⟩
  rw[show its.toArray.any (zV x)=its.any (zV x) by simp,oG r fs]
  exact q
theorem w8:iX X (compareOp .NotIn) (λx y H Q=>∃i j,x=.str i/\y=.str j/\Q (.bl (!(!(Builtin.Str.occurrences j i 0 j.length 1).isEmpty))) H):=by
 intro pins s σ H x y v u Q I rx ry h
 obtain⟨i,j,rfl,rfl,q⟩:=h
 obtain⟨t,rfl⟩:=rx
 obtain⟨t',rfl⟩:=ry
 exact notIn_str ⟨.bl _,H,I,rfl,q⟩
theorem vV:dQ X (.builtin "len") (λxs H Q=>∃p ys,xs = [.ref p]/\(gq X.K H p ys\/el X.K H p ys)/\Q (.int ys.length) H):=by
 intro pins s σ H xs us Q I r h
 obtain⟨p,ys,rfl,hq,q⟩:=h
 obtain⟨u,rfl,rx⟩:=uz r
 cases rx
 have hn:=qk
 rcases hq with hq|hq
 ·obtain⟨its,r',pl,hz⟩:=I.list hq
  have hlen:=r'.length
  exact Calls.call_len_list pl.isList (by simp only[aD]<;>lia) ⟨.int ys.length,H,I.tok _,⟨s.toks+1,by rw[aD,hlen]⟩,q⟩
 ·obtain⟨its,r',pl,hz⟩:=I.tuple hq
  have hlen:=r'.length
  exact len_tuple pl (by simp only[aD]<;>lia) ⟨.int ys.length,H,I.tok _,⟨s.toks+1,by rw[aD,hlen]⟩,q⟩
theorem vW:dQ X (.builtin "len") (λxs H Q=>∃z,xs = [.str z]/\z.length<=sizeLine/\Q (.int z.length) H):=by
 intro pins s σ H xs us Q I r h
 obtain⟨z,rfl,hz,q⟩:=h
 obtain⟨u,rfl,t,rfl⟩:=uz r
 have hn:=qk
 exact len_str (by lia) ⟨.int z.length,H,I.tok _,⟨_,rfl⟩,q⟩
theorem dQ.or{f:Value}{r r':List V->Hp->VK->Prop}(h:dQ X f r)(h':dQ X f r'):dQ X f (λxs H Q=>r xs H Q\/r' xs H Q):=by
 intro pins s σ H xs us Q I rs q
 rcases q with q|q
 ·exact h pins s σ H xs us Q I rs q
 ·exact h' pins s σ H xs us Q I rs q
theorem vX:dQ X (.type "list") (λxs H Q=>∃p ys,xs = [.ref p]/\(gq X.K H p ys\/el X.K H p ys)/\∀l,H l=none->Q (.ref l) (upd H l (.lst ys))):=by
 intro pins s σ H xs us Q I r h
 obtain⟨p,ys,rfl,hq,q⟩:=h
 obtain⟨u,rfl,rx⟩:=uz r
 cases rx
 have fin:∀(its:List Value),Vals ys its->ys.length<=sizeLine->∀(h':Heap) (c':Nat),(∀b o',s.heap.get? b=some o'->h'.get? b=some o') ->
   h'.get? s.heap.objs.size=some {cls:=.type "list",dict:=none,data:=.seq its.toArray c',slots:=#[]}->EP X pins σ Q (.ref s.heap.objs.size) {s with heap:=h'}:=λits r' hz h' c' kp e=>
  ⟨.ref s.heap.objs.size,_,I.laid (t':=s.toks) kp (au _) (show dI X.prog X.w _ h' _ (.lst ys) from⟨hz,its,c',r',e⟩),rfl,q _ (I.cN.fresh (au _))⟩
 rcases hq with hq|hq
 ·obtain⟨its,r',pl,hz⟩:=I.list hq
  have hlen:=r'.length
  obtain⟨o,ho,hc,n,hd⟩:=pl.isList
  exact call_list_seq p (.inl rfl) ho hc hd (λh' c' kp e=>fin its r' hz h' c' kp e) (by simp only[aD]<;>lia)
 ·obtain⟨its,r',pl,hz⟩:=I.tuple hq
  have hlen:=r'.length
  obtain⟨o,ho,hc,n,hd⟩:=pl
  exact call_list_seq p (.inr rfl) ho hc hd (λh' c' kp e=>fin its r' hz h' c' kp e) (by simp only[aD]<;>lia)
theorem uD:dQ X (.type "tuple") (λxs H Q=>∃p ys,xs = [.ref p]/\((gq X.K H p ys/\∀l,H l=none->Q (.ref l) (upd H l (.tup ys)))\/(el X.K H p ys/\Q (.ref p) H))):=by
 intro pins s σ H xs us Q I r h
 obtain⟨p,ys,rfl,h⟩:=h
 obtain⟨u,rfl,rx⟩:=uz r
 cases rx
 rcases h with ⟨hq,q⟩|⟨hq,q⟩
 ·obtain⟨its,r',pl,hz⟩:=I.list hq
  have hlen:=r'.length
  refine call_tuple_list pl.isList (λh' kp=>?_) (by simp only[aD]<;>lia)
  have I1:Inv X pins σ H {s with heap:=h'}:=I.kept (t':=s.toks) kp
  have I2:Inv X pins σ (upd H h'.objs.size (.tup ys)) {s with heap:=h'.push {cls:=.type "tuple",data:=.seq its.toArray}}:=
   I1.laid (t':=s.toks) (λb o e=>ae _ e) (au _) (show dI X.prog X.w _ _ _ (.tup ys) from⟨hz,its,r',UM _ _⟩)
  exact⟨.ref h'.objs.size,_,I2,rfl,q _ (I1.cN.fresh (au _))⟩
 ·obtain⟨its,r',pl,hz⟩:=I.tuple hq
  exact call_tuple_same pl ⟨.ref p,H,I,rfl,q⟩
def Z6(K:Frag)(T:String)(x:V)(H:Hp):Prop:=match x with
 |.str _=>T="str"
 |.int _=>T="int"
 |.ref p=>(T="list"/\∃xs,gq K H p xs)\/(T="tuple"/\∃o,K.lookup p=some o/\o.cls=.type "tuple"/\o.dict=none) \/
   (T="dict"/\((∃kvs,H p=some (.dK kvs))\/∃kvs,H p=some (.dT kvs)))\/(T="set"/\∃S n,H p=some (.set S n))
 |_=>False
theorem Jz(I:Inv X pins σ H s)(r:RelV x v)(ty:Z6 X.K T x H) :
  s.TypeIs v T/\∀a,v=.ref a->∃ob,s.heap.get? a=some ob/\ob.dict=none:=by
 cases x with
 |str z=>
  obtain⟨t,rfl⟩:=r
  cases (show T="str" from ty)
  exact⟨typeIs_str s z t,λ_ e=>nomatch e⟩
 |int i=>
  obtain⟨t,rfl⟩:=r
  cases (show T="int" from ty)
  exact⟨typeIs_int s i t,λ_ e=>nomatch e⟩
 |ref p=>
  cases r
  rcases ty with ⟨rfl,xs,hq⟩|⟨rfl,o,hk,hc,hd⟩|⟨rfl,hk⟩|⟨rfl,S,n,hk⟩
  ·obtain⟨its,_,pl,_⟩:=I.list hq
   refine⟨pl.isList.typeIs,λa e=>?_⟩
   cases e
   obtain⟨o,n,e,c,hd,_⟩:=pl
   exact⟨o,e,hd⟩
  ·refine⟨⟨o,I.nO p o hk,hc⟩,λa e=>?_⟩
   cases e
   exact⟨o,I.nO _ o hk,hd⟩
  ·have z:∃o,s.heap.get? p=some o/\o.ExactDict:=by
    rcases hk with ⟨kvs,hk⟩|⟨kvs,hk⟩
    ·obtain⟨_,_,_,_,o,_,_,e,ex,_⟩:=I.cN p _ hk
     exact⟨o,e,ex⟩
    ·obtain⟨_,_,_,_,o,_,_,e,ex,_⟩:=I.cN p _ hk
     exact⟨o,e,ex⟩
   obtain⟨o,e,ex⟩:=z
   refine⟨⟨o,e,ex.1⟩,λa e2=>?_⟩
   cases e2
   exact⟨o,e,ex.2.1⟩
  ·obtain⟨o,_,_,_,e,ex,_⟩:=I.cN p _ hk
   refine⟨⟨o,e,ex.1⟩,λa e2=>?_⟩
   cases e2
   exact⟨o,e,ex.2.1⟩
 |_=>exact False.elim ty
def Yv(K:Frag)(T:String)(r:V->List V->Hp->VK->Prop)(to:TE):TE:=λσ H Q=>to σ H λx H1=>Z6 K T x H1/\r x [] H1 Q
def tBM(K:Frag)(T:String)(r:V->List V->Hp->VK->Prop)(to:TE)(t:TA):TE:=λσ H Q=>to σ H λx H1=>Z6 K T x H1/\t σ H1 λxs H2=>r x xs H2 Q
variable {o:Expr}{es:List Expr}{to:TE}{t:TA}{name:Str}{apos du:Pos}{id:String}{r:V->List V->Hp->VK->Prop}
theorem SR(pa:PlainAttrs T)(slot:Slot T name id)(W3:typeOf (.builtin id)=pure (.type "method_descriptor"))(hm:Qk X id r)(ho:PE X o to)
  (tG:autoParam (ab3 o name X.env (eval o X.env)=eval o X.env) o0) (o4:autoParam ((apos.endLine == du.line)=true) o0):PE X (.Call (.Attribute o name apos) [] [] du) (Yv X.K T r to):=by
 intro pins s σ H Q I h
 refine wpAny_Call_method0_late tG o4 (cM (ho pins s σ H _ I h) λv s1 ⟨x,H1,I1,r1,ty,q1⟩=>?_)
 obtain⟨h1,h2⟩:=Jz I1 r1 ty
 exact⟨T,id,pa,slot,W3,h1,h2,jz rfl (PySem.evalArgs_none (hm pins s1 σ H1 x [] v [] Q I1 r1 .nil q1))⟩
theorem vp(pa:PlainAttrs T)(slot:Slot T name id)(W3:typeOf (.builtin id)=pure (.type "method_descriptor"))(hm:Qk X id r)(ho:PE X o to)(ha:PA X (e::es) t)
  (tG:autoParam (ab3 o name X.env (eval o X.env)=eval o X.env) o0)
  (Rk:autoParam (((ac5 du (aa9 (e::es) X.env)).all (λx=>!x.1)&&(backToKw du (keywordEach [] X.env)).all (λx=>x.1.isSome)
   && decide ((e::es).length+([]:List ac4).length+(if ([]:List ac4).isEmpty then 0 else 1)<30))=true) o0)
  (o4:autoParam ((apos.endLine == du.line)=true) o0) (hs:autoParam (aa9 (e::es) X.env=(false,eval e X.env)::aa9 es X.env) o0) (Ru:autoParam ((ac5 du (aa9 es X.env)).any (·.1)=false) o0) :
  PE X (.Call (.Attribute o name apos) (e::es) [] du) (tBM X.K T r to t):=by
 intro pins s σ H Q I h
 refine Vs tG Rk o4 rfl (cM (ho pins s σ H _ I h) λv s1 ⟨x,H1,I1,r1,ty,q1⟩=>?_)
 obtain⟨h1,h2⟩:=Jz I1 r1 ty
 refine⟨T,id,pa,slot,W3,h1,h2,?_⟩
 have hA:=ha du pins s1 σ H1 _ I1 q1
 rw[hs] at hA⊢
 refine jz (by show(false||(ac5 du (aa9 es X.env)).any (·.1))=false;rw[Ru]<;>rfl) (ky ?_)
 exact cM hA λus s2 ⟨vs,H2,I2,r2,q2⟩=>hm pins s2 σ H2 x vs v us Q I2 r1 r2 q2
end
def MtM(X:Cx)(id:String)(r:V->List V->Hp->VK->Prop):Prop:=
 ∀(pins:aP7) (s:aa1) (σ:St) (H:Hp) (x:V) (xs:List V) (v:Value) (us:List Value) (Q:VK),Inv X pins σ H s->RelV x v->Vals xs us->r x xs H Q ->
  aa0 (aa5 X.prog X.w) X.A (call (.builtin id) (v::us)) (EP X pins σ Q) X.xe s
theorem Vals.one:∀{x:V}{us:List Value},Vals [x] us->∃u,us = [u]/\RelV x u
 |_,_,.cons r .nil=>⟨_,rfl,r⟩
theorem Vals.two:∀{x y:V}{us:List Value},Vals [x,y] us->∃u v,us = [u,v]/\RelV x u/\RelV y v
 |_,_,_,.cons r (.cons q .nil)=>⟨_,_,rfl,r,q⟩
theorem Vals.zero:∀{us:List Value},Vals [] us->us = []
 |_,.nil=>rfl
theorem Vals.reverse(h:Vals xs us):Vals xs.reverse us.reverse:=by
 induction h with
 |nil=>exact .nil
 |cons r t ih=>rw[jA,jA];exact Vals.append ih (.cons r .nil)
theorem Vals.rep{xs:List V}{us:List Value}(h:Vals xs us):∀k:Nat,Vals (List.replicate k xs).flatten (List.replicate k us).flatten
 |0=>.nil
 |k+1=>by
  rw[dZ,dZ,gA,gA]
  exact Vals.append h (Vals.rep h k)
theorem foldl_rep(its:List Value):∀(k:Nat) (acc:List Value),
  List.foldl (λx1 x2=>x1++x2) acc.toArray (List.replicate k its.toArray)=(acc++(List.replicate k its).flatten).toArray
 |0,acc=>by simp
 |k+1,acc=>by
  have e:acc.toArray++its.toArray=(acc++its).toArray:=by simp
  have e2:(acc++its)++(List.replicate k its).flatten=acc++(List.replicate (k+1) its).flatten:=by
   rw[dZ,gA,dq]
  rw[<-e2,<-foldl_rep its k (acc++its),<-e,dZ,List.foldl_cons]
section
variable {l b:Addr}{zs:List V}
theorem Inv.aaJ{f:Array Value->Array Value}(I:Inv X pins σ H s)(hH:H l=some (.lst xs))
  (e:s.heap.get? l=some {cls:=.type "list",data:=.seq its.toArray n}) (hf:f its.toArray=its'.toArray) (hv:Vals ys its') (hz:ys.length<=sizeLine) :
  Inv X pins σ (upd H l (.lst ys)) {s with heap:=s.heap.update l (Obj.mapSeq f),toks:=t'}:=by
 have q:=PySem.IsL.update e f
 rw[hf] at q
 refine I.write (x:=l) (e:=l) (by rw[hH];exact trivial) (.inl rfl) (λb' u hb hu=>(bZ s.heap (Obj.mapSeq f) (cR hb)).trans hu) ⟨_,q⟩ ?_
 exact⟨hz,its',_,hv,q⟩
theorem Inv.Mf(I:Inv X pins σ H s)(hv:Vals ys its)(hz:ys.length<=sizeLine) :
  Inv X pins σ (upd H s.heap.objs.size (.lst ys)) {s with heap:=s.heap.push {cls:=.type "list",data:=.seq its.toArray},toks:=t'}:=
 I.laid (λ_ _ q=>ae _ q) (au _) ⟨hz,its,0,hv,aG _ rfl⟩
theorem Inv.fresh(I:Inv X pins σ H s):H s.heap.objs.size=none:=I.cN.fresh (au _)
theorem Inv.Mh(I:Inv X pins σ H s)(hH:H l=some (.lst xs)):xs.length<=sizeLine/\∃(its:List Value) (n:Nat),Vals xs its/\xs.length=its.length/\s.heap.get? l=some {cls:=.type "list",data:=.seq its.toArray n}:=by
 obtain⟨z,its,n,r,e⟩:=I.cN l _ hH
 exact⟨z,its,n,r,r.length,e⟩
theorem Hl(h:n<=sizeLine):Builtin.List.listTooLong n=false:=by
 unfold Builtin.List.listTooLong
 exact aY (by lia)
end
def xk:V->List V->Hp->VK->Prop:=λx vs H Q=>∃l xs y,x=.ref l/\vs = [y]/\H l=some (.lst xs)/\xs.length<sizeLine/\Q .non (upd H l (.lst (xs ++ [y])))
theorem i8:MtM X "list.append" xk:=by
 intro pins s σ H x vs v us Q I rx rv h
 obtain⟨l,xs,y,rfl,rfl,hH,hz,q⟩:=h
 cases rx
 obtain⟨u,rfl,ru⟩:=rv.one
 obtain⟨z,its,n,r,hl,e⟩:=I.Mh hH
 refine mW F.slot_list_append ⟨_,e,rfl⟩ F.entry_list_append (F.args_list_append_2 _ _) (PySem.list_append l its.toArray n u (by rw[aD];lia)) ⟨e,?_⟩
 refine⟨.non,_,I.aaJ (its':=its ++ [u]) hH e (by simp) (r.append (.cons ru .nil)) ?_,rfl,q⟩
 rw[ai,List.length_singleton]
 lia
def X1:R2:=λx y H Q=>∃l b xs zs,x=.ref l/\y=.ref b/\H l=some (.lst xs)/\H b=some (.lst zs)/\xs.length+zs.length<=sizeLine/\∀p,H p=none->Q (.ref p) (upd H p (.lst (xs++zs)))
theorem Sz:iX X (binaryOp .Add) X1:=by
 intro pins s σ H x y v u Q I rx ry h
 obtain⟨l,b,xs,zs,rfl,rfl,hH,hB,hz,q⟩:=h
 cases rx
 cases ry
 obtain⟨z,its,n,r,hl,e⟩:=I.Mh hH
 obtain⟨z2,l0,n2,r2,Zx,e2⟩:=I.Mh hB
 refine PySem.P.add_list e e2 ?_ (by rw[aD,aD];lia)
 have ea:its.toArray++l0.toArray=(its++l0).toArray:=by simp
 rw[ea]
 exact⟨.ref _,_,I.Mf (t':=s.toks) (r.append r2) (by rw[ai];lia),rfl,q _ I.fresh⟩
def X6:R2:=λx y H Q=>∃l k xs,x=.ref l/\y=.int k/\H l=some (.lst xs) /\ -(2 ^ 63)<=k/\k<2 ^ 63/\xs.length*k.toNat<=sizeLine /\
 ∀p,H p=none->Q (.ref p) (upd H p (.lst (List.replicate k.toNat xs).flatten))
theorem Mc(xs:List α)(k:Nat):(List.replicate k xs).flatten.length=k*xs.length:=by
 induction k with
 |zero=>simp
 |succ k ih=>rw[dZ,gA,ai,ih,Nat.succ_mul,Nat.add_comm]
theorem SJ:iX X (binaryOp .Mult) X6:=by
 intro pins s σ H x y v u Q I rx ry h
 obtain⟨l,k,xs,rfl,rfl,hH,h1,h2,hz,q⟩:=h
 cases rx
 obtain⟨t,rfl⟩:=ry
 obtain⟨z,its,n,r,hl,e⟩:=I.Mh hH
 have hlen:its.toArray.size*k.toNat<=sizeLine:=by rw[aD,<-hl];exact hz
 have ψ : ¬its.toArray.size*k.toNat > (2 ^ 63-1) / 8:=by
  have:(sizeLine:Nat)<=(2 ^ 63-1) / 8:=by decide
  lia
 have Gp : ¬ (!Builtin.List.listFitsIndex k)=true:=by
  rw[fitsIndex_both h1 h2]
  exact aH
 have WK : ¬Builtin.List.listTooLong (its.toArray.size*k.toNat)=true:=by
  rw[Hl hlen]
  exact aH
 have Gu:List.foldl (λx1 x2=>x1++x2) #[] (List.replicate (if its.toArray.isEmpty=true then 0 else k.toNat) its.toArray)=(List.replicate k.toNat its).flatten.toArray:=by
  have f0:∀m:Nat,List.foldl (λx1 x2=>x1++x2) #[] (List.replicate m its.toArray)=(List.replicate m its).flatten.toArray:=λm=>by
   have:=foldl_rep its m []
   rw[lE] at this
   exact this
  rw[f0]
  cases its with
  |nil=>simp
  |cons a r'=>rw[bJ (by simp)]
 refine wpAny_binaryOp_repeat_ref (T:="list") (U:="int") (by decide) ⟨_,e,rfl⟩ (λs'=>typeIs_int s' k t) noFill_list_mul F.fills_int_mul F.slot_int_rmul repeat_list F.slot_int_index.lookup
  (mW F.slot_int_rmul (typeIs_int s k t) F.entry_int_rmul (F.args_int_rmul_2 _ _) (int___rmul___int_list k t l its.toArray n)
   ⟨e,rfl,⟨_,e,rfl⟩,mW F.slot_list_mul ⟨_,e,rfl⟩ F.entry_list_mul (F.args_list_mul_2 _ _) (AutoListH.list___mul___list_int_3 l its.toArray n k t Gp ψ WK) ⟨e,?_⟩⟩)
 rw[Gu]
 exact⟨.ref _,_,I.Mf (t':=s.toks) (r.rep k.toNat) (by rw[Mc,Nat.mul_comm];exact hz),rfl,q _ I.fresh⟩
section
variable {prog:ab0}{w:ab1}{E:dw}
end
end L2
namespace Y8
open PySem PySem.W PySem.Calls PyProof.Rows
variable{P:Params}{h:Heap}{l:OpenLaw}{n:Nat}
theorem qW:∀(ns:List Int) (vs:List Value),WellAll P h vs (ns.map WData.int)->IntsAre vs ns:=by
 intro ns
 induction ns with
 |nil=>
  intro vs w
  rw[eR] at w
  cases w
  exact .nil
 |cons n ns ih=>
  intro vs w
  rw[aP] at w
  cases w with
  |cons a b=>
   cases a
   exact .cons _ _ (ih _ b)
theorem EG(hn:l.most=some n){args:List WData}{vals:List Value}
  (Lz:l.row.toRowW.claim.pre args=true) (hwl:WellAll P h vals args) :
  ∃a vs ns,vals = [Value.ref a]/\args = [WData.list (ns.map WData.int)]/\h.get? a=some {cls:=.type "list",data:=.seq vs.toArray}/\IntsAre vs ns/\ns.length<=n:=by
 have hsh:WShape.hasAll [] args [.list .int]=true:=(pre_splitW Lz).1
 have hc:l.pre.holds [] {args:=args}=true:=(pre_splitW Lz).2
 obtain⟨d,r,rfl,h1,h2⟩:=hasAllW_cons hsh
 obtain rfl:=hasAllW_nil h2
 obtain⟨xs,rfl,h3⟩:=hasW_list h1
 obtain⟨ns,rfl⟩:=items_int h3
 have hlen:ns.length<=n:=by
  unfold OpenLaw.pre at hc
  have h4:(WTm.not (.lt (.lit (.int (n:Int))) (.len (.arg 0)))).holds [] {args:= [.list (ns.map .int)]}=true:=by
   have h4:=(holds_andW hc).1
   rw[hn] at h4
   exact h4
  have h5:=condW_of h4 (w_not (w_lt w_lit (w_len_list (w_arg rfl))))
  rw[ah] at h5
  refine Nat.le_of_not_lt λq=>?_
  have q':(n:Int)<((ns.length:Nat):Int):=by lia
  first
   |(rw[aT q'] at h5;exact absurd h5 (by decide))
   |(simp at h5;lia)
 cases hwl with
 |cons w1 w2=>
  cases w2
  cases w1 with
  |list ho en=>exact⟨_,_,ns,rfl,rfl,ho,qW ns _ en,hlen⟩
theorem Ey(l:OpenLaw)(args:List WData):l.row.toRowW.claim.post args (.bool true) args=true:=
 postW_of (r:=l.row.toRowW) (X:=(true == true))
  (show WShape.has [] (.bool true) .bool=true by first|rfl|decide|simp[WShape.has,WShape.arms,WShape.armsAll])
  (show(WTm.eq .res (.lit (.bool true))).value [] {args:=args,res:=some (.bool true),after:=args}=some (.bool (true == true)) from w_eq_bool (w_res rfl) w_lit) rfl
theorem xN{q:ab0}{loose:lS7}{XP:(mG7)->Heap->Prop}{YP:ab1->Heap->Prop}{d:DefRec}
  (hn:l.most=some n) (WE:d.params.defaults = [])
  (call:∀(w:ab1) (s₀ s₁:aa1) (mg mb:mG7) (fa:Addr) (o:Obj) (pm cd doc:Value) (a:Addr) (vs:List Value) (ns:List Int),
   Ground q loose [] XP w s₀ mg mb s₁.heap->YP w s₁.heap ->
   s₁.heap.get? fa=some o->o.data=.func (docDef d.name d.params d.body d.scope pm cd doc)->s₁.heap.CodeRec cd d.name->mg d.name=some (.ref fa) ->
   s₁.heap.get? a=some {cls:=.type "list",data:=.seq vs.toArray}->IntsAre vs ns->ns.length<=n->s₁.gens = #[] ->
   ac3 (aa5 l.prog w) callerA (.call (.ref fa) ⟨[.ref a],[]⟩) (λr s'=>r=.ok (.ret (.bool true))/\OldK s₁.heap s'.heap/\s'.os=s₁.os/\AllBare s'.gens) s₁) :
  WalkO q loose XP YP l.row.toRowW d [] (λf vs=>PySem.call f vs):=by
 intro w s₀ s₁ mg mb G Y fa o pm cd doc dV kV ho hd Ai hD WL hg args vals as Lz afl hrd hwl hlo
 obtain rfl:dV=.none:=Dflts.none hD WE
 obtain rfl:kV=.none:=Dflts.noKw hD
 obtain⟨a,vs,ns,rfl,rfl,Rp,hints,hlen⟩:=EG hn Lz hwl
 refine enter_call (jD (call w s₀ s₁ mg mb fa o pm cd doc a vs ns G Y ho (fd_plain hd) Ai WL Rp hints hlen hg) λr s' hq=>?_)
 obtain⟨rfl,h2,h3,h4⟩:=hq
 exact⟨.inl ⟨.bool true,.bool true,[],rfl,λ_=>rfl,.bool true,Ey l _,λ_=>⟨List.Pairwise.nil,λ_ hm=>(nomatch hm)⟩⟩,h2,h3,h4⟩
section
variable {prog:ab0}{w:ab1}{A:ab4}{E:dw}{s:aa1}{K:Frag}
end
end Y8
namespace L2
open PySem PySem.Spec PyProof.Rows
variable{P prog:ab0}{w:ab1}{K:Frag}{mg:mG7}{X:Cx}{H H' H1 H2:Hp}{h h':Heap}{a dx C f:Addr}{o:Option V}{x m qual:Str}{e b value:Expr}{fs:List (Str×V)}{pins:aP7}{σ:St}{s:aa1}{ta tb te tv td ty:TE}{pos pos' rh p apos:Pos}{xs:List (List Key×Addr×Value)}{E Q:dw}{t:TA}{u:Value}{A:ab4}{es:List Expr}{CX:vK}{fd:ab5}{ps:lS7}{sp:Sp}{T:String}{y:V}{kvs:List (List Key×V)}{yO:List (TE×TE)}
theorem vF:∀{vs:List Value}{ns:List Int},IntsAre vs ns->Vals (ns.map V.int) vs
 |_,_,.nil=>.nil
 |_,_,.cons n t h=>.cons ⟨t,rfl⟩ (vF h)
def Qm(H:Hp):Prop:=∀b,H b=none\/∃o xs,H b=some (.Ad o (.lst xs))
theorem G2{mb:mG7}{k:Nat}{fa:Addr}{s₁:aa1}{vs:List Value}{ns:List Int}
  (KX:K.In s₁.heap) (hns:s₁.heap.Ns aa4 mg) (hb:s₁.heap.Ns builtinsNs mb) (hbb:∀x:Str,x≠"__name__"->mb x=aa6 x) (aad:s₁.heap.NoLimit) (hg:s₁.gens = #[])
  (ha:s₁.heap.get? a=some {cls:=.type "list",data:=.seq vs.toArray}) (hi:IntsAre vs ns) (hl:ns.length<=sizeLine) (hr:fi k callerA)
  (F:∀base:Heap,K.In base->base.Ns aa4 mg->jP P w K mg base CX k fa fd [x] sp) (Wx:∀(s:aa1) (u:Value),BindsTo s fd ⟨[u],[]⟩ [(x,u)])
  (Ap:∀H:Hp,Qm H->gq K H a (ns.map V.int)->sp [.ref a] H (λv _=>v=.bl true) λ_ _ _=>False)
  (μ:∀H e s',CX [] H s₁ (λ_ _ _=>False) e s'->False) :
  ac3 (aa5 P w) callerA (.call (.ref fa) ⟨[.ref a],[]⟩) (λr s'=>r=.ok (.ret (.bool true))/\OldK s₁.heap s'.heap/\s'.os=s₁.os/\AllBare s'.gens) s₁:=by
 have rv:=vF hi
 have aaI:=hi.length
 have core:∀H:Hp,Qm H->gq K H a (ns.map V.int)->j4 P w H s₁.heap->(∀b,H b≠none->b=a)->(H a≠none->K.lookup a=none) ->
   ac3 (aa5 P w) callerA (.call (.ref fa) ⟨[.ref a],[]⟩) (λr s'=>r=.ok (.ret (.bool true))/\OldK s₁.heap s'.heap/\s'.os=s₁.os/\AllBare s'.gens) s₁:=by
  intro H hO hS cN hA hK
  have Bp:∀{b:Addr}{o:Obj},s₁.heap.get? b=some o->H b=none->(wG s₁.heap H).get? b=some o:=λe n=>Gq e n
  have XA:∀{b:Addr}{o:Obj}{es:Array DictEntry}{ep:Nat},s₁.heap.get? b=some o->o.data=.dict es ep->H b=none:=λ{b o es ep} e d=>by
   cases q:H b with
   |none=>rfl
   |some u=>
    have e':b=a:=hA b (by rw[q];simp)
    subst e'
    rw[ha] at e;cases e
    have d':Data.seq vs.toArray _=Data.dict es ep:=d
    cases d'
  have ZQ:∀{b:Addr}{m:mG7},s₁.heap.Ns b m->(wG s₁.heap H).Ns b m:=λ{b m} ⟨o,es,ep,e,d,r⟩=>⟨o,es,ep,Bp e (XA e d),d,r⟩
  have hKb:K.In (wG s₁.heap H):=λb o e=>Bp (KX b o e) (by
   cases q:H b with
   |none=>rfl
   |some u=>
    have e':b=a:=hA b (by rw[q];simp)
    subst e'
    rw[hK (by rw[q];simp)] at e;cases e)
  have hM:Mod K mg (wG s₁.heap H):=⟨hKb,ZQ hns,⟨mb,ZQ hb,hbb⟩,let ⟨mc,h1,h2⟩:=aad;⟨mc,ZQ h1,h2⟩⟩
  have e0:xH P w K mg (wG s₁.heap H) callerA [] s₁ H:=⟨rfl,hM,λb o e=>ME e,zj (DQ _ _),trivial,λb hb=>absurd (show b∈([]:List Addr) from hb) (by simp),cN,.of_eq hg⟩
  refine jD ((F _ hKb (ZQ hns)).run callerA [] s₁ H ⟨[.ref a],[]⟩ [.ref a] [.ref a] _ _ hr e0 (Wx s₁ (.ref a)) (.cons rfl .nil) (Ap H hO hS)) λr s' h=>?_
  cases r with
  |error e=>exact(μ H e s' h).elim
  |ok fl=>
   cases fl with
   |next=>exact False.elim h
   |brk=>exact False.elim h
   |cont=>exact False.elim h
   |ret u=>
    obtain⟨v,H',os,bare,un,wH,r',q⟩:=h
    have q':v=.bl true:=q
    subst q'
    obtain rfl:u=Value.bool true:=r'
    refine⟨rfl,OldK.of_keep λb o e=>?_,os,bare⟩
    cases q:H b with
    |none=>exact un.keep b o e q (by intro z;exact absurd (show b∈([]:List Addr) from z) (by simp)) (by simp)
    |some u=>
     rcases hO b with z|⟨ob,xs,z⟩
     ·rw[q] at z;cases z
     ·have z2:=un.qT b ob _ z
      obtain⟨e1,_⟩:=cN b _ z
      obtain⟨e2,_⟩:=wH b _ z2
      rw[e] at e1;cases e1
      exact e2
 cases hk:K.lookup a with
 |some o=>
  have e:=KX a o hk
  rw[ha] at e
  cases e
  refine core (λ_=>none) (λ_=>.inl rfl) (.inr ⟨_,vs.toArray,_,hk,rfl,rfl,rfl,by rw[aD,aaI];exact hl,by simpa using rv⟩) (λb u z=>by have z':(none:Option HO)=some u:=z;cases z') (λb z=>absurd rfl z) λz=>absurd rfl z
 |none=>
  refine core (λb=>if b=a then some (.Ad {cls:=.type "list",data:=.seq vs.toArray} (.lst (ns.map V.int))) else none) (λb=>?_) (.inl (.inr ⟨{cls:=.type "list",data:=.seq vs.toArray},bF rfl⟩)) (λb u z=>?_) (λb z=>?_) λ_=>hk
  ·by_cases hb:b=a
   ·exact .inr ⟨_,_,bF hb⟩
   ·exact .inl (bJ hb)
  ·by_cases hb:b=a
   ·have z':=(bF hb).symm.trans z
    cases z'
    subst hb
    exact⟨ha,by rw[ah];exact hl,vs,_,rv,ha⟩
   ·have z':=(bJ hb).symm.trans z
    cases z'
  ·by_cases hb:b=a
   ·exact hb
   ·exact absurd (bJ hb) z
theorem Ol{l:OpenLaw}{n k:Nat}{q:ab0}{loose:lS7}{XP:(mG7)->Heap->Prop}{YP:ab1->Heap->Prop}{d:DefRec}{K:Params->Frag}{CX:ab1->vK}{sp:ab1->Sp}
  (hn:l.most=some n) (Lu:n<=sizeLine) (WE:d.params.defaults = []) (hr:fi k callerA)
  (hY:∀(w:ab1) (h:Heap),YP w h->(K w.params).In h)
  (F:∀(w:ab1) (mg:mG7) (fa:Addr) (h:Heap),(K w.params).In h->h.Ns aa4 mg->mg d.name=some (.ref fa) ->
   ∃fd:ab5,(∀(s:aa1) (u:Value),BindsTo s fd ⟨[u],[]⟩ [(x,u)]) /\
    ∀base:Heap,(K w.params).In base->base.Ns aa4 mg->jP l.prog w (K w.params) mg base (CX w) k fa fd [x] (sp w))
  (Ap:∀(w:ab1) (H:Hp) (a:Addr) (ns:List Int),ns.length<=n->Qm H->gq (K w.params) H a (ns.map V.int)->sp w [.ref a] H (λv _=>v=.bl true) λ_ _ _=>False)
  (μ:∀(w:ab1) (H:Hp) (s:aa1) (e:Value) (s':aa1),CX w [] H s (λ_ _ _=>False) e s'->False) :
  WalkO q loose XP YP l.row.toRowW d [] (λf vs=>PySem.call f vs):=by
 refine Y8.xN hn WE λw s₀ s₁ mg mb fa o pm cd doc a vs ns G Y ho hd Ai WL Rp hints hlen hg=>?_
 have KX:=hY w _ Y
 obtain⟨fd,hb,hF⟩:=F w mg fa _ KX G.T.g WL
 exact G2 KX G.T.g G.T.b G.T.builtins G.T.nolimit hg Rp hints (aA hlen Lu) hr hF hb (λH hO hS=>Ap w H a ns hlen hO hS) λH e s'=>μ w H s₁ e s'
def B1(s:Stmt)(j:Nat):Stmt:=match s with
 |.ClassDef _ _ _ body _ _ _ _ _ _ _=>body.getD j (.Pass ⟨0,0,0,0⟩)
 |_=>.Pass ⟨0,0,0,0⟩
def gG(s:Stmt):Arguments:=match s with
 |.FunctionDef _ a _ _ _ _ _ _ _ _=>a
 |_=>{posonlyargs:= [],args:= [],vararg:=none,kwonlyargs:= [],kw_defaults:= [],kwarg:=none,defaults:= []}
def cJ(s:Stmt):List Stmt:=match s with
 |.FunctionDef _ _ b _ _ _ _ _ _ _=>b
 |_=> []
def aQ(s:Stmt):Scope:=match s with
 |.FunctionDef _ _ _ _ _ _ sc _ _ _=>sc
 |_=>{kind:=.function,names:= [],isGenerator:=false,isCoroutine:=false}
abbrev zp:vK:=λ_ _ _ _ _ _=>False
abbrev E0:XK:=λ_ _ _=>False
theorem XQ:g8 zp X E0:=λ_ _ _ _ _ _ _ h=>h.elim
structure Kg (K:Frag) (x qual:Str) (st:Stmt) (f:Addr) (fd:ab5):Prop where
 ex:∃(oc:Value) (od:Option Addr) (kV doc pm:Value) (an:Option Addr) (fT ct:Value) (AS:Array (Option Value)),
  fd=fnOf x qual (gG st) (cJ st) (aQ st) .none kV doc pm an fT ct/\K.lookup f=some ⟨oc,od,.func fd,AS⟩/\codeIn K fT qual=true
 kp:keepIn K (.ref f)=true
section
variable {base:Heap}
theorem Kg.ok{st:Stmt}{N:lS7}{k:Nat}(F:Kg K x qual st f fd)(S:eX N ps (aQ st))(len:∀vs H Q E,sp vs H Q E->vs.length=ps.length)
  (oZ:∀(fT:Value) (A:ab4) (outer:List Env) (s:aa1) (H:Hp) (vs:List V) (Q:VK) (E:XK),fi k (A.deeper (envOfC qual (aQ st) s.heap.objs.size f fT))->sp vs H Q E ->
   ∃t,nj (oN zp P w K mg base N qual (aQ st) f fT A outer s H E).O5 (cJ st) t/\t {nx:=λ_ H'=>Q .non H',rt:=Q} (start N vs) H):jP P w K mg base zp (k+1) f fd ps sp:=by
 obtain⟨oc,od,kV,doc,pm,an,fT,ct,AS,rfl,lk,Ai⟩:=F.ex
 refine OK lk Ai S len λA outer s H vs Q E hr Ap=>?_
 obtain⟨t,h,q⟩:=oZ fT A outer s H vs Q E hr Ap
 exact⟨t,h.O5,q⟩
theorem Kg.binds{st:Stmt}(F:Kg K x qual st f fd)
  (h:∀(kV doc pm:Value) (an:Option Addr) (fT ct:Value) (us:List Value),us.length=ps.length->bindArgs (fnOf x qual (gG st) (cJ st) (aQ st) .none kV doc pm an fT ct) ⟨us,[]⟩=pure (ps.zip us)):Binds K fd ps []:=by
 obtain⟨oc,od,kV,doc,pm,an,fT,ct,AS,rfl,lk,Ai⟩:=F.ex
 exact .all (h kV doc pm an fT ct)
theorem Ae{st:Stmt}{oc:Value}{od an:Option Addr}{AS:Array (Option Value)}{kV doc pm fT ct:Value}(l:K.lookup f=some ⟨oc,od,.func (fnOf x qual (gG st) (cJ st) (aQ st) .none kV doc pm an fT ct),AS⟩)
  (c:codeIn K fT qual=true) (k:keepIn K (.ref f)=true):Kg K x qual st f (fnOf x qual (gG st) (cJ st) (aQ st) .none kV doc pm an fT ct):=⟨⟨oc,od,kV,doc,pm,an,fT,ct,AS,rfl,l,c⟩,k⟩
end
theorem W4{k:Nat}(hr:fi k A):A.units+1<cLine:=mS (Nat.add_le_add_left (by decide:1<=64) _) hr.units
theorem pv(i:Nat)(hN:autoParam (X.N[i]?=some x) o0)(hv:UX X.env.scope x:=by first|exact Or.inl rfl|exact Or.inr (Or.inl rfl)|exact Or.inr (Or.inr rfl))(hd:autoParam ((x == ("__debug__":Str))=false) v0)
  (Ai:autoParam ((x == ("__classdict__":Str))=false) v0):PE X (.Name x pos) (EL i):=HR hN hv hd Ai
def iI(H H':Hp):Prop:=∀b o,H b=some o->H' b=some o
theorem iI.refl(H:Hp):iI H H:=λ_ _ h=>h
theorem iI.trans(a:iI H H1)(b:iI H1 H2):iI H H2:=λc o h=>b c o (a c o h)
section
variable (P:ab0) (w:ab1)
end
section
variable {o:HO}
end
section
variable {x e:Addr}{o':HO}
end
section
variable {fs Ga ex ex':List Addr}{h1 h2:Heap}{x e:Addr}{o:HO}
end
section
variable {σ:List (Option V)}
end
section
variable {a:Expr}
variable {tA Yu:TT}{rest:List Expr}
end
section
variable {xs ys:List V}
end
section
variable {st:Stmt}{rest:List Stmt}{t u:TS}
end
section
variable {tg:Expr}
end
section
variable {a c:Expr}{tc:TE}
end
section
variable {x:Addr}{mA:mG7}{name:Str}{v:Value}
end
section
variable {Ga:List (Str×V)}
end
section
variable {f:Str}{v:V}
end
section
variable {o:Expr}{f:Str}
end
section
variable {c:Value}{b:Bool}
end
section
variable {s':aa1}
end
section
variable {k:Nat}{yZ:List V}{ds:List Value}{E:XK}{o:Expr}
end
section
variable {k:Nat}{ks:lS7}{E:XK}{aaD:Pos}{o:Expr}{kws:List ac4}{tk:TA}{nm:Option Str}
variable {g:List Value->List Value->List Value}{gV:List V->List V->List V}
end
section
variable {id:String}{r:List V->Hp->VK->Prop}
end
section
variable {κ:Type} [DecidableEq κ]
noncomputable def mq(kvs:List (κ×V))(k:κ):Option V:=(kvs.find? λkv=>decide (kv.1=k)).map (·.2)
noncomputable def lJ(kvs:List (κ×V))(k:κ)(v:V):List (κ×V):=
 if (kvs.any λkv=>decide (kv.1=k))=true then kvs.map (λkv=>if kv.1=k then(kv.1,v) else kv) else kvs ++ [(k,v)]
theorem pI{p:κ×V}{r:List (κ×V)}{k:κ}(e:p.1=k):mq (p::r) k=some p.2:=by simp[mq,iM,e]
theorem pH{p:κ×V}{r:List (κ×V)}{k:κ}(e : ¬p.1=k):mq (p::r) k=mq r k:=by simp[mq,iM,e]
theorem yR(k:κ):∀kvs:List (κ×V),(kvs.any λkv=>decide (kv.1=k))=(mq kvs k).isSome
 | []=>rfl
 |p::r=>by
  rw[iA]
  by_cases e:p.1=k
  ·simp only[pI e,aT e,Bool.true_or,Option.isSome_some]
  ·rw[pH e,aY e,Bool.false_or];exact yR k r
theorem l6(kvs:List (κ×V))(k:κ)(v:V):(lJ kvs k v).length<=kvs.length+1:=by
 unfold lJ
 split
 ·rw[ah];omega
 ·rw[ai,aF,E9];omega
theorem pV.ki{u:Option Value}(r:pV o u):o.isSome=u.isSome:=by
 cases o with
 |none=>cases u with
  |none=>rfl
  |some _=>exact(show False from r).elim
 |some _=>cases u with
  |none=>exact(show False from r).elim
  |some _=>rfl
theorem KV.val{kvs:List (κ×V)}{vs:List (κ×Value)}(r:KV kvs vs)(k:κ):pV (mq kvs k) (valueAt vs k):=by
 unfold KV at r
 induction r with
 |nil=>exact True.intro
 | @cons p q ps qs h t ih=>
  obtain⟨h1,h2⟩:=h
  by_cases e:p.1=k
  ·have e':q.1=k:=h1.symm.trans e
   have b:valueAt (q::qs) k=some q.2:=by simp[valueAt,iM,e']
   rw[pI e,b];exact h2
  ·have e' : ¬q.1=k:=λz=>e (h1.trans z)
   have b:valueAt (q::qs) k=valueAt qs k:=by simp[valueAt,iM,e']
   rw[pH e,b];exact ih
theorem KV.any{kvs:List (κ×V)}{vs:List (κ×Value)}(r:KV kvs vs)(k:κ):(kvs.any λkv=>decide (kv.1=k))=vs.any λkv=>decide (kv.1=k):=by
 unfold KV at r
 induction r with
 |nil=>rfl
 |cons h t ih=>rw[iA,iA,ih,h.1]
theorem KV.TF{kvs:List (κ×V)}{vs:List (κ×Value)}(r:KV kvs vs)(k:κ)(ry:RelV y u) :
  KV (kvs.map λkv=>if kv.1=k then(kv.1,y) else kv) (vs.map λkv=>if kv.1=k then(kv.1,u) else kv):=by
 unfold KV at r⊢
 induction r with
 |nil=>exact .nil
 | @cons p q ps qs h t ih=>
  rw[aP,aP]
  refine .cons ?_ ih
  obtain⟨h1,h2⟩:=h
  by_cases e:p.1=k
  ·rw[bF e,bF (h1.symm.trans e)];exact⟨h1,ry⟩
  ·rw[bJ e,bJ (λz=>e (h1.trans z))];exact⟨h1,h2⟩
theorem KV.put{kvs:List (κ×V)}{vs:List (κ×Value)}(r:KV kvs vs)(k:κ)(ry:RelV y u):KV (lJ kvs k y) (stored vs k u):=by
 unfold lJ stored
 rw[r.any k]
 by_cases e:(vs.any λkv=>decide (kv.1=k))=true
 ·rw[bF e,bF e];exact r.TF k ry
 ·rw[bJ e,bJ e];exact Paired.snoc r ⟨rfl,ry⟩
theorem KV.keys{kvs:List (κ×V)}{vs:List (κ×Value)}(r:KV kvs vs):kvs.map (·.1)=vs.map (·.1):=by
 unfold KV at r
 induction r with
 |nil=>rfl
 |cons h t ih=>rw[aP,aP,ih,h.1]
theorem KV.length{kvs:List (κ×V)}{vs:List (κ×Value)}(r:KV kvs vs):kvs.length=vs.length:=PZ r
end
theorem tN{k:Key}(r:RelV (kV k) u):(cX P w).is k u=true:=by
 cases k with
 |inl i=>obtain⟨t,e⟩:=(show ∃t,u=Value.int i t from r);subst e;exact qD P w i t
 |inr x=>obtain⟨t,e⟩:=(show ∃t,u=Value.str x t from r);subst e;exact qE P w x t
theorem vg{P:ab0}{w:ab1}:∀{ks:List Key}{us:List Value},Vals (ks.map kV) us->ItemsAre (cX P w) ks us
 | [],_,r=>by rw[eR] at r;cases r;exact .nil
 |k::ks,_,r=>by
  rw[aP] at r
  cases r with
  |cons h t=>exact .cons (tN h) (vg t)
abbrev KT (H:Hp):List (List Key×V)->List (List Key×Addr×Value)->Prop:=Paired λp q=>p.1=q.1/\H q.2.1=some (.tup (p.1.map kV))/\RelV p.2 q.2.2
theorem KT.val(r:KT H kvs xs)(k:List Key):pV (mq kvs k) ((atKey xs k).map (·.2)):=by
 induction r with
 |nil=>exact True.intro
 | @cons p q ps qs h t ih=>
  obtain⟨h1,_,h2⟩:=h
  by_cases e:p.1=k
  ·have e':q.1=k:=h1.symm.trans e
   have b:atKey (q::qs) k=some q.2:=by simp[atKey,iM,e']
   rw[pI e,b];exact h2
  ·have e' : ¬q.1=k:=λz=>e (h1.trans z)
   have b:atKey (q::qs) k=atKey qs k:=by simp[atKey,iM,e']
   rw[pH e,b];exact ih
theorem KT.TF(r:KT H kvs xs)(k:List Key)(ry:RelV y u) :
  KT H (kvs.map λkv=>if kv.1=k then(kv.1,y) else kv) (xs.map (putAt k u)):=by
 induction r with
 |nil=>exact .nil
 | @cons p q ps qs h t ih=>
  rw[aP,aP]
  refine .cons ?_ ih
  obtain⟨h1,h2,h3⟩:=h
  unfold putAt
  by_cases e:p.1=k
  ·rw[bF e,bF (h1.symm.trans e)];exact⟨h1,h2,ry⟩
  ·rw[bJ e,bJ (λz=>e (h1.trans z))];exact⟨h1,h2,h3⟩
theorem KT.put(r:KT H kvs xs)(k:List Key){b:Addr}(hb:H b=some (.tup (k.map kV)))(ry:RelV y u) :
  KT H (lJ kvs k y) (storedH xs k b u):=by
 have e:(kvs.any λkv=>decide (kv.1=k))=(atKey xs k).isSome:=by
  rw[yR,(r.val k).ki,zl]
 unfold lJ storedH
 rw[e]
 by_cases q:(atKey xs k).isSome=true
 ·rw[bF q,bF q];exact r.TF k ry
 ·rw[bJ q,bJ q];exact Paired.snoc r ⟨rfl,hb,ry⟩
theorem KT.keeps(r:KT H kvs xs)(ht:∀b ys,H b=some (.tup ys)->H' b=some (.tup ys)):KT H' kvs xs:=
 Paired.R7 r λ_ _ z=>⟨z.1,ht _ _ z.2.1,z.2.2⟩
theorem Pp{u:HO}(ok:j4 P w H h)(e:Rd H a u):dI P w H h a u:=e.ok ok
theorem sX{kvs:List (Key×V)}(ok:j4 P w H h)(e:Rd H a (.dK kvs)):kvs.length<=sizeLine/\(a == ab6)=false/\∃vs,KV kvs vs/\h.DictOf (cX P w) a vs:=
 show dI P w H h a (.dK kvs) from Pp ok e
theorem yd{kvs:List (Key×V)}(ok:j4 P w H h)(e:H a=some (.dK kvs)):kvs.length<=sizeLine/\(a == ab6)=false/\∃vs,KV kvs vs/\h.DictOf (cX P w) a vs:=sX ok (.inl e)
theorem o8{ks:List Key}(ok:j4 P w H h)(e:H a=some (.tup (ks.map kV))):(tupleKind (cX P w)).is h ks a:=by
 obtain⟨_,its,r,o,h1,h2,n,h3⟩:=(show dI P w H h a (.tup (ks.map kV)) from ok a _ e)
 exact⟨o,its.toArray,n,h1,h2,h3,by simpa using vg r⟩
theorem u6(ok:j4 P w H h)(e:Rd H a (.dT kvs)):kvs.length<=sizeLine/\(a == ab6)=false /\
  ∃xs,KT H kvs xs/\h.DictOfH (tupleKind (cX P w)) a xs:=by
 obtain⟨z,y,xs,r,o,es,ep,h1,h2,h3,h4,h5⟩:=(show dI P w H h a (.dT kvs) from Pp ok e)
 refine⟨z,y,xs,r,o,es,ep,h1,h2,h3,h4,λx hx=>?_,h5⟩
 have all:∀{l:List (List Key×V)}{m:List (List Key×Addr×Value)},KT H l m->∀x∈m,(tupleKind (cX P w)).is h x.1 x.2.1:=by
  intro l m q
  induction q with
  |nil=>intro x hx;exact nomatch hx
  | @cons p q ps qs hq t ih=>
   intro x hx
   rcases aN.mp hx with e|hx
   ·subst e
    exact o8 ok (by rw[<-hq.1];exact hq.2.1)
   ·exact ih x hx
 exact all r x hx
theorem V8(ok:j4 P w H h)(e:H a=some (.dT kvs)):kvs.length<=sizeLine/\(a == ab6)=false /\
  ∃xs,KT H kvs xs/\h.DictOfH (tupleKind (cX P w)) a xs:=u6 ok (.inl e)
def pU(H:Hp)(a:Addr)(y:V)(r:Option V):Prop:=
 (∃kvs k,Rd H a (.dK kvs)/\y=kV k/\r=mq kvs k)\/∃kvs k b,Rd H a (.dT kvs)/\y=.ref b/\H b=some (.tup (k.map kV))/\r=mq kvs k
def Fe(H:Hp)(a:Addr)(y v:V)(H':Hp):Prop:=
 (∃kvs k,H a=some (.dK kvs)/\y=kV k/\kvs.length<sizeLine/\H'=upd H a (.dK (lJ kvs k v))) \/
 ∃kvs k b,H a=some (.dT kvs)/\y=.ref b/\H b=some (.tup (k.map kV))/\kvs.length<sizeLine/\H'=upd H a (.dT (lJ kvs k v))
theorem pU.k{H:Hp}{a:Addr}{kvs:List (Key×V)}{k:Key}(e:H a=some (.dK kvs)):pU H a (kV k) (mq kvs k):=.inl ⟨kvs,k,.inl e,rfl,rfl⟩
theorem Fe.k{H:Hp}{a:Addr}{kvs:List (Key×V)}{k:Key}{v:V}(e:H a=some (.dK kvs))(hl:kvs.length<sizeLine):Fe H a (kV k) v (upd H a (.dK (lJ kvs k v))):=.inl ⟨kvs,k,e,rfl,hl,rfl⟩
section
variable {v:V}{r:Value}
theorem Inv.big(I:Inv X pins σ H s):ab6<s.heap.objs.size:=by
 have h:aa4<s.heap.objs.size:=(I.mod.glob.keeps I.bk).lt
 exact Nat.lt_trans (by decide) h
theorem DB(hu:A.units+1<cLine)(I:Inv X pins σ H s)(g:pU H a y (some v))(ry:RelV y u)(h:∀w' s',Inv X pins σ H s'->RelV v w'->Q w' s') :
  aa0 (aa5 X.prog X.w) A (getItem (.ref a) u) Q E s:=by
 rcases g with ⟨kvs,k,e,ey,l⟩|⟨kvs,k,b,e,ey,eb,l⟩
 ·subst ey
  obtain⟨z,hd,vs,rel,dd⟩:=sX I.cN e
  obtain⟨w',hw,ED⟩:=pV.some_of (v:=v) (o:=valueAt vs k) (by rw[l];exact rel.val k)
  exact wpAny_getItem_of (tN ry) dd.mapOf hw (h w' _ (I.tok _) ED)
 ·subst ey
  cases (show u=Value.ref b from ry)
  obtain⟨z,hd,xs,rel,dd⟩:=u6 I.cN e
  obtain⟨w',hw,ED⟩:=pV.some_of (v:=v) (o:=(atKey xs k).map (·.2)) (by rw[l];exact rel.val k)
  obtain⟨p,hp,ZC⟩:=Vo.mp hw
  refine wpAny_getItem_heap (mX hu) (o8 I.cN eb) dd hp ?_
  rw[ZC]
  exact h w' _ (I.tok _) ED
theorem X_(hu:A.units+1<cLine)(I:Inv X pins σ H s)(g:pU H a y o)(ry:RelV y u)(h:∀s',Inv X pins σ H s'->Q (.bool o.isSome) s') :
  aa0 (aa5 X.prog X.w) A (compareOp .In u (.ref a)) Q E s:=by
 rcases g with ⟨kvs,k,e,ey,l⟩|⟨kvs,k,b,e,ey,eb,l⟩
 ·subst ey
  obtain⟨z,hd,vs,rel,dd⟩:=sX I.cN e
  refine wpAny_in_of (tN ry) hd dd.mapOf ?_
  rw[<- (rel.val k).ki,<-l]
  exact h _ (I.tok _)
 ·subst ey
  cases (show u=Value.ref b from ry)
  obtain⟨z,hd,xs,rel,dd⟩:=u6 I.cN e
  refine wpAny_in_heap (mX hu) (o8 I.cN eb) hd dd ?_
  have q:=(rel.val k).ki
  rw[zl] at q
  rw[<-q,<-l]
  exact h _ (I.tok _)
theorem K0(hu:A.units+1<cLine)(I:Inv X pins σ H s)(g:pU H a y o)(ry:RelV y u)(h:∀s',Inv X pins σ H s'->Q (.bool (!o.isSome)) s') :
  aa0 (aa5 X.prog X.w) A (compareOp .NotIn u (.ref a)) Q E s:=by
 rcases g with ⟨kvs,k,e,ey,l⟩|⟨kvs,k,b,e,ey,eb,l⟩
 ·subst ey
  obtain⟨z,hd,vs,rel,dd⟩:=sX I.cN e
  refine wpAny_notIn_of (tN ry) hd dd.mapOf ?_
  rw[<- (rel.val k).ki,<-l]
  exact h _ (I.tok _)
 ·subst ey
  cases (show u=Value.ref b from ry)
  obtain⟨z,hd,xs,rel,dd⟩:=u6 I.cN e
  refine wpAny_notIn_heap (mX hu) (o8 I.cN eb) hd dd ?_
  have q:=(rel.val k).ki
  rw[zl] at q
  rw[<-q,<-l]
  exact h _ (I.tok _)
theorem rG{t':Nat}{ob:HO}(I:Inv X pins σ H s)(mu:VC (H a))(hs:Heap.SameBut a s.heap h')(he:∃q,h'.get? a=some q)(new:dI X.prog X.w (upd H a ob) h' a ob) :
  Inv X pins σ (upd H a ob) {s with heap:=h',toks:=t'}:=
 I.write (x:=a) (e:=a) mu (.inl rfl) (λb q hb z=>(hs.2 b hb).trans z) he new
theorem wx{kvs:List (Key×V)}{vs:List (Key×Value)}(z:kvs.length<=sizeLine)(hd:(a == ab6)=false)(rel:KV kvs vs)(dd:h'.DictOf (cX P w) a vs) :
  dI P w H' h' a (.dK kvs):=⟨z,hd,vs,rel,dd⟩
theorem DG{Q:Unit->aa1->Prop}(hu:A.units+1<cLine)(I:Inv X pins σ H s)(g:Fe H a y v H')(ry:RelV y u)(rv:RelV v r)(h:∀s',Inv X pins σ H' s'->Q () s') :
  aa0 (aa5 X.prog X.w) A (setItem (.ref a) u r) Q E s:=by
 rcases g with ⟨kvs,k,e,ey,l,eH⟩|⟨kvs,k,b,e,ey,eb,l,eH⟩
 ·subst ey eH
  obtain⟨z,hd,vs,rel,dd⟩:=yd I.cN e
  have hz:vs.length<=sizeLine:=by rw[<-rel.length];exact z
  have hl:(lJ kvs k v).length<=sizeLine:=by have:=l6 kvs k v;omega
  refine wpAny_setItem_pairs (hsz:=hz) (tN ry) dd λh' JW hs=>h _ ?_
  have he:∃q,h'.get? a=some q:=let ⟨q,_,_,hq,_⟩:=JW;⟨q,hq⟩
  exact rG I (by rw[e];exact True.intro) hs he (wx hl hd (rel.put k rv) JW)
 ·subst ey eH
  cases (show u=Value.ref b from ry)
  obtain⟨z,hd,xs,rel,dd⟩:=V8 I.cN e
  have hz:xs.length<=sizeLine:=by rw[<-PZ rel];exact z
  have hl:(lJ kvs k v).length<=sizeLine:=by have:=l6 kvs k v;omega
  refine wpAny_setItem_heap (hsz:=hz) (mX hu) (o8 I.cN eb) dd λh' JW hs=>h _ ?_
  obtain⟨q,es,ep,hq,h2,h3,h4,_,h5⟩:=JW
  refine rG I (by rw[e];exact True.intro) hs ⟨q,hq⟩ ⟨hl,hd,_,(rel.put k eb rv).keeps λc ys ec=>?_,q,es,ep,hq,h2,h3,h4,h5⟩
  rw[bf (Xv ec e (λz=>nomatch z))]
  exact ec
end
section
variable {kvs:List (Key×V)}{k:Key}
theorem V3(I:Inv X pins σ H s)(e:Rd H a (.dK kvs))(h:∀t s',Inv X pins σ H s'->Q (.int kvs.length t) s'):aa0 (aa5 X.prog X.w) A (call (.builtin "len") [.ref a]) Q E s:=by
 obtain⟨z,hd,vs,rel,dd⟩:=sX I.cN e
 refine call_len_dict hd dd (by rw[<-rel.length];rw[EU] at z;omega) ?_
 rw[<-rel.length]
 exact h _ _ (I.tok _)
end
def Ql(i:Expr):Prop:=∀ov iv,subscripted i false ov iv=operate [ov,iv] (getItem ov iv)
theorem NS{env:Env}{slice:Expr}{id:String}
  (hl:typeLookup (.type T) "__getitem__"=pure (some (.builtin id))) (hs:Ql slice)
  (h:aa0 (aa5 prog w) A (eval value env) (λo s₁=>aa0 (aa5 prog w) A (eval slice env) (λi s₂=>s₂.TypeIs o T/\aa0 (aa5 prog w) A (getItem o i) Q E s₂) E s₁) E s) :
  aa0 (aa5 prog w) A (eval (.Subscript value slice pos) env) Q E s:=by
 refine Kb (eD h (λo s₁ h₁=>eD h₁ (λi s₂ h₂=>?_) λ_ _ x=>x) λ_ _ x=>x)
 obtain⟨hT,h₂⟩:=h₂
 unfold subscriptTail
 refine aa ?_
 rw[getitemInPython_of_ne hT.not_modules]
 refine aa (wpAny_specialOf hT hl ?_)
 have fin:aa0 (aa5 prog w) A (subscripted slice false o i) (λr s₃=>aa0 (aa5 prog w) A (letTemporaryGo value o r >>= λ_=>pure r) Q E s₃) E s₂:=by
  rw[hs o i]
  exact wpAny_operating (eD h₂ (λr s₃ h₃=>aa (wpAny_letTemporaryGo (ak h₃))) λ_ _ x=>x)
 first
  |exact ak (aa fin)
  |exact aa (ak (aa fin))
  |exact aa fin
theorem yb(I:Inv X pins σ H s)(g:pU H a y o):s.TypeIs (.ref a) "dict":=by
 rcases g with ⟨kvs,k,e,_,_⟩|⟨kvs,k,b,e,_,_,_⟩
 ·obtain⟨_,_,vs,_,dd⟩:=sX I.cN e
  exact dd.typeIs
 ·obtain⟨_,_,xs,_,dd⟩:=u6 I.cN e
  exact dd.typeIs
def Yy(td ty:TE):TE:=λσ H Q=>td σ H λx H1=>ty σ H1 λy H2=>∃a v,x=.ref a/\pU H2 a y (some v)/\Q v H2
def abo(ty td:TE):TE:=λσ H Q=>ty σ H λy H1=>td σ H1 λx H2=>∃a o,x=.ref a/\pU H2 a y o/\Q (.bl o.isSome) H2
def NU(ty td:TE):TE:=λσ H Q=>ty σ H λy H1=>td σ H1 λx H2=>∃a o,x=.ref a/\pU H2 a y o/\Q (.bl (!o.isSome)) H2
def Pt(td ty tv:TE):TS:=λD σ H=>tv σ H λv H1=>td σ H1 λx H2=>ty σ H2 λy H3=>∃a H4,x=.ref a/\Fe H3 a y v H4/\D.nx σ H4
section
variable {o i:Expr}
theorem MR(hu:X.A.units+1<cLine)(ho:PE X o td)(hi:PE X i ty)(hs:Ql i:=by exact λ_ _=>rfl):PE X (.Subscript o i pos) (Yy td ty):=by
 intro pins s σ H Q I h
 refine NS Ow.lookup hs (cM (ho pins s σ H _ I h) λu s1 ⟨x,H1,I1,rx,q1⟩=>cM (hi pins s1 σ H1 _ I1 q1) λiv s2 ⟨y,H2,I2,ry,a,v,ex,g,q2⟩=>?_)
 subst ex
 obtain rfl:u=Value.ref a:=rx
 exact⟨yb I2 g,DB hu I2 g ry λw' s3 I3 ED=>⟨v,H2,I3,ED,q2⟩⟩
theorem w9(hu:X.A.units+1<cLine)(hi:PE X i ty)(ho:PE X o td):PC X .In i o (abo ty td):=by
 intro pins s σ H Q I h
 refine cM (hi pins s σ H _ I h) λiv s1 ⟨y,H1,I1,ry,q1⟩=>cM (ho pins s1 σ H1 _ I1 q1) λu s2 ⟨x,H2,I2,rx,a,ov,ex,g,q2⟩=>?_
 subst ex
 obtain rfl:u=Value.ref a:=rx
 exact X_ hu I2 g ry λs3 I3=>⟨.bl ov.isSome,H2,I3,rfl,q2⟩
theorem Eo(hu:X.A.units+1<cLine)(hi:PE X i ty)(ho:PE X o td):PC X .NotIn i o (NU ty td):=by
 intro pins s σ H Q I h
 refine cM (hi pins s σ H _ I h) λiv s1 ⟨y,H1,I1,ry,q1⟩=>cM (ho pins s1 σ H1 _ I1 q1) λu s2 ⟨x,H2,I2,rx,a,ov,ex,g,q2⟩=>?_
 subst ex
 obtain rfl:u=Value.ref a:=rx
 exact K0 hu I2 g ry λs3 I3=>⟨.bl (!ov.isSome),H2,I3,rfl,q2⟩
theorem Nr(hu:X.A.units+1<cLine)(ho:PE X o td)(hi:PE X i ty)(hv:PE X value tv)(hs:ac2 value (some (.Subscript o i pos')) pos.line X.env=pure false) :
  PS X (.Assign [.Subscript o i pos'] value pos) (Pt td ty tv):=by
 intro pins s σ H D I h
 refine wpAny_Assign_Subscript (cM (hv pins s σ H _ I h) λr s1 ⟨v,H1,I1,rv,q1⟩=>cM (ho pins s1 σ H1 _ I1 q1) λu s2 ⟨x,H2,I2,rx,q2⟩=>cM (hi pins s2 σ H2 _ I2 q2) λiv s3 ⟨y,H3,I3,ry,a,H4,ex,g,q3⟩=>?_) hs
 subst ex
 obtain rfl:u=Value.ref a:=rx
 exact DG hu I3 g ry rv λs4 I4=>⟨σ,H4,I4,q3⟩
end
theorem yc(h:Heap)(hb:ab6<h.objs.size):dI P w H (h.push {cls:=.type "dict",data:=.dict #[]}) h.objs.size (.dK []):=
 ⟨cI _,cP.mpr (cR (aW hb)),[],.nil,Heap.DictOf.new h⟩
def Uh:TE:=λ_ H Q=>∀p,H p=none->Q (.ref p) (upd H p (.dK []))
theorem HL:PE X (.Dict [] [] pos) Uh:=λpins s σ H Q I h=>
 wpAny_Dict_empty ⟨.ref s.heap.objs.size,_,I.laid (a:=s.heap.objs.size) (o:=.dK []) (t':=s.toks) (λ_ _ q=>ae _ q) (au _) (yc s.heap I.big),rfl,h _ (I.cN.fresh (au _))⟩
def uj:List (TE×TE)->St->Hp->(List (V×V)->Hp->Prop)->Prop
 | [],_,H,Q=>Q [] H
 |(tk,tv)::r,σ,H,Q=>tk σ H λx H1=>tv σ H1 λy H2=>uj r σ H2 λps H3=>Q ((x,y)::ps) H3
abbrev VV:List (V×V)->List (Value×Value)->Prop:=Paired λp q=>RelV p.1 q.1/\RelV p.2 q.2
def VD(X:Cx)(pos:Pos)(keys:List (Option Expr))(values:List Expr)(yO:List (TE×TE)):Prop:=
 ∀(pins:aP7) (s:aa1) (σ:St) (H:Hp) (Q:List (V×V)->Hp->Prop),Inv X pins σ H s->uj yO σ H Q ->
  aa0 (aa5 X.prog X.w) X.A (evalPairs (pairTrees keys values X.env pos)) (λvs s'=>∃ps H',Inv X pins σ H' s'/\VV ps vs/\Q ps H') X.xe s
theorem Np:VD X pos [] [] []:=λpins s σ H Q I h=>pairTrees_nil_walk ⟨[],H,I,.nil,h⟩
theorem Ip{k v:Expr}{ks:List (Option Expr)}{vs:List Expr}{tk:TE}(hk:PE X k tk)(hv:PE X v tv)(hr:VD X pos ks vs yO) :
  VD X pos (some k::ks) (v::vs) ((tk,tv)::yO):=λpins s σ H Q I h=>
 pairTrees_cons_walk (cM (hk pins s σ H _ I h) λu s1 ⟨x,H1,I1,rx,q1⟩=>cM (hv pins s1 σ H1 _ I1 q1) λw2 s2 ⟨y,H2,I2,ry,q2⟩=>
  cM (hr pins s2 σ H2 _ I2 q2) λws s3 ⟨ps,H3,I3,rel,q3⟩=>⟨(x,y)::ps,H3,I3,.cons ⟨rx,ry⟩ rel,q3⟩)
def hW(kvs more:List (Key×V)):List (Key×V):=more.foldl (λacc kv=>lJ acc kv.1 kv.2) kvs
theorem KV.merge:∀{more:List (Key×V)}{rs:List (Key×Value)}{kvs:List (Key×V)}{vs:List (Key×Value)},KV more rs->KV kvs vs->KV (hW kvs more) (merged vs rs):=by
 intro more rs kvs vs r
 unfold KV at r
 induction r generalizing kvs vs with
 |nil=>intro q;exact q
 | @cons p q ps qs h t ih=>
  intro r0
  have e:KV (lJ kvs p.1 p.2) (stored vs q.1 q.2):=by
   have:=r0.put p.1 h.2
   rw[<-h.1];exact this
  exact ih e
theorem ie:∀(more kvs:List (Key×V)),(hW kvs more).length<=kvs.length+more.length
 | [],kvs=>by show kvs.length<=kvs.length+0;omega
 |p::r,kvs=>by
  have h1:=ie r (lJ kvs p.1 p.2)
  have h2:=l6 kvs p.1 p.2
  show(hW (lJ kvs p.1 p.2) r).length<=_
  rw[aF];omega
theorem sL{P:ab0}{w:ab1}:∀{kvs:List (Key×V)}{ws:List (Value×Value)},VV (kvs.map λkv=>(kV kv.1,kv.2)) ws->∃rs,Carries (cX P w) ws rs/\KV kvs rs
 | [],_,r=>by rw[eR] at r;cases r;exact⟨[],True.intro,.nil⟩
 |p::kvs,_,r=>by
  rw[aP] at r
  cases r with
  | @cons a b as bs h t=>
   obtain⟨rs,c,q⟩:=sL (P:=P) (w:=w) t
   obtain⟨b1,b2⟩:=b
   exact⟨(p.1,b2)::rs,⟨tN h.1,rfl,c⟩,.cons ⟨rfl,h.2⟩ q⟩
def PF(yO:List (TE×TE)):TE:=λσ H Q=>∀p,H p=none->uj yO σ (upd H p (.dK [])) λps H2=>H2 p=some (.dK [])/\∃kvs:List (Key×V),ps=kvs.map (λkv=>(kV kv.1,kv.2))/\kvs.length<=15/\Q (.ref p) (upd H2 p (.dK (hW [] kvs)))
theorem MS{keys:List (Option Expr)}{values:List Expr}(h:VD X pos keys values yO)(en:keys.all (·.isSome)=true)(hl:keys.length=values.length)(h0:keys ≠ [])
  (h15:keys.length<=15):PE X (.Dict keys values pos) (PF yO):=by
 intro pins s σ H Q I q
 have hn:=I.cN.fresh (au s.heap.objs.size)
 have I1:=I.laid (a:=s.heap.objs.size) (o:=.dK []) (h':=s.heap.push {cls:=.type "dict",data:=.dict #[]}) (t':=s.toks) (λ_ _ q=>ae _ q) (au _) (yc s.heap I.big)
 refine wpAny_Dict_walk (knd:=cX X.prog X.w) en hl h0 h15 (cM (h pins _ σ _ _ I1 (q _ hn)) λws s2 ⟨ps,H2,I2,rel,e,kvs,ep,lk,q2⟩=>?_)
 subst ep
 obtain⟨rs,c,rk⟩:=sL (P:=X.prog) (w:=X.w) rel
 obtain⟨z,hd,vs0,r0,dd⟩:=yd I2.cN e
 cases r0
 refine⟨rs,c,dd,λh' JW hs=>⟨.ref s.heap.objs.size,_,?_,rfl,q2⟩⟩
 have hz:(hW [] kvs).length<=sizeLine:=by
  have h1:=ie kvs []
  rw[E9] at h1
  rw[EU];omega
 have he:∃q,h'.get? s.heap.objs.size=some q:=let ⟨q,_,_,hq,_⟩:=JW;⟨q,hq⟩
 exact rG I2 (by rw[e];exact True.intro) hs he (wx hz hd (rk.merge .nil) JW)
structure M1 (X:Cx) (o:Expr) (m:Str) (apos:Pos) (e:Expr) (du:Pos):Prop where
 base:ab3 o m X.env (eval o X.env)=eval o X.env
 few:((ac5 du (aa9 [e] X.env)).all (λx=>!x.1)&&(backToKw du (keywordEach [] X.env)).all (λx=>x.1.isSome)
  && decide (([e]:List Expr).length+([]:List ac4).length+(if ([]:List ac4).isEmpty then 0 else 1)<30))=true
 line:(apos.endLine == du.line)=true
 trees:ac5 du (aa9 [e] X.env) = [(false,eval e X.env)]
def cQ(H:Hp)(a:Addr):Prop:=(∃kvs,Rd H a (.dK kvs))\/∃kvs,Rd H a (.dT kvs)
theorem Rz(I:Inv X pins σ H s)(d:cQ H a) :
  s.TypeIs (.ref a) "dict"/\(∀b,Value.ref a=.ref b->∃ob,s.heap.get? b=some ob/\ob.dict=none)/\(a == ab6)=false:=by
 rcases d with ⟨kvs,e⟩|⟨kvs,e⟩
 ·obtain⟨_,hd,vs,_,dd⟩:=sX I.cN e
  refine⟨dd.typeIs,λb q=>?_,hd⟩
  cases q
  obtain⟨ob,_,_,h1,h2,_⟩:=dd
  exact⟨ob,h1,h2.2.1⟩
 ·obtain⟨_,hd,xs,_,dd⟩:=u6 I.cN e
  refine⟨dd.typeIs,λb q=>?_,hd⟩
  cases q
  obtain⟨ob,_,_,h1,h2,_⟩:=dd
  exact⟨ob,h1,h2.2.1⟩
section
variable {d:V}{r:Value}
end
section
variable {o f:Expr}{du:Pos}{tx:TE}
end
section
variable {kvs:List (Key×V)}
end
end L2
namespace Y8
open PySem PySem.W PySem.Calls PyProof.Rows
section
variable {prog:ab0}{w:ab1}{A:ab4}{E:dw}{s:aa1}{K:Frag}
end
end Y8
namespace L2
open PySem PySem.Spec PyProof.Rows
variable{P prog:ab0}{w:ab1}{K:Frag}{mg:mG7}{base h h':Heap}{X:Cx}{pins pn:aP7}{σ:St}{H H':Hp}{s s':aa1}{N' ps N ws:lS7}{scope sc:Scope}{A:ab4}{E:dw}{x y n:Str}{k j tk i:Nat}{sp T6:Sp}{M:Model}{env:Env}{outer l:List Env}{L a C t T c it d z b t1 t2 sl T' f:Addr}{Q:Option Value->aa1->Prop}{e elt:Expr}{tb fl fT:Value}{CX:vK}{p pos apos py du:Pos}{o oe:Obj}{es ifs:List Expr}{R:Result->aa1->Prop}{te:TE}{its xs ys:Array Value}{hi:Option Int}{r:List V->Hp->VK->Prop}
theorem Dy:dQ X (.builtin "len") (λxs H Q=>∃a kvs,xs = [V.ref a]/\H a=some (.dK kvs)/\Q (.int kvs.length) H):=by
 intro pins s σ H xs us Q I r h
 obtain⟨a,kvs,rfl,ha,q⟩:=h
 obtain⟨u,rfl,ru⟩:=uz r
 cases ru
 exact V3 I (.inl ha) λt s' I'=>⟨.int kvs.length,H,I',⟨t,rfl⟩,q⟩
section
variable {κ:Type} [DecidableEq κ]
end
noncomputable def oM (cells:List (Str×Addr)) (names:List (Str×NameKind)) (acc:List (Str×Addr)):List (Str×Addr):=
 match names with
 | []=>acc
 |(n,k)::r=>oM cells r (if k == .free then(n,(cells.lookup n).getD 0)::acc else acc)
theorem lT{cells:List (Str×Addr)}:∀{names:List (Str×NameKind)}{acc:List (Str×Addr)},(∀y∈names,y.2=.free->∃c,cells.lookup y.1=some c)->(∀x c,acc.lookup x=some c->cells.lookup x=some c) ->
  ∀x c,(oM cells names acc).lookup x=some c->cells.lookup x=some c
 | [],acc,_,h,x,c,e=>h x c e
 |(n,k)::r,acc,hf,h,x,c,e=>by
  unfold oM at e
  refine lT (λy hy=>hf y (ax _ hy)) ?_ x c e
  intro x' c' e'
  by_cases hk:k=.free
  ·subst hk
   obtain⟨d,hd⟩:=hf (n,.free) aL rfl
   have y9:cells.lookup n=some d:=hd
   simp only[fH,jE,g6] at e'
   cases hx:x' == n with
   |true=>
    rw[hx] at e'
    have e2:x'=n:=by simpa using hx
    subst e2
    simp only[y9,Option.getD_some] at e'
    rw[y9];exact e'
   |false=>
    rw[hx] at e'
    exact h x' c' e'
  ·have hb:(k == NameKind.free)=false:=by simpa using hk
   simp only[hb,mP,pS] at e'
   exact h x' c' e'
theorem sM{cells:List (Str×Addr)}:∀{names:List (Str×NameKind)}{acc:List (Str×Addr)}{x:Str},((∃c,acc.lookup x=some c)\/(x,NameKind.free)∈names)->∃c,(oM cells names acc).lookup x=some c
 | [],acc,x,h=>by
  rcases h with h|h
  ·exact h
  ·cases h
 |(n,k)::r,acc,x,h=>by
  unfold oM
  refine sM ?_
  by_cases hk:k=.free
  ·subst hk
   simp only[fH,jE,g6]
   cases hx:x == n with
   |true=>exact .inl ⟨_,rfl⟩
   |false=>
    rcases h with h|h
    ·exact .inl h
    ·rcases aN.mp h with h|h
     ·cases h
      simp at hx
     ·exact .inr h
  ·have hb:(k == NameKind.free)=false:=by simpa using hk
   simp only[hb,mP,pS]
   rcases h with h|h
   ·exact .inl h
   ·rcases aN.mp h with h|h
    ·cases h
     exact absurd rfl hk
    ·exact .inr h
theorem nk{env:Env}:∀{names:List (Str×NameKind)}{acc:List (Str×Addr)},(∀y∈names,y.2=.free->∃c,env.cells.lookup y.1=some c) ->
  (forIn names acc λ(x:Str×NameKind) (r:List (Str×Addr))=>(if x.2 == .free then(do let a <-cellOf env x.1;pure (ForInStep.yield ((x.1,a)::r))) else pure (ForInStep.yield r):Sem (ForInStep (List (Str×Addr)))))=(pure (oM env.cells names acc):Sem (List (Str×Addr)))
 | [],acc,_=>rfl
 |(n,k)::r,acc,hf=>by
  rw[eM]
  have ih:=λF_=>nk (env:=env) (names:=r) (acc:=F_) λy hy=>hf y (ax _ hy)
  by_cases hk:k=.free
  ·subst hk
   obtain⟨c,hc⟩:=hf (n,.free) aL rfl
   have wF:env.cells.lookup n=some c:=hc
   simp only[fH,jE,cellOf,wF,pure_bind,oM,Option.getD_some]
   exact ih _
  ·have hb:(k == NameKind.free)=false:=by simpa using hk
   simp only[hb,mP,pS,pure_bind,oM]
   exact ih _
theorem sO(h:∀y∈scope.names,y.2=.free->∃c,env.cells.lookup y.1=some c):closureFor scope env=pure (oM env.cells scope.names []):=by
 have q:=nk (env:=env) (acc:= []) h
 unfold closureFor
 exact(eB (λm:Sem (List (Str×Addr))=>m >>= λcs=>pure cs) q).trans (by simp)
def hJ(X:Cx)(N':lS7)(scope:Scope)(fp:List Addr)(s₀:aa1)(H₀:Hp):Cx:=
 {X with N:=N',s₀:=s₀,H₀:=H₀,env:=compEnvC scope (oM X.env.cells scope.names []) s₀.heap.objs.size X.env,outer:=X.stack,ex:=fp,fn:=λ_=>false,pn:= [],xe:=λ_ _=>False}
structure g7 (X:Cx) (N':lS7) (scope:Scope):Prop where
 kind:scope.kind=.function
 nd:N'.Nodup
 AL:∀y∈scope.names,y.2≠.cell
 loc:∀y∈scope.names,y.2=.local->scope.names.lookup y.1=some .local
 Wf:∀y∈scope.names,y.2=.free->X.env.kindOf y.1=some .cell
 own:∀x,(x,NameKind.free)∈scope.names->(relabel scope X.env).names.lookup x≠some .local
theorem xm(hc:∀y∈scope.names,y.2≠.cell)(h:(relabel scope env).names.lookup x=some .cell\/(relabel scope env).names.lookup x=some .free):(x,NameKind.free)∈scope.names:=by
 have key:∀(l:List (Str×NameKind)),(∀y∈l,y.2≠.cell)->∀k,(k=.cell\/k=.free) ->
   (l.map λ(n,k)=>if (k == NameKind.free&&env.scope.kind == .function&&env.kindOf n == some .cell) then(n,NameKind.cell) else(n,k)).lookup x=some k->(x,NameKind.free)∈l:=by
  intro l
  induction l with
  |nil=>intro _ k _ e;cases e
  |cons y r ih=>
   obtain⟨n,kk⟩:=y
   intro hc k hk e
   have hr:∀y∈r,y.2≠.cell:=λy hy=>hc y (ax _ hy)
   have hkk:kk≠.cell:=hc (n,kk) aL
   rw[aP] at e
   by_cases hq:(kk == NameKind.free&&env.scope.kind == .function&&env.kindOf n == some .cell)=true
   ·simp only[hq,jE,g6] at e
    have hf:kk=.free:=by
     have:=(ay _ _▸(ay _ _▸hq).1).1
     simpa using this
    cases hx:x == n with
    |true=>
     have:x=n:=by simpa using hx
     subst this;subst hf
     exact aL
    |false=>
     rw[hx] at e
     exact ax _ (ih hr k hk e)
   ·have Rv:(kk == NameKind.free&&env.scope.kind == .function&&env.kindOf n == some .cell)=false:=by simpa using hq
    simp only[Rv,mP,pS] at e
    rw[g6] at e
    cases hx:x == n with
    |true=>
     have ZG:x=n:=by simpa using hx
     subst ZG
     rw[hx] at e
     have e':kk=k:=by simpa using e
     rcases hk with hk|hk
     ·exact absurd (e'.trans hk) hkk
     ·rw[e',hk];exact aL
    |false=>
     have e2:(r.map λ(n,k)=>if (k == NameKind.free&&env.scope.kind == .function&&env.kindOf n == some .cell) then(n,NameKind.cell) else(n,k)).lookup x=some k:=by
      rw[hx] at e
      exact e
     exact ax _ (ih hr k hk e2)
 rcases h with h|h
 ·exact key _ hc _ (.inl rfl) h
 ·exact key _ hc _ (.inr rfl) h
section
variable {fp:List Addr}
def rZ(X:Cx)(N':lS7)(scope:Scope)(σ σ':St):Prop:=
 σ'.length=N'.length/\∀(i:Nat) (x:Str) (v:V),N'[i]?=some x->σ'[i]?=some (some v)->(x,NameKind.free)∈scope.names/\∃(j:Nat),X.N[j]?=some x/\σ[j]?=some (some v)
theorem KJ(S:g7 X N' scope)(I:Inv X pins σ H s)(hf:∀b∈fp,lG X pins H b)(qd:∀b∈fp,b<s.heap.objs.size):(hJ X N' scope fp s H).Ok:=by
 have jL:∀y∈scope.names,y.2=.free->∃c,X.env.cells.lookup y.1=some c:=λy hy hk=>I.ok.has y.1 (.inl (S.Wf y hy hk))
 have sub:=lT (cells:=X.env.cells) (names:=scope.names) (acc:= []) jL (λx c e=>by cases e)
 refine⟨I.ok.mod,S.kind,I.ok.glob,I.ok.blt,au _,λx y c e1 e2=>I.ok.inj x y c (sub x c e1) (sub y c e2),λx hx=>?_,λx c hz=>?_,I.ok.hd,I.ok.frames,.inl rfl,λb hb=>?_,I.bs,aA I.ok.Bt I.sz,λb o e hb=>?_,λb hb hs=>?_,I.stack,I.rQ⟩
 ·exact sM (.inr (xm S.AL hx))
 ·exact absurd (show false=true from hz) aH
 ·obtain⟨_,hL,_,_,hc,_⟩:=hf b hb
  refine⟨λe=>?_,λx c e=>hc x c (sub x c e)⟩
  have e':b=s.heap.objs.size:=e
  exact absurd (qd b hb) (by rw[e'];exact dG _)
 ·obtain⟨_,_,_,h2,_⟩:=hf b hb
  rcases h2 with h2|h2
  ·exact I.ok.wZ b o e h2
  ·exact absurd (bw (aI e) (aA I.ok.Bt h2)) (dG _)
 ·obtain⟨_,hL,hfs,_⟩:=hf b hb
  rcases aN.mp (I.xp b hs) with z|z
  ·exact hL z
  ·exact hfs z
theorem xV(S:g7 X N' scope)(I:Inv X pins σ H s)(hf:∀b∈fp,lG X pins H b)(qd:∀b∈fp,b<s.heap.objs.size){σ':St}(hc:rZ X N' scope σ σ'){h1:Heap}
  (hn:h1.Ns s.heap.objs.size (λ_=>none)) (hk:∀b o,s.heap.get? b=some o->h1.get? b=some o):Inv (hJ X N' scope fp s H) [] σ' H {s with heap:=h1,toks:=tk}:=by
 have jL:∀y∈scope.names,y.2=.free->∃c,X.env.cells.lookup y.1=some c:=λy hy hk=>I.ok.has y.1 (.inl (S.Wf y hy hk))
 have sub:=lT (cells:=X.env.cells) (names:=scope.names) (acc:= []) jL (λx c e=>by cases e)
 refine⟨KJ S I hf qd,rfl,I.bare,Un.kept hk,⟨_,hn,λi x v e1 e2 e3=>?_⟩,λx c e=>?_,I.fresh,λx c e=>I.iq x c (sub x c e),λp hp=>absurd (show p∈([]:aP7) from hp) (by simp),I.cN.kept hk,hc.1⟩
 ·obtain⟨hx,j,j1,j2⟩:=hc.2 i x v e1 e2
  obtain⟨m,_,hl⟩:=I.loc
  have hkc:X.env.kindOf x=some .cell:=S.Wf (x,.free) hx rfl
  obtain⟨u,r,l⟩:=hl j x v j1 j2 (.inr (.inl hkc))
  refine⟨u,r,.inr ?_⟩
  rcases l with ⟨k,_⟩|⟨_,c,ec,z⟩
  ·rw[hkc] at k;cases k
  ·obtain⟨c',ec'⟩:=sM (cells:=X.env.cells) (names:=scope.names) (acc:= []) (x:=x) (.inr hx)
   have ec2:=sub x c' ec'
   rw[ec] at ec2
   cases ec2
   refine⟨?_,c,ec',z.keeps hk⟩
   have e3':UX (relabel scope X.env) x:=e3
   rcases e3' with q|q|q
   ·exfalso
    exact S.own x hx q
   ·exact .inl q
   ·exact .inr q
 ·obtain⟨v,z⟩:=I.cell x c (sub x c e)
  exact⟨v,z.keeps hk⟩
end
def qO(X:Cx)(ifs:List Expr)(t:TT):Prop:=
 ∀(pins:aP7) (s:aa1) (σ:St) (H:Hp) (Q:Bool->Hp->Prop),Inv X pins σ H s->t σ H Q ->
  aa0 (aa5 X.prog X.w) X.A (forIn ifs true λc r=>if r=true then(do let ok <-isTrue c X.env (eval c X.env);pure (ForInStep.yield ok)) else pure (ForInStep.yield r)) (TP X pins σ Q) X.xe s
theorem Ik:qO X [] (λ_ H Q=>Q true H):=by
 intro pins s σ H Q I h
 rw[gQ]
 exact ak ⟨H,I,h⟩
theorem Il{c:Expr}{t:TT}(h:PT X c t):qO X [c] t:=by
 intro pins s σ H Q I hq
 rw[eM]
 refine aa ?_
 rw[bF rfl]
 refine aa (cM (h pins s σ H Q I hq) λb s1 q=>ak ?_)
 dsimp only
 rw[gQ]
 exact ak q
def Jl(wi:TI)(g:TG)(tc:TT)(te:TE)(σc:St->St):TE:=λσ H Q=>wi σ H λJ H1=>∀acc,H1 acc=none ->
 ∃W:Nat->Nat->St->List V->Hp->Prop,(∃m,W 0 m (σc σ) [] (upd H1 acc (.lst [])))/\∀i m σ2 ys H2,W i m σ2 ys H2->H2 acc=some (.lst ys) /\
  ((J.stop i H2/\Q (.ref acc) H2)\/(J.go i H2/\ys.length<sizeLine/\∀x H3,J.Vi i H2 x H3->g x σ2 H3 λσ4 H4=>tc σ4 H4 λb H5=>
   if b=true then te σ4 H5 λy H6=>H6 acc=some (.lst ys)/\∃m',m'<m/\W (i+1) m' σ4 (ys ++ [y]) (upd H6 acc (.lst (ys ++ [y]))) else ∃m',m'<m/\W (i+1) m' σ4 ys H5))
theorem pE{target iter:Expr}{it acc:Value}(I:Nat->aa1->Prop)
  (turn:∀n s,I n s->aa0 (aa5 prog w) A (pyNext it) (λr s₁=>(r=none/\R (.ok .next) s₁)\/∃v,r=some v /\
    aa0 (aa5 prog w) A (letOwnedTupleGo target it v) (λ_ s₂=>aa0 (aa5 prog w) A (assign target env v) (λ_ s₃=>
     aa0 (aa5 prog w) A (forIn ifs true λc r=>if r=true then(do let ok <-isTrue c env (eval c env);pure (ForInStep.yield ok)) else pure (ForInStep.yield r)) (λok s₄=>
      if ok=true then aa0 (aa5 prog w) A (eval elt env) (λx s₅=>aa0 (aa5 prog w) A (call (.builtin "list.append") [acc,x]) (λ_ s₆=>∃m,m<n/\I m s₆) (λ_ _=>False) s₅) (λ_ _=>False) s₄
      else ∃m,m<n/\I m s₄) (λ_ _=>False) s₃) (λ_ _=>False) s₂) (λ_ _=>False) s₁) (λ_ _=>False) s)
  (n:Nat) (h:I n s):ac3 (aa5 prog w) A (.compLoop (.ListComp elt [⟨target,iter,ifs,0⟩] scope pos) 0 it acc env) R s:=by
 have no:∀{α:Type}{t:Sem α}{Q:α->aa1->Prop}{E:dw}{s:aa1},aa0 (aa5 prog w) A t Q (λ_ _=>False) s->aa0 (aa5 prog w) A t Q E s:=λh=>eD h (λ_ _ q=>q) λ_ _ f=>f.elim
 refine codeAny_loop rfl I (λn s hI=>?_) n h
 show aa0 _ A ((compTurn (.ListComp elt [⟨target,iter,ifs,0⟩] scope pos) 0 it acc env).onRaise (λx=>do noteFrame x env;theTreesLotGoes x)) _ _ s
 refine wpAny_noted ?_
 rw[compTurn_list]
 refine aa (Qa (aa (no (cM (turn n s hI) λr s₁ h₁=>?_))))
 rcases h₁ with ⟨rfl,h₁⟩|⟨v,rfl,h₁⟩
 ·exact ak h₁
 ·refine aa (no (cM h₁ λ_ s₂ h₂=>aa (no (cM h₂ λ_ s₃ h₃=>aa (no (cM h₃ λok s₄ h₄=>?_))))))
  cases ok with
  |false=>exact ak ⟨rfl,h₄⟩
  |true=>exact aa (aa (no (cM h₄ λx s₅ h₅=>aa (no (cM h₅ λ_ s₆ h₆=>ak (ak ⟨rfl,h₆⟩))))))
theorem BY(ok:j4 P w H h)(hC:H C=none)(hs:Heap.SameBut C h h'):j4 P w H h':=λb o e=>
 (ok b o e).ug (λc u hc q=>(hs.2 c (by
  rintro rfl
  rcases hc with rfl|hc
  ·rw[hC] at e;cases e
  ·rw[hC] at hc;cases hc)).trans q) (λ_ q=>q) λ_ _ q=>q
theorem MP{tg iter:Expr}{wi:TI}{g:TG}{tc:TT}{σc:St->St}
  (S:g7 X N' scope) (Gj:X.calm=true) (hσ:∀σ:St,σ.length=X.N.length->rZ X N' scope σ (σc σ)) (hi:PI X tg iter wi)
  (hg:∀fp s₀ H₀,PG (hJ X N' scope fp s₀ H₀) tg g) (hc:∀fp s₀ H₀,qO (hJ X N' scope fp s₀ H₀) ifs tc) (he:∀fp s₀ H₀,PE (hJ X N' scope fp s₀ H₀) elt te)
  (hs:autoParam (∀x,ab8 iter X.env x=pure x) ad1):PE X (.ListComp elt [⟨tg,iter,ifs,0⟩] scope pos) (Jl wi g tc te σc):=by
 intro pins s σ H Q I h
 have jL:∀y∈scope.names,y.2=.free->∃c,X.env.cells.lookup y.1=some c:=λy hy hk=>I.ok.has y.1 (.inl (S.Wf y hy hk))
 have sub:=lT (cells:=X.env.cells) (names:=scope.names) (acc:= []) jL (λx c e=>by cases e)
 rw[eval_ListComp]
 refine P9 (use:=none) rfl hs (sO jL) S.kind S.loc (cM (hi pins s σ H _ I h) λv s1 h1=>cM h1 λXb s2 h2=>?_)
 obtain⟨it,fp,tn,J,H2,rfl,I2,T,T8,f2,h2⟩:=h2
 obtain⟨W,⟨m0,w0⟩,turn⟩:=h2 s2.heap.objs.size I2.fresh
 have wO:∀b∈fp,b<s2.heap.objs.size:=λb hb=>by
  obtain⟨o,ho,_⟩:=T.obj _ _ T8 b hb
  exact aI ho
 refine bT (m_ S.AL (by intro y hy;simp at hy) (λh₁ nJ nK=>?_) S.kind)
 dsimp only at nJ nK⊢
 have I3:Inv X pins σ (upd H2 s2.heap.objs.size (.lst [])) {s2 with heap:=s2.heap.push {cls:=.type "list",data:=.seq ([]:List Value).toArray}}:=I2.Mf (t':=s2.toks) (ys:= []) .nil (cI _)
 generalize WX:({s2 with heap:=s2.heap.push {cls:=.type "list",data:=.seq ([]:List Value).toArray}}:aa1)=s3 at I3
 have e3:s2.heap.push {cls:=.type "list",data:=.seq ([]:List Value).toArray}=s3.heap:=by rw[<-WX]
 have sz3:s3.heap.objs.size=s2.heap.objs.size+1:=by rw[<-e3,c7]
 have Up:∀b o,s2.heap.get? b=some o->s3.heap.get? b=some o:=λb o e=>by rw[<-e3];exact ae _ e
 have f3:∀b∈fp,lG X pins (upd H2 s2.heap.objs.size (.lst [])) b:=λb hb=>by
  obtain⟨q1,q2⟩:=f2 b hb
  exact⟨by rw[bf (aW (wO b hb))];exact q1,q2⟩
 have lt3:∀b∈fp,b<s3.heap.objs.size:=λb hb=>by rw[sz3];exact og (wO b hb)
 rw[e3] at nJ nK⊢
 have up1:∀b o,s3.heap.get? b=some o->h₁.get? b=some o:=λb o e=>nK.extBut b o (aW (aI e)) (ae _ e)
 have Rn:h₁.Ns s3.heap.objs.size (λ_=>none):=by
  have q:=nJ
  simpa using q
 have I4:Inv (hJ X N' scope fp s3 (upd H2 s2.heap.objs.size (.lst []))) [] (σc σ) (upd H2 s2.heap.objs.size (.lst [])) {s3 with heap:=h₁,toks:=s2.toks}:=xV S I3 f3 lt3 (hσ σ I.len) Rn up1
 have Yr:tn 0 h₁:=T.keep _ _ _ T8 λb hb o e=>up1 b o (Up b o e)
 generalize hX:hJ X N' scope fp s3 (upd H2 s2.heap.objs.size (.lst []))=X' at I4
 have xP:X'.prog=X.prog:=by rw[<-hX];rfl
 have xw:X'.w=X.w:=by rw[<-hX];rfl
 have xK:X'.K=X.K:=by rw[<-hX];rfl
 have xA:X'.A=X.A:=by rw[<-hX];rfl
 have xc:X'.calm=true:=by rw[<-hX];exact Gj
 have xx:X'.xe=λ_ _=>False:=by rw[<-hX];rfl
 have xe:X'.env=compEnvC scope (oM X.env.cells scope.names []) s3.heap.objs.size X.env:=by rw[<-hX];rfl
 have Ψ:PG X' tg g:=by rw[<-hX];exact hg _ _ _
 have wF:qO X' ifs tc:=by rw[<-hX];exact hc _ _ _
 have Λ:PE X' elt te:=by rw[<-hX];exact he _ _ _
 have F5:X'.ex=fp:=by rw[<-hX];rfl
 have Y':X'.fs=rJ X.stack:=by rw[<-hX];rfl
 have pn0:X'.pn = []:=by rw[<-hX];rfl
 have Yc:X'.s₀=s3:=by rw[<-hX];rfl
 have v_:X'.H₀=upd H2 s2.heap.objs.size (.lst []):=by rw[<-hX];rfl
 have Su:=I4.ok
 have ue:∀{H':Hp},(∀b∈fp,H' b=none)->∀b∈fp,lG X' [] H' b:=λ{H'} hn b hb=>by
  obtain⟨_,q1,q2,q3,q4,q5⟩:=f3 b hb
  refine⟨hn b hb,(Su.Lb b (by rw[F5];exact hb)).1,Su.wz b (by rw[F5];exact hb),.inl (by rw[F5];exact hb),(Su.Lb b (by rw[F5];exact hb)).2,λp hp=>?_⟩
  rw[pn0] at hp
  exact absurd (show p∈([]:aP7) from hp) (by simp)
 have fin:∀(s':aa1) (σ':St) (H':Hp),Inv X' [] σ' H' s'->Q (.ref s2.heap.objs.size) H'->compPost (aa5 X.prog X.w) X.A X.xe none (EP X pins σ Q) (.ref s2.heap.objs.size) s3.heap.objs.size (.ok .next) s':=λs' σ' H' I' q=>by
  have hC:X'.env.locals=s3.heap.objs.size:=by rw[xe];rfl
  obtain⟨m,hm,_⟩:=id I'.loc
  rw[hC] at hm
  refine⟨m,hm,λh' LA=>⟨.ref s2.heap.objs.size,H',?_,rfl,q⟩⟩
  have un:=I'.base
  rw[Y',F5,Yc,v_] at un
  have O3:∀b o,s3.heap.get? b=some o->b≠s3.heap.objs.size:=λb o e=>aW (aI e)
  have un':Un (rJ X.stack) fp (upd H2 s2.heap.objs.size (.lst [])) H' s3.heap h':=
   ⟨λb o e n hb hx=>(LA.2 b (O3 b o e)).trans (un.keep b o e n hb hx),λb o e n hb hx=>let ⟨sl,z⟩:=un.slot b o e n hb hx;⟨sl,(LA.2 b (O3 b o e)).trans z⟩,un.free,
    λb o e hx=>let ⟨o',z⟩:=un.there b o e hx;⟨o',(LA.2 b (O3 b o e)).trans z⟩,un.uo,un.qT,un.uk⟩
  have tH:H' s3.heap.objs.size=none:=by rw[<-hC];exact I'.free
  have wH:j4 X.prog X.w H' s'.heap:=by rw[<-xP,<-xw];exact I'.cN
  refine I3.FE (s':={s' with heap:=h'}) (ch:=fp) ?_ un' (BY wH tH LA) I'.bare λb hb=>?_
  ·have z:=I'.os
   rw[Yc] at z
   exact z
  ·obtain⟨_,q1,q2,q3,q4,q5⟩:=f3 b hb
   exact⟨q3,q1,q4,q5⟩
 have loop:ac3 (aa5 X.prog X.w) X.A (.compLoop (.ListComp elt [⟨tg,iter,ifs,0⟩] scope pos) 0 (.ref it) (.ref s2.heap.objs.size) (compEnvC scope (oM X.env.cells scope.names []) s3.heap.objs.size X.env))
   (compPost (aa5 X.prog X.w) X.A X.xe none (EP X pins σ Q) (.ref s2.heap.objs.size) s3.heap.objs.size) {s3 with heap:=h₁,toks:=s2.toks}:=by
  refine pE (λn s'=>∃i σ' ys H',Inv X' [] σ' H' s'/\tn i s'.heap/\(∀b∈fp,H' b=none)/\W i n σ' ys H') ?_ m0 ⟨0,_,[],_,I4,Yr,λb hb=>(f3 b hb).1,w0⟩
  rintro n s5 ⟨i,σ5,ys,H5,I5,NP,Q1,w5⟩
  obtain⟨yi,hh⟩:=turn i n σ5 ys H5 w5
  rcases hh with ⟨stop,q⟩|⟨go,hsz,step⟩
  ·have d:=T.done X' xP xw xK xc i [] s5 σ5 H5 (λ_ _=>False) I5 (ue Q1) NP stop
   rw[xA] at d
   exact cM d λr s6 ⟨hr,I6⟩=>.inl ⟨hr,fin s6 σ5 H5 I6 q⟩
  ·have d:=T.item X' xP xw xK xc i [] s5 σ5 H5 (λ_ _=>False) I5 (ue Q1) NP go
   rw[xA] at d
   refine cM d λr s6 ⟨u,hr,h6⟩=>.inr ⟨u,hr,cM h6 λ_ s7 ⟨x,H7,I7,r7,y7,T9,W'⟩=>?_⟩
   have w_:=I7.pinned (ue W') (T.obj _ _ T9)
   have a1:=Ψ _ s7 σ5 H7 x u _ w_ r7 (step x H7 y7)
   rw[xP,xw,xA,xe,xx] at a1
   refine cM a1 λ_ s8 ⟨σ8,H8,I8,q8⟩=>?_
   have a2:=wF _ s8 σ8 H8 _ I8 q8
   rw[xP,xw,xA,xe,xx] at a2
   refine cM a2 λok s9 ⟨H9,I9,q9⟩=>?_
   have back:∀{σz:St}{Hz:Hp}{sz:aa1},Inv X' ([]++md fp s7.heap) σz Hz sz->tn (i+1) sz.heap/\∀b∈fp,Hz b=none:=λ{σz Hz sz} Iz=>by
    refine⟨T.keep _ _ _ T9 λb hb o e=>(Iz.pin (b,o) (aM _ (aM _ (fq hb e)))).1,λb hb=>?_⟩
    obtain⟨o,e,_⟩:=T.obj _ _ T9 b hb
    exact(Iz.pin (b,o) (aM _ (aM _ (fq hb e)))).2.1
   cases ok with
   |false=>
    obtain⟨m',hm,w'⟩:=q9
    rw[bJ aH]
    exact⟨m',hm,i+1,σ8,ys,H9,I9.fz,(back I9).1,(back I9).2,w'⟩
   |true=>
    rw[bF rfl] at q9⊢
    have a3:=Λ _ s9 σ8 H9 _ I9 q9
    rw[xP,xw,xA,xe,xx] at a3
    refine cM a3 λy sa ⟨yv,Ha,Ia,ra,Gi,m',hm,w'⟩=>?_
    have a4:=i8 (X:=X') _ sa σ8 Ha (.ref s2.heap.objs.size) [yv] (.ref s2.heap.objs.size) [y] (λv H'=>H'=upd Ha s2.heap.objs.size (.lst (ys ++ [yv]))) Ia rfl (.cons ra .nil) ⟨_,ys,yv,rfl,rfl,Gi,hsz,rfl⟩
    rw[xP,xw,xA,xx] at a4
    refine cM a4 λ_ sb ⟨_,Hb,Ib,_,eb⟩=>?_
    subst eb
    exact⟨m',hm,i+1,σ8,ys ++ [yv],_,Ib.fz,(back Ib).1,(back Ib).2,w'⟩
 have es:({s2 with heap:=h₁,toks:=s2.toks+([]:List (Str×Value)).length}:aa1)={s3 with heap:=h₁,toks:=s2.toks}:=by rw[<-WX];rfl
 refine Vp ?_ ?_
 ·exact es▸loop
 ·exact T.self _ 0 _ _ _ Yr (es▸loop)
theorem oS{u:Value}{Q:dw}(hd:s.heap.IsTupleIter d t k)(ht:s.heap.IsTuple t its)(hu:its[k]?=some u)
  (hQ:∀hp,hp.IsTupleIter d t (k+1)->Heap.SameBut d s.heap hp->Q u {s with heap:=hp}):aa0 (aa5 P w) A (q0' (.ref d)) Q E s:=by
 obtain⟨od,Lv,Rq,Ly⟩:=id hd
 obtain⟨ot,hot,_,nt,Rr⟩:=ht
 unfold q0'
 refine aa (bW (name:=Str.ofString "__next__") hd.typeIs dm (di dm hd.typeIs lN ?_ (lB _)))
 show aa0 _ _ (field (.ref d) 0 >>= _) _ _ s
 refine aa (bh Lv Ly (x:=.ref t) rfl ?_)
 show aa0 _ _ (if (Value.ref t == Value.none)=true then _ else _) _ _ s
 rw[bJ (by intro z;exact aH z)]
 show aa0 _ _ (field (.ref d) 1 >>= _) _ _ s
 refine aa (bh Lv Ly (x:=.int k 0) rfl ?_)
 show aa0 _ _ (seqItems? (.ref t) >>= _) _ _ s
 refine aa (cu hot Rr ?_)
 simp only[oa,hu]
 refine aa (gR Lv Ly (by simp) (ak ⟨u,rfl,ak (hQ _ ⟨_,dy _ Lv (rY (iO Ly _)),(Obj.cls_mapFields ..).trans Rq,?_⟩ (ij ..))⟩))
 rw[iO Ly]
 simp[ab7]
theorem kG{Q:dw}(hh:A.handled=none)(hd:s.heap.IsTupleIter d t k)(ht:s.heap.IsTuple t its)(hu:its[k]?=none)
  (hE:∀hp e,Heap.ExtBut d s.heap hp->(∃o,hp.get? e=some o/\o.cls=.type "StopIteration")->E (.ref e) {s with heap:=hp}):aa0 (aa5 P w) A (q0' (.ref d)) Q E s:=by
 obtain⟨od,Lv,Rq,Ly⟩:=id hd
 obtain⟨ot,hot,_,nt,Rr⟩:=ht
 unfold q0'
 refine aa (bW (name:=Str.ofString "__next__") hd.typeIs dm (di dm hd.typeIs lN ?_ (lB _)))
 show aa0 _ _ (field (.ref d) 0 >>= _) _ _ s
 refine aa (bh Lv Ly (x:=.ref t) rfl ?_)
 show aa0 _ _ (if (Value.ref t == Value.none)=true then _ else _) _ _ s
 rw[bJ (by intro z;exact aH z)]
 show aa0 _ _ (field (.ref d) 1 >>= _) _ _ s
 refine aa (bh Lv Ly (x:=.int k 0) rfl ?_)
 show aa0 _ _ (seqItems? (.ref t) >>= _) _ _ s
 refine aa (cu hot Rr ?_)
 simp only[oa,hu]
 refine aa (fe (aa (gR Lv Ly (by simp) ?_)))
 show aa0 _ _ (newExc (.type "StopIteration") [] >>= _) _ _ _
 refine aa ?_
 simp only[newExc,newTuple]
 refine aa (bT ?_ (by size_fits))
 refine aa (m:=firstArgMember _ _) (EW (a:=Value.none) (by first|rfl|(simp only[firstArgMember];rfl)) ?_)
 refine bT ?_ (by size_fits)
 simp only[raiseNew]
 refine aa (wpAny_handled ?_)
 first|rw[show A.in1.handled=none from hh]|rw[hh]
 refine aa (ak (wpAny_throw ?_))
 exact hE _ _ (((ij ..).extBut.push _).push _) ⟨_,aG _ rfl,rfl⟩
structure Dq (z a b c d:Addr):Prop where
 az:a≠z
 bz:b≠z
 cz:c≠z
 dz:d≠z
 ab:a≠b
 ac:a≠c
 ad:a≠d
 bc:b≠c
 bd:b≠d
 cd:c≠d
structure OA (h:Heap) (z a b c d t1 t2:Addr) (k:Nat) (f0:Value):Prop where
 zip:IsZip h z a b f0
 its:ac0 h a (.ref c) (.ref d)
 own:∃x y,ac0 h b x y
 i1:h.IsTupleIter c t1 k
 i2:h.IsTupleIter d t2 k
theorem JM{x y:Value}{Q:dw}(D:Dq z a b c d)(Z:OA s.heap z a b c d t1 t2 k .none)
  (o1:t1≠z/\t1≠b/\t1≠c/\t1≠d) (o2:t2≠z/\t2≠b/\t2≠c/\t2≠d) (DT:s.heap.IsTuple t1 xs) (mF:s.heap.IsTuple t2 ys) (hx:xs[k]?=some x) (hy:ys[k]?=some y)
  (hQ:∀hp,OA hp z a b c d t1 t2 (k+1) (ab7 s.heap.objs.size)->ac0 hp s.heap.objs.size x y->(∀e o,e≠z->e≠b->e≠c->e≠d->s.heap.get? e=some o->hp.get? e=some o)->Q (.ref s.heap.objs.size) {s with heap:=hp}) :
  aa0 (aa5 P w) A (Builtin.«zip.__next__» ⟨[.ref z],[]⟩) (λfin s'=>∃v,fin=.done (.ret v)/\Q v s') E s:=by
 obtain⟨zz,zi,⟨p,q,zo⟩,z1,z2⟩:=Z
 show aa0 _ _ (field (.ref z) 2 >>= _) _ _ _
 refine aa (bh zz rfl (x:=.bool false) rfl ?_)
 show aa0 _ _ (field (.ref z) 3 >>= _) _ _ _
 refine aa (bh zz rfl (x:=.ref a) rfl ?_)
 refine aa (cu zi rfl ?_)
 show aa0 _ _ (q2' (.ref z) >>= _) _ _ _
 refine aa ?_
 unfold q2'
 refine aa (bh zz rfl (x:=.none) rfl (ak ?_))
 simp only[jE]
 refine aa (fe ?_)
 refine aa (bh zz rfl (x:=.ref b) rfl ?_)
 refine aa (cj zz (by simp) λk1 y1 s1=>?_)
 replace y1:IsZip k1 z a b .ellipsis:=y1
 refine aa ?_
 simp only[pP,rm,eM,gQ]
 refine aa (aa (gh ?_))
 show aa0 _ _ (q0' (.ref c) >>= _) _ _ _
 refine aa (oS (z1.extBut s1.extBut D.cz) (DT.extBut s1.extBut o1.1) hx λk2 y2 s2=>ak ?_)
 have w2:ac0 k2 b p q:=s2.extBut _ _ D.bc (s1.extBut _ _ D.bz zo)
 refine aa (cu w2 rfl ?_)
 refine aa (eU w2 λk3 y3 s3=>?_)
 replace y3:ac0 k3 b x q:=y3
 refine aa (oh (ak ?_))
 refine aa (aa (gh ?_))
 show aa0 _ _ (q0' (.ref d) >>= _) _ _ _
 refine aa (oS (((z2.extBut s1.extBut D.dz).extBut s2.extBut D.cd.symm).extBut s3.extBut D.bd.symm) (((mF.extBut s1.extBut o2.1).extBut s2.extBut o2.2.2.1).extBut s3.extBut o2.2.1) hy λk4 y4 s4=>ak ?_)
 have w4:ac0 k4 b x q:=s4.extBut _ _ D.bd y3
 refine aa (cu w4 rfl ?_)
 refine aa (eU w4 λk5 y5 s5=>?_)
 replace y5:ac0 k5 b x y:=y5
 refine aa (oh (ak (ak ?_)))
 refine aa (cu y5 rfl ?_)
 refine aa (wpAny_newTuple ?_)
 have sz:k5.objs.size=s.heap.objs.size:=by rw[s5.1,s4.1,s3.1,s2.1,s1.1]
 have Y2:IsZip k5 z a b .ellipsis:=s5.extBut _ _ D.bz.symm (s4.extBut _ _ D.dz.symm (s3.extBut _ _ D.bz.symm (s2.extBut _ _ D.cz.symm y1)))
 have YN:∀e o,e≠z->e≠b->e≠c->e≠d->s.heap.get? e=some o->k5.get? e=some o:=λe o e1 e2 e3 e4 g=>s5.extBut _ _ e2 (s4.extBut _ _ e4 (s3.extBut _ _ e2 (s2.extBut _ _ e3 (s1.extBut _ _ e1 g))))
 have c5:k5.IsTupleIter c t1 (k+1):=((y2.extBut s3.extBut D.bc.symm).extBut s4.extBut D.cd).extBut s5.extBut D.bc.symm
 have d5:k5.IsTupleIter d t2 (k+1):=y4.extBut s5.extBut D.bd.symm
 have YZ:z<k5.objs.size:=aI Y2
 show aa0 _ _ (q1' (.ref z) (.ref k5.objs.size) >>= _) _ _ _
 refine aa ?_
 unfold q1'
 have zz6:IsZip (k5.push {cls:=.type "tuple",data:=.seq #[x,y]}) z a b .ellipsis:=ae _ Y2
 refine aa (cj zz6 (by simp) λk7 y7 s7=>?_)
 replace y7:IsZip k7 z a b (ab7 k5.objs.size):=y7
 refine cj y7 (by simp) λk8 y8 s8=>?_
 replace y8:IsZip k8 z a b (ab7 k5.objs.size):=y8
 have up:∀e o,e≠z->k5.get? e=some o->k8.get? e=some o:=λe o e1 g=>s8.extBut _ _ e1 (s7.extBut _ _ e1 (ae _ g))
 have t8:ac0 k8 k5.objs.size x y:=s8.extBut _ _ (fR YZ) (s7.extBut _ _ (fR YZ) (aG _ rfl))
 rw[sz] at y8 t8
 refine ak ⟨_,rfl,?_⟩
 show Q (.ref k5.objs.size) _
 rw[sz]
 exact hQ k8 ⟨y8,up _ _ D.az (YN _ _ D.az D.ab D.ac D.ad zi),⟨x,y,up _ _ D.bz y5⟩,c5.at λo g=>up _ o D.cz g,d5.at λo g=>up _ o D.dz g⟩ t8 λe o e1 e2 e3 e4 g=>up e o e1 (YN e o e1 e2 e3 e4 g)
theorem Ot{Q:Fin->aa1->Prop}(hh:A.handled=none)(D:Dq z a b c d)(Z:OA s.heap z a b c d t1 t2 k .none)
  (o1:t1≠z/\t1≠b/\t1≠c/\t1≠d) (o2:t2≠z/\t2≠b/\t2≠c/\t2≠d) (DT:s.heap.IsTuple t1 xs) (mF:s.heap.IsTuple t2 ys) (Aj:xs[k]?=none\/ys[k]?=none)
  (hE:∀hp e,(∀f o,f≠z->f≠b->f≠c->f≠d->s.heap.get? f=some o->hp.get? f=some o)->(∃o,hp.get? e=some o/\o.cls=.type "StopIteration")->E (.ref e) {s with heap:=hp}) :
  aa0 (aa5 P w) A (Builtin.«zip.__next__» ⟨[.ref z],[]⟩) Q E s:=by
 obtain⟨zz,zi,⟨p,q,zo⟩,z1,z2⟩:=Z
 show aa0 _ _ (field (.ref z) 2 >>= _) _ _ _
 refine aa (bh zz rfl (x:=.bool false) rfl ?_)
 show aa0 _ _ (field (.ref z) 3 >>= _) _ _ _
 refine aa (bh zz rfl (x:=.ref a) rfl ?_)
 refine aa (cu zi rfl ?_)
 show aa0 _ _ (q2' (.ref z) >>= _) _ _ _
 refine aa ?_
 unfold q2'
 refine aa (bh zz rfl (x:=.none) rfl (ak ?_))
 simp only[jE]
 refine aa (fe ?_)
 refine aa (bh zz rfl (x:=.ref b) rfl ?_)
 refine aa (cj zz (by simp) λk1 y1 s1=>?_)
 replace y1:IsZip k1 z a b .ellipsis:=y1
 refine aa ?_
 simp only[pP,rm,eM,gQ]
 refine aa (aa (gh ?_))
 show aa0 _ _ (q0' (.ref c) >>= _) _ _ _
 cases hx:xs[k]? with
 |none=>
  refine aa (kG hh (z1.extBut s1.extBut D.cz) (DT.extBut s1.extBut o1.1) hx λk2 e s2 he=>?_)
  obtain⟨oe,An,Gn⟩:=he
  have Y0:IsZip k2 z a b .ellipsis:=s2 _ _ D.cz.symm y1
  have ez:e≠z:=λg=>by subst g;rw[Y0] at An;cases An;simp at Gn
  refine cj Y0 (by simp) λk3 _ s3=>hE k3 e (λf o f1 _ f3 _ g=>s3.extBut _ _ f1 (s2 _ _ f3 (s1.extBut _ _ f1 g))) ⟨oe,s3.extBut _ _ ez An,Gn⟩
 |some x=>
  have hy:ys[k]?=none:=by
   rcases Aj with h|h
   ·rw[hx] at h;cases h
   ·exact h
  refine aa (oS (z1.extBut s1.extBut D.cz) (DT.extBut s1.extBut o1.1) hx λk2 y2 s2=>ak ?_)
  have w2:ac0 k2 b p q:=s2.extBut _ _ D.bc (s1.extBut _ _ D.bz zo)
  refine aa (cu w2 rfl ?_)
  refine aa (eU w2 λk3 y3 s3=>?_)
  refine aa (oh (ak ?_))
  refine aa (aa (gh ?_))
  show aa0 _ _ (q0' (.ref d) >>= _) _ _ _
  refine aa (kG hh (((z2.extBut s1.extBut D.dz).extBut s2.extBut D.cd.symm).extBut s3.extBut D.bd.symm) (((mF.extBut s1.extBut o2.1).extBut s2.extBut o2.2.2.1).extBut s3.extBut o2.2.1) hy λk4 e s4 he=>?_)
  obtain⟨oe,An,Gn⟩:=he
  have Y1:IsZip k4 z a b .ellipsis:=s4 _ _ D.dz.symm (s3.extBut _ _ D.bz.symm (s2.extBut _ _ D.cz.symm y1))
  have ez:e≠z:=λg=>by subst g;rw[Y1] at An;cases An;simp at Gn
  refine cj Y1 (by simp) λk5 _ s5=>hE k5 e (λf o f1 f2 f3 f4 g=>s5.extBut _ _ f1 (s4 _ _ f4 (s3.extBut _ _ f2 (s2.extBut _ _ f3 (s1.extBut _ _ f1 g))))) ⟨oe,s5.extBut _ _ ez An,Gn⟩
theorem JP{x y:Value}(D:Dq z a b c d)(Z:OA s.heap z a b c d t1 t2 k .none)
  (o1:t1≠z/\t1≠b/\t1≠c/\t1≠d) (o2:t2≠z/\t2≠b/\t2≠c/\t2≠d) (DT:s.heap.IsTuple t1 xs) (mF:s.heap.IsTuple t2 ys) (hx:xs[k]?=some x) (hy:ys[k]?=some y)
  (hQ:∀hp,OA hp z a b c d t1 t2 (k+1) (ab7 s.heap.objs.size)->ac0 hp s.heap.objs.size x y->(∀e o,e≠z->e≠b->e≠c->e≠d->s.heap.get? e=some o->hp.get? e=some o)->Q (some (.ref s.heap.objs.size)) {s with heap:=hp}) :
  aa0 (aa5 P w) A (pyNext (.ref z)) Q E s:=by
 have hT:s.TypeIs (.ref z) "zip":=⟨_,Z.zip,rfl⟩
 unfold pyNext
 exact aa (iF (bW (name:=Str.ofString "__next__") hT eL (di eL hT pK
  (JM D Z o1 o2 DT mF hx hy λhp q1 q2 q3=>ak (hQ hp q1 q2 q3)) (nZ _))))
theorem JQ(hh:A.handled=none)(D:Dq z a b c d)(Z:OA s.heap z a b c d t1 t2 k .none)
  (o1:t1≠z/\t1≠b/\t1≠c/\t1≠d) (o2:t2≠z/\t2≠b/\t2≠c/\t2≠d) (DT:s.heap.IsTuple t1 xs) (mF:s.heap.IsTuple t2 ys) (Aj:xs[k]?=none\/ys[k]?=none)
  (hQ:∀hp,(∀f o,f≠z->f≠b->f≠c->f≠d->s.heap.get? f=some o->hp.get? f=some o)->Q none {s with heap:=hp}):aa0 (aa5 P w) A (pyNext (.ref z)) Q E s:=by
 have hT:s.TypeIs (.ref z) "zip":=⟨_,Z.zip,rfl⟩
 unfold pyNext
 refine aa (iF (bW (name:=Str.ofString "__next__") hT eL
  (di eL hT pK (Ot hh D Z o1 o2 DT mF Aj λhp e hk he=>?_) (nZ _))))
 obtain⟨o,ho,hc⟩:=he
 refine aa (Dk (T:="StopIteration") (b:=true) ⟨o,ho,hc⟩ Kc ?_)
 exact ak (hQ _ hk)
theorem Dg(n:Nat):Dq (n+4) (n+2) (n+3) n (n+1):=by
 have h:∀i j:Nat,i≠j->n+i≠n+j:=λi j h e=>h (Nat.add_left_cancel e)
 exact⟨h 2 4 (by decide),h 3 4 (by decide),h 0 4 (by decide),h 1 4 (by decide),h 2 3 (by decide),h 2 0 (by decide),h 2 1 (by decide),h 3 0 (by decide),h 3 1 (by decide),h 0 1 (by decide)⟩
theorem JJ(n:Nat)(e:Addr)(he:e ∈ [n+4,n+2,n+3,n,n+1]):n<=e:=by
 simp only[aN,ek,pT] at he
 rcases he with rfl|rfl|rfl|rfl|rfl
 ·exact de _ _
 ·exact de _ _
 ·exact de _ _
 ·exact au _
 ·exact de _ _
def z_(K:Frag)(t1 t2:Addr):It:=
  ⟨λi H => ∃xs ys x y,el K H t1 xs/\el K H t2 ys/\xs[i]?=some x/\ys[i]?=some y,
   λi H v H' => ∃T,H T=none/\v=.ref T/\∀xs ys x y,el K H t1 xs->el K H t2 ys->xs[i]?=some x->ys[i]?=some y->H'=upd H T (.tup [x,y]),
   λi H => ∃xs ys,el K H t1 xs/\el K H t2 ys/\(xs.length<=i\/ys.length<=i)⟩
theorem i9{xs:List V}(I:Inv X pins σ H s)(h:el X.K H t xs)(f:lG X pins H b):t≠b:=by
 rintro rfl
 obtain⟨f0,f1,f2,f3,f4,f5⟩:=f
 rcases h with (h|⟨o,h⟩)|⟨o,its,n,hk,_⟩
 ·rw[f0] at h;cases h
 ·rw[f0] at h;cases h
 ·have e:=I.ok.mod.LZ t o hk
  rcases f3 with q|q
  ·exact I.ok.wZ t o e q
  ·exact absurd (bw (aI e) (aA I.ok.Bt q)) (dG _)
theorem yP(D:Dq z a b c d) :
  zv P w K (.Tuple es k pos) (z_ K t1 t2) [z,a,b,c,d] z (λi h=>OA h z a b c d t1 t2 i .none) where
 mem:=by simp
 obj:=λi h st e he=>by
  obtain⟨zz,zi,⟨p,q,zo⟩,⟨o1,e1,c1,d1⟩,⟨o2,e2,c2,d2⟩⟩:=st
  simp at he
  rcases he with rfl|rfl|rfl|rfl|rfl
  ·exact⟨_,zz,λv g=>by cases g⟩
  ·exact⟨_,zi,λv g=>by cases g⟩
  ·exact⟨_,zo,λv g=>by cases g⟩
  ·exact⟨_,e1,λv g=>by rw[d1] at g;cases g⟩
  ·exact⟨_,e2,λv g=>by rw[d2] at g;cases g⟩
 keep:=λi h h' st kp=>by
  obtain⟨zz,zi,⟨p,q,zo⟩,z1,z2⟩:=st
  exact⟨kp z (by simp) _ zz,kp a (by simp) _ zi,⟨p,q,kp b (by simp) _ zo⟩,z1.at λo e=>kp c (by simp) o e,z2.at λo e=>kp d (by simp) o e⟩
 item:=by
  intro X hP hw hK hc i pins s σ H E I hf st hg
  subst hP hw hK
  obtain⟨xs,ys,x,y,h1,h2,hx,hy⟩:=hg
  obtain⟨GW,r1,p1,l1⟩:=I.tuple h1
  obtain⟨l0,r2,p2,l2⟩:=I.tuple h2
  obtain⟨u1,Vb,Yb⟩:=r1.get hx
  obtain⟨u2,hu2,TJ⟩:=r2.get hy
  have Kk:=λ(e:Addr) (he:e ∈ [z,a,b,c,d])=>i9 I h1 (hf e he)
  have vN:=λ(e:Addr) (he:e ∈ [z,a,b,c,d])=>i9 I h2 (hf e he)
  refine JP D st ⟨Kk z (by simp),Kk b (by simp),Kk c (by simp),Kk d (by simp)⟩ ⟨vN z (by simp),vN b (by simp),vN c (by simp),vN d (by simp)⟩
   (show s.heap.IsTuple t1 GW.toArray from p1) (show s.heap.IsTuple t2 l0.toArray from p2) (x:=u1) (y:=u2) (by simpa using Vb) (by simpa using hu2) λhp Z' pr kp=>?_
  refine⟨_,rfl,Ox Z'.zip λhq zq sq=>?_⟩
  have nT:H s.heap.objs.size=none:=I.fresh
  have cW:∀e o,e ∉ [z,b,c,d]->s.heap.get? e=some o->hq.get? e=some o:=λe o he g=>by
   simp at he
   exact sq.extBut _ _ he.1 (kp e o he.1 he.2.1 he.2.2.1 he.2.2.2 g)
  have Tz:s.heap.objs.size≠z:=fR (aI st.zip)
  have prq:ac0 hq s.heap.objs.size u1 u2:=sq.extBut _ _ Tz pr
  have tracked:∀e u,H e=some u->e ∉ [z,b,c,d]:=λe u he hm=>by
   have:H e=none:=(hf e (by simp at hm⊢;rcases hm with r|r|r|r<;>simp[r])).1
   rw[this] at he;cases he
  have wH:j4 X.prog X.w (upd H s.heap.objs.size (.tup [x,y])) hq:=λe u he=>by
   by_cases ee:e=s.heap.objs.size
   ·subst ee
    rw[bE] at he
    cases he
    exact⟨(by show 2<=sizeLine;decide),[u1,u2],.cons Yb (.cons TJ .nil),⟨_,prq,rfl,_,rfl⟩⟩
   ·rw[bf ee] at he
    refine(I.cN e u he).ug (λf o Ak g=>cW f o ?_ g) (λf g=>by rw[bf (bB g nT)];exact g) λf zs g=>by rw[bf (bB g nT)];exact g
    rcases Ak with rfl|Ak
    ·exact tracked f u he
    ·exact tracked f _ Ak
  have I1:Inv X pins σ (upd H s.heap.objs.size (.tup [x,y])) {s with heap:=hq}:=by
   refine I.step (g':=s.gens) (d':=s.drawn) (t':=s.toks) (ch:= [z,b,c,d]) (λe he=>?_) (λe o _ _ he g _=>cW e o he g) (λe o _ _ he g _=>⟨o.slots,cW e o he g⟩)
    (λe o _ g n=>by rw[bf (aW (aI g))];exact n) (λe o he g=>⟨o,cW e o he g⟩) (λe zs g=>by rw[bf (bB g nT)];exact g) (λe o u g=>by rw[bf (bB g nT)];exact g)
    (λe ps g=>⟨#[],by rw[bf (bB g nT),g];simp⟩) (λm hm=>?_) wH I.bare
   ·obtain⟨f0,f1,f2,f3,f4,f5⟩:=hf e (by simp at he⊢;rcases he with r|r|r|r<;>simp[r])
    exact⟨f3,f1,f4,f5⟩
   ·obtain⟨o,DJ,ep,ho,r⟩:=hm
    refine⟨o,DJ,ep,cW _ o (λtI=>?_) ho,r⟩
    exact(hf X.env.locals (by simp at tI⊢;rcases tI with r|r|r|r<;>simp[r])).2.1 rfl
  refine⟨.ref s.heap.objs.size,_,I1,rfl,⟨_,nT,rfl,λxs' ys' x' y' g1 g2 gx gy=>?_⟩,?_,λe he=>?_⟩
  ·have e1:=I.jc g1 h1
   have e2:=I.jc g2 h2
   subst e1;subst e2
   rw[hx] at gx;rw[hy] at gy
   cases gx;cases gy
   rfl
  ·obtain⟨_,zi,⟨p,q,zo⟩,z1,z2⟩:=Z'
   exact⟨zq,sq.extBut _ _ D.az zi,⟨p,q,sq.extBut _ _ D.bz zo⟩,z1.extBut sq.extBut D.cz,z2.extBut sq.extBut D.dz⟩
  ·rw[bf]
   ·exact(hf e he).1
   ·obtain⟨o,ho,_⟩:∃o,s.heap.get? e=some o/\True:=by
     obtain⟨zz,zi,⟨p,q,zo⟩,⟨o1,e1,c1,d1⟩,⟨o2,e2,c2,d2⟩⟩:=st
     simp at he
     rcases he with rfl|rfl|rfl|rfl|rfl
     ·exact⟨_,zz,trivial⟩
     ·exact⟨_,zi,trivial⟩
     ·exact⟨_,zo,trivial⟩
     ·exact⟨_,e1,trivial⟩
     ·exact⟨_,e2,trivial⟩
    exact aW (aI ho)
 done:=by
  intro X hP hw hK hc i pins s σ H E I hf st hg
  subst hP hw hK
  obtain⟨xs,ys,h1,h2,hx⟩:=hg
  obtain⟨GW,r1,p1,l1⟩:=I.tuple h1
  obtain⟨l0,r2,p2,l2⟩:=I.tuple h2
  have e1:=r1.length
  have e2:=r2.length
  have Kk:=λ(e:Addr) (he:e ∈ [z,a,b,c,d])=>i9 I h1 (hf e he)
  have vN:=λ(e:Addr) (he:e ∈ [z,a,b,c,d])=>i9 I h2 (hf e he)
  refine JQ (I.ok.hd hc) D st ⟨Kk z (by simp),Kk b (by simp),Kk c (by simp),Kk d (by simp)⟩ ⟨vN z (by simp),vN b (by simp),vN c (by simp),vN d (by simp)⟩
   (show s.heap.IsTuple t1 GW.toArray from p1) (show s.heap.IsTuple t2 l0.toArray from p2) (by
    rcases hx with q|q
    ·exact .inl (by simp;lia)
    ·exact .inr (by simp;lia)) λhq kp=>⟨rfl,?_⟩
  have cW:∀e o,e ∉ [z,b,c,d]->s.heap.get? e=some o->hq.get? e=some o:=λe o he g=>by
   simp at he
   exact kp e o he.1 he.2.1 he.2.2.1 he.2.2.2 g
  have tracked:∀e u,H e=some u->e ∉ [z,b,c,d]:=λe u he hm=>by
   have:H e=none:=(hf e (by simp at hm⊢;rcases hm with r|r|r|r<;>simp[r])).1
   rw[this] at he;cases he
  refine I.step (g':=s.gens) (d':=s.drawn) (t':=s.toks) (ch:= [z,b,c,d]) (λe he=>?_) (λe o _ _ he g _=>cW e o he g) (λe o _ _ he g _=>⟨o.slots,cW e o he g⟩)
   (λe o _ g n=>n) (λe o he g=>⟨o,cW e o he g⟩) (λe zs g=>g) (λe o u g=>g) (λe ps g=>⟨#[],by rw[g];simp⟩) (λm hm=>?_) (λe u he=>?_) I.bare
  ·obtain⟨f0,f1,f2,f3,f4,f5⟩:=hf e (by simp at he⊢;rcases he with r|r|r|r<;>simp[r])
   exact⟨f3,f1,f4,f5⟩
  ·obtain⟨o,DJ,ep,ho,r⟩:=hm
   refine⟨o,DJ,ep,cW _ o (λtI=>?_) ho,r⟩
   exact(hf X.env.locals (by simp at tI⊢;rcases tI with r|r|r|r<;>simp[r])).2.1 rfl
  ·refine(I.cN e u he).ug (λf o Ak g=>cW f o ?_ g) (λf g=>g) λf zs g=>g
   rcases Ak with rfl|Ak
   ·exact tracked f u he
   ·exact tracked f _ Ak
 self:=λ_ _ _ _ _ st h=>wpAny_pyIter_zip st.zip h
noncomputable abbrev Z9 (h:Heap) (t1:Addr):Heap:=h.push {cls:=.type "tuple_iterator",data:=.fields #[.ref t1,.int 0 0]}
abbrev a_ (h:Heap) (t1 t2:Addr):Heap:=(Z9 h t1).push {cls:=.type "tuple_iterator",data:=.fields #[.ref t2,.int 0 0]}
abbrev b_ (h:Heap) (t1 t2:Addr):Heap:=(a_ h t1 t2).push {cls:=.type "tuple",data:=.seq #[.ref h.objs.size,.ref (Z9 h t1).objs.size]}
abbrev c_ (h:Heap) (t1 t2:Addr):Heap:=(b_ h t1 t2).push {cls:=.type "tuple",data:=.seq #[.none,.none]}
abbrev Oq (h:Heap) (t1 t2:Addr):Heap:=(c_ h t1 t2).push {cls:=.type "zip",data:=.fields #[.none,.bool false,.bool false,.ref (a_ h t1 t2).objs.size,.ref (b_ h t1 t2).objs.size]}
theorem yV(t1 t2:Addr)(xs ys:Array Value) :
  Meets (Builtin.«zip.__new__» ⟨[.type "zip",.ref t1,.ref t2],[]⟩) (λ_ R s=>s.heap.IsTuple t1 xs/\s.heap.IsTuple t2 ys/\R (.ok (.ret (.ref (c_ s.heap t1 t2).objs.size))) {s with heap:=Oq s.heap t1 t2}):=
 .of_wp λprog w A R s h=>by
  obtain⟨hp,g,d,tk,os⟩:=s;obtain⟨DT,mF,h⟩:=h
  have Gv:=sub_zip
  have Zu:Heap.IsTuple (Shared.heap ⟨hp,g,d,tk,os⟩) t1 xs:=DT
  have π:Heap.IsTuple (Shared.heap ⟨hp.push {cls:=.type "tuple_iterator",data:=.fields #[.ref t1,.int 0 0]},g,d,tk,os⟩) t2 ys:=Heap.IsTuple.push mF _
  wp_walk using iP Zu,iP π
  exact⟨_,rfl,h⟩
def aav(K:Frag)(ta:TA):TI:=λσ H R=>ta σ H λvs H1=>∃t1 t2,vs = [.ref t1,.ref t2]/\(∃xs,el K H1 t1 xs)/\(∃ys,el K H1 t2 ys)/\R (z_ K t1 t2) H1
theorem Tn{rh:Pos}{a b:Expr}{ta:TA}(hg:Gl X "zip")(hm:X.mg "zip"=none)(ha:PA X [a,b] ta)(hs:autoParam (aa9 [a,b] X.env = [(false,eval a X.env),(false,eval b X.env)]) o0)
  (OU:autoParam (aa9 [b] X.env = [(false,eval b X.env)]) o0):PI X (.Tuple es k rh) (.Call (.Name "zip" p) [a,b] [] pos) (aav X.K ta):=by
 intro pins s σ H R I h
 refine Call_ (qj I hg hm (show aa6 "zip"=some (.type "zip") from by decide +kernel) (gB (cM (ha pos pins s σ H _ I h) λus s1 ⟨vs,H1,I1,r1,q1⟩=>?_) (by rw[hs,OU]) (by rw[OU];rfl)))
 obtain⟨t1,t2,e,⟨xs,g1⟩,⟨ys,g2⟩,q⟩:=q1
 subst e
 obtain⟨u1,u2,rfl,Yb,TJ⟩:=r1.two
 cases Yb
 cases TJ
 obtain⟨GW,r1,p1,l1⟩:=I1.tuple g1
 obtain⟨l0,r2,p2,l2⟩:=I1.tuple g2
 refine callType_new F.called_zip (by decide) (F.typeCall_zip_2 _ _) (F.newCall_zip_2 _ _) (λobj=>i_ obj _ _) F.entry_zip_new
  (yV t1 t2 GW.toArray l0.toArray) ⟨p1,p2,?_⟩
 have z1:(Z9 s1.heap t1).objs.size=s1.heap.objs.size+1:=c7 ..
 have z2:(a_ s1.heap t1 t2).objs.size=s1.heap.objs.size+2:=by rw[c7,z1]
 have z3:(b_ s1.heap t1 t2).objs.size=s1.heap.objs.size+3:=by rw[c7,z2]
 have z4:(c_ s1.heap t1 t2).objs.size=s1.heap.objs.size+4:=by rw[c7,z3]
 have y5:(Oq s1.heap t1 t2).get? (c_ s1.heap t1 t2).objs.size=some _:=aG _ rfl
 have y4:(Oq s1.heap t1 t2).get? (b_ s1.heap t1 t2).objs.size=some _:=ae _ (aG _ rfl)
 have y3:(Oq s1.heap t1 t2).get? (a_ s1.heap t1 t2).objs.size=some _:=ae _ (ae _ (aG _ rfl))
 have y2:(Oq s1.heap t1 t2).get? (Z9 s1.heap t1).objs.size=some _:=ae _ (ae _ (ae _ (aG _ rfl)))
 have y1:(Oq s1.heap t1 t2).get? s1.heap.objs.size=some _:=ae _ (ae _ (ae _ (ae _ (aG _ rfl))))
 have up:∀e o,s1.heap.get? e=some o->(Oq s1.heap t1 t2).get? e=some o:=λe o g=>ae _ (ae _ (ae _ (ae _ (ae _ g))))
 show _/\_
 rw[z2,z3,z4] at y5
 rw[z1,z2] at y3
 rw[z3] at y4
 rw[z1] at y2
 rw[z4]
 refine⟨⟨_,y5,rfl⟩,?_⟩
 have I2:Inv X pins σ H1 {s1 with heap:=Oq s1.heap t1 t2}:=I1.kept (t':=s1.toks) up
 have D:Dq (s1.heap.objs.size+4) (s1.heap.objs.size+2) (s1.heap.objs.size+3) s1.heap.objs.size (s1.heap.objs.size+1):=Dg s1.heap.objs.size
 have Z:OA (Oq s1.heap t1 t2) (s1.heap.objs.size+4) (s1.heap.objs.size+2) (s1.heap.objs.size+3) s1.heap.objs.size (s1.heap.objs.size+1) t1 t2 0 .none:=⟨y5,y3,⟨_,_,y4⟩,⟨_,y1,rfl,rfl⟩,⟨_,y2,rfl,rfl⟩⟩
 refine(yP (P:=X.prog) (w:=X.w) (K:=X.K) (es:=es) (k:=k) (pos:=rh) D).self X.A 0 _ _ _ Z ?_
 refine⟨s1.heap.objs.size+4,_,_,_,H1,rfl,I2,yP D,Z,λe he=>?_,q⟩
 have hle:s1.heap.objs.size<=e:=JJ s1.heap.objs.size e he
 exact I1.Ab hle (I1.cN.fresh hle)
def y_(x:Str):It:=⟨λi _=>i<x.cps.size,λi H v H'=>H'=H/\∃c,x.cps[i]?=some c/\v=.str ⟨#[c]⟩,λi _=>i=x.cps.size⟩
theorem uq{T:String}{t:Tok}
  (W:∀A':ab4,A'.handled=none->Walks P w A' it [it] [it] x.cps.size (SignAt x) (λi h=>h.IsStrIter it T x t i)) (hs:∀(A:ab4) (i:Nat) (s:aa1) (Q:dw) (E:dw),s.heap.IsStrIter it T x t i->Q (.ref it) s->aa0 (aa5 P w) A (pyIter (.ref it)) Q E s) :
  zv P w K (.Name y py) (y_ x) [it] it (λi h=>h.IsStrIter it T x t i) where
 mem:=by simp
 obj:=λi h st b hb=>by
  have e:b=it:=by simpa using hb
  subst e
  obtain⟨o,e,c,d⟩:=st
  exact⟨o,e,λv z=>by rw[d] at z;cases z⟩
 keep:=λi h h' st k=>by
  obtain⟨o,e,r⟩:=st
  exact⟨o,k it (by simp) o e,r⟩
 item:=by
  intro X hP hw hK hc i pins s σ H E I hf st hg
  subst hP hw hK
  obtain⟨f0,f1,f2,f3,f4,f5⟩:=hf it (by simp)
  refine(W X.A (I.ok.hd hc)).item i s _ E hg st λv h' tk hv A7 kp=>?_
  obtain⟨c,u,wF,rfl⟩:=hv
  have I1:Inv X pins σ H {s with heap:=h',toks:=tk}:=I.turned (t':=tk) (λb o hb e=>kp b o (by simpa using hb) e) f0 f1 f3 f4 f5
  exact⟨_,rfl,ak ⟨.str ⟨#[c]⟩,H,I1,⟨u,rfl⟩,⟨rfl,c,wF,rfl⟩,A7,λb hb=>(hf b hb).1⟩⟩
 done:=by
  intro X hP hw hK hc i pins s σ H E I hf st hg
  subst hP hw hK
  obtain⟨f0,f1,f2,f3,f4,f5⟩:=hf it (by simp)
  have e:i=x.cps.size:=hg
  subst e
  exact(W X.A (I.ok.hd hc)).done s _ E st λh' tk kp=>⟨rfl,I.turned (t':=tk) (λb o hb e=>kp b o (by simpa using hb) e) f0 f1 f3 f4 f5⟩
 self:=hs
def aat(tl:TE):TI:=λσ H R=>tl σ H λx H1=>∃z,x=.str z/\R (y_ z) H1
theorem Tj{l:Expr}{tl:TE}(hl:PE X l tl):PI X (.Name y py) l (aat tl):=by
 intro pins s σ H R I h
 refine cM (hl pins s σ H _ I h) λv s1 ⟨x,H1,I1,r1,q1⟩=>?_
 obtain⟨z,rfl,q⟩:=q1
 obtain⟨t,rfl⟩:=r1
 have fp:∀b ∈ [s1.heap.objs.size],lG X pins H1 b:=λb hb=>by
  have e:b=s1.heap.objs.size:=by simpa using hb
  subst e
  exact I1.Ab (au _) I1.fresh
 cases ha:z.cps.all (·< 128)
 ·refine wpAny_pyIter_wide ha ?_
  exact⟨_,_,_,_,H1,rfl,I1.kept (t':=s1.toks) λb o e=>ae _ e,uq (t:=t) (λA' hA=>Walks.strWide hA _ z t) (λA i s Q E st hq=>wpAny_pyIter_striter_wide st hq),⟨_,aG _ rfl,rfl,rfl⟩,fp,q⟩
 ·refine wpAny_pyIter_ascii ha ?_
  exact⟨_,_,_,_,H1,rfl,I1.kept (t':=s1.toks) λb o e=>ae _ e,uq (t:=t) (λA' hA=>Walks.strAscii hA _ z t) (λA i s Q E st hq=>wpAny_pyIter_striter_ascii st hq),⟨_,aG _ rfl,rfl,rfl⟩,fp,q⟩
noncomputable def J3 (H:Hp):V->Option String
 |.non=>some "NoneType"
 |.bl _=>some "bool"
 |.int _=>some "int"
 |.str _=>some "str"
 |.ref a=>match H a with
  |some (.lst _)=>some "list"
  |some (.tup _)=>some "tuple"
  |some (.dK _)=>some "dict"
  |_=>none
 |_=>none
def LS(t c:String):Bool:=t == c||(t == "bool"&&c == "int")
theorem N7{x:V}{t:String}(h:J3 H x=some t):pW K H x (.type t):=by
 cases x with
 |non=>cases h;exact .non
 |bl b=>cases h;exact .bl b
 |int i=>cases h;exact .int i
 |str z=>cases h;exact .str z
 |ref a=>
  unfold J3 at h
  dsimp only at h
  split at h
  ·rename_i e;cases h;exact .lst e
  ·rename_i e;cases h;exact .tup e
  ·rename_i e;cases h;exact .dK e
  ·cases h
 |E2 _=>cases h
 |Le _=>cases h
 |ty _=>cases h
theorem N6{x:V}{t:String}(h:J3 H x=some t):t ∈ ["NoneType","bool","int","str","list","tuple","dict"]:=by
 cases x with
 |ref a=>
  unfold J3 at h
  dsimp only at h
  split at h<;>first|(cases h;simp)|cases h
 |_=>first|(cases h;simp)|cases h
theorem GZ{t c:String}(ht:t ∈ ["NoneType","bool","int","str","list","tuple","dict"])(hc:c ∈ ["str","int","bool","tuple","list"]):kitOne K (.type t) (.type c)=some (LS t c):=by
 simp only[aN,ek,pT] at ht hc
 rcases hc with rfl|rfl|rfl|rfl|rfl<;>rcases ht with rfl|rfl|rfl|rfl|rfl|rfl|rfl<;>rfl
theorem FF:dQ X (.builtin "isinstance") (λxs H Q=>∃x c t,xs = [x,.ty c]/\J3 H x=some t/\c ∈ ["str","int","bool","tuple","list"]/\Q (.bl (LS t c)) H):=by
 intro pins s σ H xs us Q I r h
 obtain⟨x,c,t,rfl,ht,hc,q⟩:=h
 obtain⟨u,v,rfl,ru,rv⟩:=r.two
 obtain rfl:v=Value.type c:=rv
 exact DY I ru (N7 ht) (GZ (N6 ht) hc) λtk=>⟨.bl _,H,I.tok tk,rfl,q⟩
theorem xS(hc:X.calm=true):dQ X (.builtin "all") (λxs H Q=>∃(l:Addr) (bs:List Bool),xs = [.ref l]/\gq X.K H l (bs.map V.bl)/\Q (.bl (bs.all id)) H):=by
 intro pins s σ H xs us Q I r h
 obtain⟨l,bs,rfl,hl,q⟩:=h
 obtain⟨u,rfl,ru⟩:=r.one
 cases ru
 obtain⟨its,rv,⟨o,n,ho,Rq,Lv,BZ⟩,hz⟩:=I.list hl
 have hL:s.heap.IsList l its.toArray:=⟨o,ho,Rq,n,BZ⟩
 have qd:l<s.heap.objs.size:=aI ho
 have len:bs.length=its.length:=by have:=rv.length;rw[ah] at this;exact this
 refine call_all_walk (oi hL ?_)
 refine⟨s.heap.objs.size,[s.heap.objs.size,l],[s.heap.objs.size],its.toArray.size,_,_,λi=>(bs[i]?).getD true,rfl,Walks.list (A:=X.A.in1) (I.ok.hd hc) _ l (aW qd) its.toArray,
  ⟨⟨_,aG _ rfl,rfl,rfl⟩,hL.push _⟩,λi v s' Q' E' hP hQ=>?_,λh' tk kp=>?_⟩
 ·have hv:its[i]?=some v:=by simpa using hP
  have hi:i<its.length:=(aw.mp hv).1
  have hb:bs[i]?=some bs[i]:=aK (by lia)
  obtain⟨u',fP,ru'⟩:=rv.get (i:=i) (x:=.bl bs[i]) (by rw[bP,hb];rfl)
  rw[hv] at fP
  cases fP
  obtain rfl:v=Value.bool bs[i]:=ru'
  dsimp only at hQ
  rw[hb] at hQ
  exact cS hQ
 ·have e:((List.range its.toArray.size).all λi=>(bs[i]?).getD true)=bs.all id:=by
   rw[aD,<-len]
   rw[cq,aj,aj]
   constructor
   ·intro g b hb
    obtain⟨i,hi,e⟩:=List.mem_iff_getElem.mp hb
    have:=g i (mR.mpr hi)
    rw[aK hi,e] at this
    exact this
   ·intro g i hi
    have hi':=mR.mp hi
    rw[aK hi']
    exact g _ (j6 hi')
  rw[e]
  refine⟨.bl (bs.all id),H,I.kept (t':=tk) λb o e=>?_,rfl,q⟩
  exact kp b o (λz=>by rw[aO.mp z] at e;exact dG _ (aI e)) (ae _ e)
theorem Ej:iX X (compareOp .LtE) (λx y H Q=>∃i j,x=.str i/\y=.str j/\Q (.bl (!decide (j.cps.toList<i.cps.toList))) H):=by
 intro pins s σ H x y v u Q I rx ry h
 obtain⟨i,j,rfl,rfl,q⟩:=h
 obtain⟨t,rfl⟩:=rx
 obtain⟨t',rfl⟩:=ry
 exact PySem.P.le_str ⟨.bl _,H,I,rfl,q⟩
theorem Hh:Qk X "str.upper" (λx xs H Q=>∃z,x=.str z/\xs = []/\3*z.length<=1000/\∀y:Str,y.length<=3*z.length->Q (.str y) H):=by
 intro pins s σ H x xs v us Q I rx rv h
 obtain⟨z,rfl,rfl,hz,q⟩:=h
 obtain⟨t,rfl⟩:=rx
 obtain rfl:=rv.zero
 have h2:(1000:Nat)<=5592405:=by decide
 exact SCL.upper (by lia) λhl=>⟨.str _,H,I.tok _,⟨_,rfl⟩,q _ hl⟩
theorem gm{p:Addr}(h:H p=none)(o:HO):iI H (upd H p o):=λb u q=>by rw[bf (bB q h)];exact q
theorem zM{xs:List V}{lo:Option Int}(h:HT.fQ xs.length 0 lo=0/\HT.fQ xs.length xs.length hi=xs.length):nF xs lo hi=xs:=by
 unfold nF
 rw[h.1,h.2,J7,Nat.sub_zero,fG]
theorem qU{items:Array Value}{vl vu:Value}{lo:Option Int}{Q:dw}(ht:IsTup s.heap t items)(hs:s.heap.IsSliceOf sl vl vu .none)(pl:IsPart vl lo)(pu:IsPart vu hi)
  (hw:HT.fQ items.size 0 lo=0/\HT.fQ items.size items.size hi=items.size) (h:Q (.ref t) s):aa0 (aa5 P w) A (getItem (.ref t) (.ref sl)) Q E s:=by
 obtain⟨os,BZ,U5,Ls⟩:=id hs
 have Wt:s.TypeIs (.ref sl) "slice":=⟨os,BZ,U5⟩
 unfold getItem
 try with_reducible refine cD ?_
 first|refine aa (ak ?_)|skip
 refine aa (zm ht.typeIs (by decide) ?_)
 refine aa (bW (name:=Str.ofString "__getitem__") ht.typeIs bI (di bI ht.typeIs vJ ?_ (xE _ _)))
 show aa0 _ _ (Builtin.Tuple.tupleItemsOf (.ref t) >>= _) _ _ s
 refine aa (P8 ht ?_)
 refine aa (lR Wt ?_)
 rw[bF (by decide)]
 refine aa (HT.km hs pl pu ?_)
 show aa0 _ _ (if (((HT.fQ items.size 0 lo:Nat):Int) == 0&&(1:Int) == 1&&(HT.fQ items.size items.size hi-HT.fQ items.size 0 lo) == items.size)=true then _ else _) _ _ s
 rw[bF (by rw[hw.1,hw.2];simp)]
 refine aa (m:=Builtin.Tuple.tupleIsExact (.ref t)) ?_
 unfold Builtin.Tuple.tupleIsExact
 refine aa (lR ht.typeIs (ak ?_))
 rw[bF (by decide)]
 first
  |exact aa (fe (ak ⟨_,rfl,ak h⟩))
  |exact aa (aa (fe (ak (ak ⟨_,rfl,ak h⟩))))
  |exact aa (fe (aa (ak (ak ⟨_,rfl,ak h⟩))))
theorem tf{α β:Type}{f g:α->Option β}:∀{l:List α},(∀x∈l,f x=g x)->l.filterMap f=l.filterMap g
 | [],_=>rfl
 |x::r,h=>by rw[fA,fA,h x aL,tf λy hy=>h y (ax _ hy)]
theorem IK(xs:List Value):((List.range xs.length).filterMap λ(k:Nat)=>xs.toArray[(((xs.length:Nat):Int)-1+(k:Int)*(-1)).toNat]?).toArray=xs.reverse.toArray:=by
 congr 1
 have e:∀k∈List.range xs.length,xs.toArray[(((xs.length:Nat):Int)-1+(k:Int)*(-1)).toNat]?=xs.reverse[k]? :=λk hk=>by
  have U9:=mR.mp hk
  have:(((xs.length:Nat):Int)-1+(k:Int)*(-1)).toNat=xs.length-1-k:=by lia
  rw[this,jZ,List.getElem?_reverse U9]
 rw[tf e]
 apply List.ext_getElem?
 intro i
 have key:∀(l:List Value),(List.range l.length).filterMap (λk=>l[k]?)=l:=λl=>by
  have:(List.range l.length).filterMap (λk=>l[k]?)=(List.range l.length).map (λk=>l.getD k .none):=by
   rw[<-List.filterMap_eq_map]
   refine tf λk hk=>?_
   have U9:=mR.mp hk
   rw[aK U9,Function.comp,J8,aK U9]
   rfl
  rw[this]
  apply List.ext_getElem
  ·simp
  ·intro j h1 h2
   rw[List.getElem_map,List.getElem_range,J8,aK h2]
   rfl
 have k2:=key xs.reverse
 rw[vH] at k2
 rw[k2]
theorem qV{its:List Value}{tk:Tok}{Q:dw}(ht:IsTup s.heap t its.toArray)(hs:s.heap.IsSliceOf sl .none .none (.int (-1) tk))
  (hsz:its.length<=sizeLine) (h:Q (.ref s.heap.objs.size) {s with heap:=s.heap.push {cls:=.type "tuple",data:=.seq its.reverse.toArray}}):aa0 (aa5 P w) A (getItem (.ref t) (.ref sl)) Q E s:=by
 obtain⟨os,BZ,U5,Ls⟩:=id hs
 have Wt:s.TypeIs (.ref sl) "slice":=⟨os,BZ,U5⟩
 have Gp:sizeOk (.seq its.reverse.toArray):=by
  show its.reverse.toArray.size<=sizeLine
  rw[aD,vH]
  exact hsz
 unfold getItem
 try with_reducible refine cD ?_
 first|refine aa (ak ?_)|skip
 refine aa (zm ht.typeIs (by decide) ?_)
 refine aa (bW (name:=Str.ofString "__getitem__") ht.typeIs bI (di bI ht.typeIs vJ ?_ (xE _ _)))
 show aa0 _ _ (Builtin.Tuple.tupleItemsOf (.ref t) >>= _) _ _ s
 refine aa (P8 ht ?_)
 refine aa (lR Wt ?_)
 rw[bF (by decide)]
 refine aa ?_
 unfold Builtin.Slice.sliceApplied Builtin.Slice.sliceFields
 refine aa (aa (bh BZ Ls (x:=.none) rfl (aa (bh BZ Ls (x:=.none) rfl (aa (bh BZ Ls (x:=.int (-1) tk) rfl (ak ?_)))))))
 refine aa (slicePart_int ?_)
 show aa0 _ _ (if ((-1:Int) == 0)=true then _ else _) _ _ s
 rw[bJ (by decide)]
 refine aa (uy (aa (uy (aa (ak ?_)))))
 have adj:Builtin.Slice.sliceAdjust none none (-1) ((its.toArray.size:Nat):Int)=(((its.length:Nat):Int)-1,-1):=by
  unfold Builtin.Slice.sliceAdjust
  simp
 have plc:Builtin.Slice.slicePlaces (((its.length:Nat):Int)-1) (-1) (-1)=its.length:=by
  unfold Builtin.Slice.slicePlaces
  have h1 : ¬ ((-1:Int) > 0):=by lia
  have h2 : - (-1:Int)=1:=by decide
  simp only[h1,pS,h2,Int.ediv_one]
  split<;>lia
 show aa0 _ _ (match Builtin.Slice.sliceAdjust none none (-1) ((its.toArray.size:Nat):Int) with|(lo,hi)=>pure (lo,(-1:Int),Builtin.Slice.slicePlaces lo hi (-1))) _ _ s
 rw[adj]
 show aa0 _ _ (pure (((its.length:Nat):Int)-1,(-1:Int),Builtin.Slice.slicePlaces (((its.length:Nat):Int)-1) (-1) (-1))) _ _ s
 rw[plc]
 refine ak ?_
 show aa0 _ _ (if ((((its.length:Nat):Int)-1) == 0&&(-1:Int) == 1&&its.length == its.toArray.size)=true then _ else _) _ _ s
 rw[bJ (by intro z;rw[ay,ay] at z;exact absurd z.1.2 (by decide)),IK]
 first
  |exact aa (m:=Builtin.Tuple.tupleExact _) (bT (ak ⟨_,rfl,ak h⟩) Gp)
  |exact aa (aa (m:=Builtin.Tuple.tupleExact _) (bT (ak (ak ⟨_,rfl,ak h⟩)) Gp))
  |exact aa (aa (m:=Builtin.Tuple.tupleExact _) (bT (ak ⟨_,rfl,ak h⟩) Gp))
structure qP (w:ab1) (K:Frag) (a:Addr) (tab:Str->Option (lS7)):Prop where
 ex:∃(es:Array DictEntry) (n:Nat),K.lookup a=some ⟨.type "dict",none,.dict es n,#[]⟩/\KeysLit w.params es.toList /\
  ∀x,match tab x with
   |some ks=>∃b,findBy Value.isStrOf es x=some (.ref b)/\∃(o:Obj) (its:Array Value) (m:Nat),K.lookup b=some o/\o.cls=.type "tuple"/\o.data=.seq its m/\its.size<=sizeLine/\Vals (ks.map V.str) its.toList
   |none=>findBy Value.isStrOf es x=none
 lo:(a == ab6)=false
def abv(K:Frag)(tab:Str->Option (lS7))(te:TE):TE:=λσ H Q=>te σ H λy H1=>∃x,y=.str x/\(match tab x with
 |some ks=>∀b,el K H1 b (ks.map V.str)->Q (.ref b) H1
 |none=>Q .non H1)
theorem Et{tab:Str->Option (lS7)}(T:qP X.w X.K a tab)(hg:Gl X n)(hm:X.mg n=some (.ref a))(he:PE X e te)(hd:autoParam ((n == ("__debug__":Str))=false) v0)
  (tG:autoParam (ab3 (.Name n p) "get" X.env (eval (.Name n p) X.env)=eval (.Name n p) X.env) o0)
  (Rk:autoParam (((ac5 du (aa9 [e] X.env)).all (λx=>!x.1)&&(backToKw du (keywordEach [] X.env)).all (λx=>x.1.isSome)
   && decide ([e].length+([]:List ac4).length+(if ([]:List ac4).isEmpty then 0 else 1)<30))=true) o0)
  (o4:autoParam ((apos.endLine == du.line)=true) o0) (hs:autoParam (aa9 [e] X.env = [(false,eval e X.env)]) o0) :
  PE X (.Call (.Attribute (.Name n p) "get" apos) [e] [] du) (abv X.K tab te):=by
 intro pins s σ H Q I h
 obtain⟨es,k,lk,keys,look⟩:=T.ex
 have hm0:=Fc (prog:=X.prog) (w:=X.w) I.nO lk keys
 refine Vs tG Rk o4 rfl (kN I hg hm ?_ hd)
 refine⟨"dict","dict.get",UO,Y4,PySem.F.type_dict_get,hm0.typeIs,hm0.noDict,?_⟩
 have hPA:PA X [e] (CU te Uk):=Cn he dA (by rw[hs];rfl)
 have hA:=hPA du pins s σ H (λvs H1=>match vs with
  | [y]=>∃x,y=.str x/\(match tab x with
   |some ks=>∀b,el X.K H1 b (ks.map V.str)->Q (.ref b) H1
   |none=>Q .non H1)
  |_=>False) I h
 rw[hs] at hA⊢
 refine jz (by rfl) (ky ?_)
 refine cM hA λus s2 ⟨vs,H2,I2,r2,q2⟩=>?_
 have lX:=Fc (prog:=X.prog) (w:=X.w) I2.nO lk keys
 match vs,r2,q2 with
 | [y],r2,⟨x,ey,q⟩=>
  subst ey
  obtain⟨u,rfl,t,rfl⟩:=r2.one
  refine call_meetsIn Y4 lX.typeIs PySem.F.entry_dict_get (PySem.F.args_dict_get_2 _ _) (meets_dict_get (strKind X.prog X.w) a (xF X.prog X.w x t) T.lo) ⟨_,lX,?_⟩
  have lx:=look x
  cases ht:tab x with
  |some ks=>
   rw[ht] at lx q
   obtain⟨b,fb,o,its,m,l1,l2,l3,l4,l5⟩:=lx
   rw[fb]
   exact⟨.ref b,H2,I2.tok _,rfl,q b (.inr ⟨o,its,m,l1,l2,l3,l4,l5⟩)⟩
  |none=>
   rw[ht] at lx q
   rw[lx]
   exact⟨.non,H2,I2.tok _,rfl,q⟩
structure Src (K:Frag) (mg:mG7) (x:Str) (st:Stmt) (ps:lS7):Prop where
 ex:∃(f:Addr) (fd:ab5),Kg K x x st f fd/\mg x=some (.ref f)/\Binds K fd ps []
section
variable {st:Stmt}
end
noncomputable def bY:Expr->Bool
 |.Starred _ _=>false
 |_=>true
theorem cF(h:bY e=true):aa9 (e::es) env=(false,eval e env)::aa9 es env:=by
 cases e<;>first|rfl|cases h
theorem gJ{env:Env}{pos:Pos}:∀{es:List Expr},es.all bY=true->(ac5 pos (aa9 es env)).any (·.1)=false
 | [],_=>rfl
 |e::es,h=>by
  rw[aB,ay] at h
  rw[cF h.1]
  have ih:=gJ (env:=env) (pos:=pos) h.2
  show(false||(ac5 pos (aa9 es env)).any (·.1))=false
  rw[ih];rfl
theorem kj{t:TA}(ha:PE X e te)(hr:PA X es t)(h:autoParam (bY e=true) o0):PA X (e::es) (CU te t):=Cn ha hr (cF h)
noncomputable def zJ:Expr->Option V
 |.Constant (.str x) _ _=>some (.str x)
 |.Constant (.int i) _ _=>some (.int i)
 |.Constant (.bool b) _ _=>some (.bl b)
 |.Constant .none _ _=>some .non
 |_=>none
theorem HK{v:V}(h:zJ e=some v):PE X e (tC v)/\bY e=true:=by
 unfold zJ at h
 split at h
 ·cases h;exact⟨xa,rfl⟩
 ·cases h;exact⟨ma,rfl⟩
 ·cases h;exact⟨O9,rfl⟩
 ·cases h;exact⟨HN,rfl⟩
 ·cases h
theorem pj{X:Cx}:∀{es:List Expr} (vs:List V),es.map zJ=vs.map some->PA X es (λ_ H Q=>Q vs H)
 | [],[],_=>dA
 | [],_::_,h=>by cases h
 |_::_,[],h=>by cases h
 |e::es,v::vs,h=>by
  rw[aP,aP] at h
  injection h with h1 h2
  obtain⟨a,b⟩:=HK (X:=X) h1
  exact kj a (pj vs h2) b
def Yx(t:TT):TT:=λσ H Q=>∃M:Bool->Hp->Prop,t σ H M/\∀v H',M v H'->Q v H'
theorem Tt{t:TT}(h:PT X e t):PT X e (Yx t):=by
 intro pins s σ H Q I hq
 obtain⟨M,a,b⟩:=hq
 exact cM (h pins s σ H M I a) λu s1 ⟨H',I',q⟩=>⟨H',I',b u H' q⟩
def abp(sp:Sp)(t:TA):TE:=λσ H Q=>t σ H λvs H1=>sp vs H1 Q E0
theorem lA{t:TA}{id:String}(hc:dQ X (.builtin id) r)(hg:Gl X x)(hm:X.mg x=none)(hv:aa6 x=some (.builtin id))(ha:PA X (e::es) t)
  (hn:autoParam (x≠"__name__") v0) (jT:autoParam ((x == ("__debug__":Str))=false) v0) (eo:autoParam ((e::es).all bY=true) o0):PE X (.Call (.Name x p) (e::es) [] pos) (Z2 r t):=
 HI hc hg hm hv ha hn jT (cF (by rw[aB,ay] at eo;exact eo.1)) (gJ (by rw[aB,ay] at eo;exact eo.2))
theorem Pa{t:TA}{id:String}(hc:dQ X (.type id) r)(hg:Gl X x)(hm:X.mg x=none)(hv:aa6 x=some (.type id))(ha:PA X (e::es) t)
  (hn:autoParam (x≠"__name__") v0) (jT:autoParam ((x == ("__debug__":Str))=false) v0) (eo:autoParam ((e::es).all bY=true) o0):PE X (.Call (.Name x p) (e::es) [] pos) (Z2 r t):=
 Er hc hg hm hv ha hn jT (cF (by rw[aB,ay] at eo;exact eo.1)) (gJ (by rw[aB,ay] at eo;exact eo.2))
noncomputable def qw(k:Nat)(js:List Nat)(σ:St):St:=List.replicate k none++js.map λj=>(σ[j]?).join
theorem Q_(k:Nat)(js:List Nat)(hl:k+js.length=N'.length)(hn:js.map (λj=>X.N[j]?)=(N'.drop k).map some)(hf:∀x∈N'.drop k,(x,NameKind.free)∈scope.names) :
  ∀σ:St,σ.length=X.N.length->rZ X N' scope σ (qw k js σ):=by
 intro σ _
 refine⟨by unfold qw;rw[ai,bV,ah];exact hl,λi x v h1 h2=>?_⟩
 unfold qw at h2
 by_cases hi:i<k
 ·rw[aV (by simpa using hi),fE,bF hi] at h2
  cases h2
 ·rw[bg (by simpa using hi),bV,bP] at h2
  cases hj:js[i-k]? with
  |none=>rw[hj] at h2;cases h2
  |some j=>
   rw[hj] at h2
   have h3:(σ[j]?).join=some v:=by simpa using h2
   have e1:(N'.drop k)[i-k]?=some x:=by rw[List.getElem?_drop];rw[show k+(i-k)=i by lia];exact h1
   have e2:=eB (λl=>l[i-k]?) hn
   simp only[bP,hj,e1,rn] at e2
   refine⟨hf x (aS e1),j,cL e2,?_⟩
   cases hs:σ[j]? with
   |none=>rw[hs] at h3;cases h3
   |some o=>
    rw[hs] at h3
    have:o=some v:=h3
    rw[this]
theorem zI(sc:Scope)(WY:autoParam (X.env.scope=sc) o0)(a:autoParam (scope.kind=.function) ac9)(b:autoParam (N'.Nodup) ac9)(c:autoParam (∀y∈scope.names,y.2≠.cell) ac9)(d:autoParam (∀y∈scope.names,y.2=.local->scope.names.lookup y.1=some .local) ac9)
  (e:autoParam (∀y∈scope.names,y.2=.free->sc.names.lookup y.1=some .cell) ac9)
  (f:autoParam (∀y∈scope.names,y.2=.free->(scope.names.map λ(n,k)=>if (k == .free&&sc.kind == .function&&sc.names.lookup n == some .cell) then(n,NameKind.cell) else(n,k)).lookup y.1≠some .local) ac9):g7 X N' scope:=by
 subst WY
 exact⟨a,b,c,d,e,λx hx=>f (x,.free) hx rfl⟩
theorem Ft:aa6 "len"=some (.builtin "len"):=PySem.boot_len
theorem cH:aa6 "isinstance"=some (.builtin "isinstance"):=by decide +kernel
theorem Qx:aa6 "all"=some (.builtin "all"):=by decide +kernel
theorem vQ:aa6 "list"=some (.type "list"):=by decide +kernel
theorem xQ:aa6 "tuple"=some (.type "tuple"):=by decide +kernel
theorem Fu:aa6 "str"=some (.type "str"):=by decide +kernel
theorem Fs:aa6 "int"=some (.type "int"):=by decide +kernel
theorem Kt:aa6 "bool"=some (.type "bool"):=by decide +kernel
theorem Pb{n:String}(hm:X.mg x=none)(hv:aa6 x=some (.type n))(hg:Gl X x)(hn:autoParam (x≠"__name__") v0)(hd:autoParam ((x == ("__debug__":Str))=false) v0):PE X (.Name x pos) (tC (.ty n)):=
 MM hg hm hv rfl hn hd
noncomputable def pJ(C t:Addr)(tb:Value):Obj:={cls:=.ref C,data:=.fields #[.ref t,tb,.none,.none,.bool false,.none]}
def Ex(h:Heap)(a C T:Addr)(fl:Value):Prop:=(∃t,h.get? a=some (pJ C t (.ref T)))/\T≠a/\∃oT ts,h.get? T=some oT/\oT.data=.fields ts/\ts[3]?=some fl
structure Mv (fs:List Addr) (a T:Addr) (h h':Heap):Prop where
 keep:∀b o,h.get? b=some o->b∉fs->b≠a->b≠T->h'.get? b=some o
 slot:∀b o,h.get? b=some o->b∈fs->b≠a->b≠T->∃sl,h'.get? b=some {o with slots:=sl}
theorem Mv.any{fs:List Addr}(m:Mv fs a T h h')(e:h.get? b=some o)(h1:b≠a)(h2:b≠T):∃sl,h'.get? b=some {o with slots:=sl}:=by
 by_cases hb:b∈fs
 ·exact m.slot b o e hb h1 h2
 ·exact⟨o.slots,m.keep b o e hb h1 h2⟩
section
variable {Q:Unit->aa1->Prop}
theorem Lc(C t:Addr)(tb x:Value):(pJ C t tb).mapFields (·.setIfInBounds 1 x)=pJ C t x:=rfl
theorem ye{head:Value}{Lr:Bool}(tH:A.frames=some (env::outer))(hl:s.heap.FunFrames base (env::outer))(hf:env.frame=some L)(he:s.heap.get? a=some (pJ C t tb))
  (h:∀h' T',s.heap.get? T'=none->s.heap.objs.size<=T'->Ex h' a C T' (ab7 L)->Mv ((env::outer).filterMap (·.frame)) a a s.heap h'->Q () {s with heap:=h'}) :
  aa0 M A (do let x <-frameOf env;let pl <-entryPlaceOf L Lr;let b <-EntryCells.newEntry head x .none (ab7 L) .none pl;setField (.ref a) 1 b) Q E s:=by
 have WO:a∉(env::outer).filterMap (·.frame):=λhm=>by
  obtain⟨_,o,ho,hn⟩:=hl.mem hm
  rw[he] at ho;cases ho;exact hn _ rfl
 refine aa (wpAny_frameOf_fun tH hl hf λh1 hs=>?_)
 refine aa (wpAny_entryPlaceOf λpl eo=>?_)
 unfold EntryCells.newEntry newFields
 refine aa (bT ?_ (eo.sizeOk5 _ _ _ _ _))
 have he1:h1.get? a=some (pJ C t tb):=(hs.2.1 a WO).trans he
 have he2:=ae (h:=h1) {cls:=.type "traceback",dict:=none,data:=.fields ([head,.ref L,.none,ab7 L,.none]++(if pl.isEmpty then List.replicate 6 Value.none else pl)).toArray} he1
 refine gR he2 rfl (Nat.lt_of_sub_pos (Nat.succ_pos 4)) ?_
 have Al:h1.objs.size≠a:=fR (aI he1)
 have hup:∀b o,s.heap.get? b=some o->b≠h1.objs.size:=λb o e=>by
  obtain⟨sl,e1⟩:=hs.2.2 b o e
  exact aW (aI e1)
 have jL:s.heap.get? h1.objs.size=none:=by
  cases q:s.heap.get? h1.objs.size with
  |none=>rfl
  |some o=>exact absurd rfl (hup _ o q)
 refine h _ h1.objs.size jL (zj hs.1.symm) ⟨⟨t,?_⟩,Al,{cls:=.type "traceback",dict:=none,data:=.fields ([head,.ref L,.none,ab7 L,.none]++(if pl.isEmpty then List.replicate 6 Value.none else pl)).toArray},_,?_,rfl,?_⟩ ⟨λb o e hb ha _=>?_,λb o e hb ha _=>?_⟩
 ·rw[<-Lc C t tb]
  exact dy _ he2 rfl
 ·rw[bZ _ _ (cR Al)]
  exact aG h1 rfl
 ·first|(simp;done)|(rcases eo with rfl|⟨_,_,_,_,_,_,_,rfl⟩<;>simp)
 ·rw[bZ _ _ (cR ha)]
  exact ae _ ((hs.2.1 b hb).trans e)
 ·obtain⟨sl,e1⟩:=hs.2.2 b o e
  refine⟨sl,?_⟩
  rw[bZ _ _ (cR ha)]
  exact ae _ e1
theorem XB(tH:A.frames=some (env::outer))(hl:s.heap.FunFrames base (env::outer))(hf:env.frame=some L)(he:s.heap.get? a=some (pJ C t .none))
  (h:∀h' T',s.heap.get? T'=none->s.heap.objs.size<=T'->Ex h' a C T' (ab7 L)->Mv ((env::outer).filterMap (·.frame)) a a s.heap h'->Q () {s with heap:=h'}):aa0 M A (noteFrame (.ref a) env) Q E s:=by
 unfold noteFrame
 simp only[hf]
 refine aa (bh he rfl (x:=.none) rfl ?_)
 rw[bJ (by decide)]
 exact ye tH hl hf he h
theorem XC(tH:A.frames=some (env::outer))(hl:s.heap.FunFrames base (env::outer))(hf:env.frame=some L)(he:Ex s.heap a C T .none)
  (h:∀h' T',s.heap.get? T'=none->s.heap.objs.size<=T'->Ex h' a C T' (ab7 L)->Mv ((env::outer).filterMap (·.frame)) a T s.heap h'->Q () {s with heap:=h'}):aa0 M A (noteFrame (.ref a) env) Q E s:=by
 obtain⟨⟨t,ha⟩,Al,oT,ts,hT,hd,h3⟩:=he
 unfold noteFrame
 simp only[hf]
 refine aa (bh ha rfl (x:=.ref T) rfl ?_)
 rw[bF (show(Value.ref T != Value.none)=true from by simp)]
 refine aa (bh hT hd h3 ?_)
 rw[bJ (show ¬ ((Value.none == ab7 L)=true) from by simp[ab7])]
 refine aa (gR hT hd (gP.mp h3).1 ?_)
 have J1:∀b,b≠T->(s.heap.update T (Obj.mapFields (·.setIfInBounds 3 Value.none))).get? b=s.heap.get? b:=λb hb=>bZ _ _ (cR hb)
 have nr:∀b o,s.heap.get? b=some o->(∀vs,o.data≠.fields vs)->b≠T:=λb o hb WO q=>by
  rw[q,hT] at hb;cases hb;exact WO ts hd
 refine ye (s:={s with heap:=s.heap.update T (Obj.mapFields (·.setIfInBounds 3 Value.none))}) tH (hl.of_keeps λb o hb WO=>⟨o,(J1 b (nr b o hb WO)).trans hb,rfl⟩) hf ((J1 a (cR Al)).trans ha) λh' T' f1 f1' f2 f3=>?_
 refine h h' T' ?_ ?_ f2 ⟨λb o e hb h1 h2=>f3.keep b o ((J1 b h2).trans e) hb h1 h1,λb o e hb h1 h2=>f3.slot b o ((J1 b h2).trans e) hb h1 h1⟩
 ·by_cases q:T'=T
  ·rw[q] at f1
   have z:=dy (Obj.mapFields (·.setIfInBounds 3 Value.none)) hT (rY (iO hd _))
   rw[z] at f1
   cases f1
  ·exact(J1 T' q).symm.trans f1
 ·have z:=Heap.size_after_update s.heap T (Obj.mapFields (·.setIfInBounds 3 Value.none))
  exact aA (zj z.symm) f1'
theorem Ld(he:Ex s.heap a C T fl)(h:∀h',Ex h' a C T .none->Heap.SameBut T s.heap h'->Q () {s with heap:=h'}):aa0 M A (setFlight (.ref a) none) Q E s:=by
 obtain⟨⟨t,ha⟩,Al,oT,ts,hT,hd,h3⟩:=he
 have hz:3<ts.size:=(gP.mp h3).1
 unfold setFlight
 refine aa (bh ha rfl (x:=.ref T) rfl ?_)
 rw[bF (show(Value.ref T != Value.none)=true from by simp)]
 refine gR hT hd hz (h _ ⟨⟨t,(bZ _ _ Al).trans ha⟩,Al,_,_,dy _ hT (rY (iO hd _)),iO hd _,by simp[hz]⟩ (ij ..))
end
theorem uH:entryFor table "proto.unchain"=some Builtin.«proto.unchain»:=entryFor_of_tree (by kernel_rfl)
section
variable {e:Addr}
theorem Bf{x:Value}{Q:dw}(he:s.heap.get? e=some (pJ C t tb))(h:Q .none s) :
  aa0 (aa5 prog w) A (runValue (.builtin "proto.unchain" ⟨[x,.ref e,.ref e,.bool false],[]⟩)) Q E s:=by
 refine wpAny_runValue (fZ uH ?_)
 unfold Builtin.«proto.unchain»
 refine aa (bh he rfl (x:=.none) rfl ?_)
 show aa0 (aa5 prog w) _ (if (Value.none == Value.none)=true then(ret .none:Sem Fin) else _) _ _ _
 rw[bF (by decide)]
 exact ak h
theorem IG{α:Type}{x:Addr}{ox:Obj}{vs:Array Value}{Q:α->aa1->Prop}(hh:A.handled=some (.ref e))(he:s.heap.get? e=some (pJ C t tb))(hx:s.heap.get? x=some ox)(hd:ox.data=.fields vs)(hz:2<vs.size)(Al:e≠x)
  (h:E (.ref x) {s with heap:=s.heap.update x (Obj.mapFields (·.setIfInBounds 2 (.ref e)))}):aa0 (aa5 prog w) A (raiseNew (.ref x):Sem α) Q E s:=by
 unfold raiseNew
 refine aa (wpAny_handled ?_)
 rw[hh]
 show aa0 _ _ (if (Value.ref e != Value.ref x)=true then _ else _) _ _ _
 rw[bF (by simp[Al])]
 refine aa (cD (Bf he ?_))
 exact aa (gR (M:=aa5 prog w) (A:=A) (E:=E) (x:=.ref e) hx hd hz (wpAny_throw h))
theorem Bc{tp:Addr}{items}(hh:A.handled=some (.ref e))(he:s.heap.get? e=some (pJ C t tb))(Al:e≠it)
  (hit:s.heap.IsTupleIter it tp i) (ht:s.heap.IsTuple tp items) (hx:items[i]?=none)
  (hQ:∀h',Heap.ExtBut it s.heap h'->Q none {s with heap:=h'}):aa0 (aa5 prog w) A (pyNext (.ref it)) Q E s:=by
 obtain⟨o,ho,hc,hd⟩:=id hit
 obtain⟨ol,ZA,_,nl,WG⟩:=ht
 unfold pyNext
 refine aa (iF (bW (name:=Str.ofString "__next__") hit.typeIs dm (di dm hit.typeIs lN ?_ (lB _))))
 show aa0 _ _ (field (.ref it) 0 >>= _) _ _ s
 refine aa (bh ho hd (x:=.ref tp) rfl ?_)
 show aa0 _ _ (if (Value.ref tp == Value.none)=true then _ else _) _ _ s
 rw[bJ (show ¬ ((Value.ref tp == Value.none)=true) from aH)]
 show aa0 _ _ (field (.ref it) 1 >>= _) _ _ s
 refine aa (bh ho hd (x:=.int i 0) rfl ?_)
 show aa0 _ _ (seqItems? (.ref tp) >>= _) _ _ s
 refine aa (cu ZA WG ?_)
 simp only[oa,hx]
 refine aa (fe (aa (gR ho hd (by simp) ?_)))
 show aa0 _ _ (newExc (.type "StopIteration") [] >>= _) _ _ _
 refine aa ?_
 simp only[newExc,newTuple]
 refine aa (bT ?_ (by size_fits))
 refine aa (m:=firstArgMember _ _) (EW (a:=Value.none) (by first|rfl|(simp only[firstArgMember];rfl)) ?_)
 refine bT ?_ (by size_fits)
 have k1:∀{h1:Heap}{ob:Obj},h1.get? e=some (pJ C t tb)->(h1.push ob).get? e=some (pJ C t tb):=λq=>ae _ q
 have k0:(s.heap.update it (Obj.mapFields (·.setIfInBounds 0 Value.none))).get? e=some (pJ C t tb):=(bZ _ _ (cR Al)).trans he
 refine IG (C:=C) (t:=t) (tb:=tb) (e:=e) hh (k1 (k1 k0)) (aG _ rfl) rfl (by simp[ownMembersOf]) (aW (aI (k1 k0))) ?_
 refine aa (Dk (T:="StopIteration") (b:=true) ⟨_,dy _ (aG _ rfl) rfl,rfl⟩ Kc ?_)
 refine ak (hQ _ ?_)
 intro b o hb q
 have q1:(s.heap.update it (Obj.mapFields (·.setIfInBounds 0 Value.none))).get? b=some o:=(bZ _ _ (cR hb)).trans q
 have q2:=ae ({cls:=.type "tuple",data:=.seq #[]}:Obj) q1
 exact(bZ _ _ (cR (aW (aI q2)))).trans (ae _ q2)
end
theorem dI.there{o:HO}(x:dI P w H h a o):∃ob,h.get? a=some ob:=by
 cases o with
 |lst xs=>obtain⟨_,_,_,_,e⟩:=x;exact⟨_,e⟩
 |tup xs=>obtain⟨_,_,_,o,e,_⟩:=x;exact⟨_,e⟩
 |dK kvs=>obtain⟨_,_,_,_,o,_,_,e,_⟩:=x;exact⟨_,e⟩
 |dT kvs=>obtain⟨_,_,_,_,o,_,_,e,_⟩:=x;exact⟨_,e⟩
 |set S n=>obtain⟨o,_,_,_,e,_⟩:=x;exact⟨_,e⟩
 |ins C dx fs=>obtain⟨_,_,_,e,_⟩:=x;exact⟨_,e⟩
 |own y=>exact x
 |xd fs=>obtain⟨_,⟨o,_,_,e,_⟩,_⟩:=x;exact⟨_,e⟩
 |ZW lo hi=>obtain⟨_,_,_,e⟩:=x;exact⟨_,e⟩
 |Ad ob u=>obtain⟨e,_⟩:=x;exact⟨_,e⟩
 |PQ ps=>exact⟨_,(show h.get? a=some _ from x)⟩
 |met f y=>exact⟨_,(show h.get? a=some _ from x)⟩
 |ext φ=>exact x.2.1
theorem j4.none_of(x:j4 P w H h)(e:h.get? a=none):H a=none:=by
 cases q:H a with
 |none=>rfl
 |some o=>
  obtain⟨ob,z⟩:=(x a o q).there
  rw[e] at z;cases z
theorem j4.keep(x:j4 P w H h)(k:∀b u o,H b=some u->h.get? b=some o->h'.get? b=some o):j4 P w H h':=λa o e=>
 (x a o e).ug (λb u hb q=>by
  rcases hb with rfl|hb
  ·exact k _ _ _ e q
  ·exact k _ _ _ hb q) (λ_ q=>q) λ_ _ q=>q
structure Fl (P:ab0) (w:ab1) (l:List Env) (H:Hp) (s:aa1) (H':Hp) (a C:Addr) (fl:Value) (s':aa1):Prop where
 os:s'.os=s.os
 bare:AllBare s'.gens
 un:Un (rJ l) [] H H' s.heap s'.heap
 cN:j4 P w H' s'.heap
 na:H' a=none
 new:s.heap.get? a=none
 ex:∃T,Ex s'.heap a C T fl/\H' T=none/\s.heap.get? T=none
def zr(P:ab0)(w:ab1):vK:=λl H s E e s'=>∃a C H',e=.ref a/\Fl P w l H s H' a C .none s'/\E (.ref C) none H'
section
theorem Fl.inv(I:Inv X pins σ H s)(f:Fl X.prog X.w X.stack H s H' a C fl s'):Inv X pins σ H' s':=I.FE (ch:= []) f.os f.un f.cN f.bare (λb hb=>absurd hb (by simp))
theorem Fl.Zr(I:Inv X pins σ H s)(f:Fl X.prog X.w X.stack H s H' a C fl s'):∀b∈rJ X.stack,H' b=none:=λb hb=>by
 obtain⟨_,o,ho,_⟩:=I.stack.mem hb
 exact f.un.free b o ho (I.rQ b hb) (by simp)
theorem Fl.move{fl':Value}(f:Fl X.prog X.w l H s H' a C fl s')(tH:∀b∈rJ l,H' b=none)(hT:H' T=none)(OQ:s.heap.get? T=none)(m:Mv (rJ l) a T s'.heap h')
  (e:Ex h' a C T' fl') (Zt:H' T'=none) (υ:s.heap.get? T'=none):Fl X.prog X.w l H s H' a C fl' {s' with heap:=h'} where
 os:=f.os
 bare:=f.bare
 un:=by
  have na:∀b o,s.heap.get? b=some o->b≠a:=λb o q z=>by rw[z,f.new] at q;cases q
  have nT:∀b o,s.heap.get? b=some o->b≠T:=λb o q z=>by rw[z,OQ] at q;cases q
  refine⟨λb o q n hb hx=>m.keep b o (f.un.keep b o q n hb hx) hb (na b o q) (nT b o q),λb o q n hb hx=>?_,f.un.free,λb o q hx=>?_,f.un.uo,f.un.qT,f.un.uk⟩
  ·obtain⟨sl,q1⟩:=f.un.slot b o q n hb hx
   obtain⟨Yn,q2⟩:=m.slot b _ q1 hb (na b o q) (nT b o q)
   exact⟨Yn,q2⟩
  ·obtain⟨o',q1⟩:=f.un.there b o q hx
   obtain⟨sl,q2⟩:=m.any q1 (na b o q) (nT b o q)
   exact⟨_,q2⟩
 cN:=f.cN.keep λb u o e q=>m.keep b o q (λz=>by rw[tH b z] at e;cases e) (λz=>by rw[z,f.na] at e;cases e) (λz=>by rw[z,hT] at e;cases e)
 na:=f.na
 new:=f.new
 ex:=⟨T',e,Zt,υ⟩
theorem Fl.fresh(f:Fl X.prog X.w l H s H' a C fl s')(hn:s'.heap.get? T'=none)(hs:s'.heap.objs.size<=T'):H' T'=none/\s.heap.get? T'=none:=by
 refine⟨f.cN.fresh hs,?_⟩
 cases q:s.heap.get? T' with
 |none=>rfl
 |some o=>
  obtain⟨o',z⟩:=f.un.there T' o q (by simp)
  rw[hn] at z;cases z
theorem Fl.kI(I:Inv X pins σ H s)(f:Fl X.prog X.w X.stack H s H' a C fl s'):s'.heap.FunFrames X.base X.stack:=(f.inv I).stack
variable {Q:Unit->aa1->Prop}
theorem Fl.note(I:Inv X pins σ H s)(OV:X.stack=X.env::outer)(hf:X.env.frame=some X.env.locals)(tH:A.frames=some X.stack)(f:Fl X.prog X.w X.stack H s H' a C .none s')
  (h:∀EE,Fl X.prog X.w X.stack H s H' a C (ab7 X.env.locals) EE->Q () EE):aa0 M A (noteFrame (.ref a) X.env) Q E s':=by
 obtain⟨T,e,hT,OQ⟩:=f.ex
 have hl:=f.kI I
 have fm:∀b∈rJ X.stack,H' b=none:=f.Zr I
 rw[OV] at tH hl
 refine XC tH hl hf e λh' T' n1 n2 e' m=>h _ ?_
 obtain⟨g1,g2⟩:=f.fresh n1 n2
 exact f.move fm hT OQ (by rw[OV];exact m) e' g1 g2
theorem Fl.land(f:Fl X.prog X.w l H s H' a C fl s')(tH:∀b∈rJ l,H' b=none)(h:∀EE,Fl X.prog X.w l H s H' a C .none EE->Q () EE):aa0 M A (setFlight (.ref a) none) Q E s':=by
 obtain⟨T,e,hT,OQ⟩:=f.ex
 exact Ld e λh' e' sb=>h _ (f.move tH hT OQ ⟨λb o q _ _ hb=>(sb.2 b hb).trans q,λb o q _ _ hb=>⟨o.slots,(sb.2 b hb).trans q⟩⟩ e' hT OQ)
theorem Fl.out(I:Inv X pins σ H s)(hx:X.ex = [])(f:Fl X.prog X.w X.stack H s H' a C fl s'):Fl X.prog X.w X.outer X.H₀ X.s₀ H' a C fl s':=by
 have J:=f.inv I
 have old:∀b,s.heap.get? b=none->X.s₀.heap.get? b=none:=λb q=>by
  cases z:X.s₀.heap.get? b with
  |none=>rfl
  |some o=>
   obtain⟨o',y⟩:=I.base.there b o z (by rw[hx];simp)
   rw[q] at y;cases y
 obtain⟨T,e,hT,OQ⟩:=f.ex
 have un:=J.base
 rw[hx] at un
 exact⟨J.os,J.bare,un,J.cN,f.na,old _ f.new,T,e,hT,old _ OQ⟩
end
structure Qc (X:Cx):Prop where
 st:X.stack=X.env::X.outer
 fr:X.env.frame=some X.env.locals
 ex:X.ex = []
def oE(X:Cx)(E:XK):Prop:=∀e s',aa0 (aa5 X.prog X.w) X.A (leaving X.env e) (λ_ EE=>zr X.prog X.w X.outer X.H₀ X.s₀ E e EE) (λe' EE=>zr X.prog X.w X.outer X.H₀ X.s₀ E e' EE) s'->X.xe e s'
theorem oE.pass{E:XK}(fr:Qc X)(o:oE X E):g8 (zr X.prog X.w) X E:=by
 intro pins σ H s e s' I h
 obtain⟨a,C,H',rfl,f,q⟩:=h
 refine o _ _ ?_
 unfold leaving
 refine aa (f.note I fr.st fr.fr I.ok.frames λs2 f2=>?_)
 refine f2.land (f2.Zr I) λs3 f3=>?_
 exact⟨a,C,H',rfl,f3.out I fr.ex,q⟩
theorem oE.made{E:XK}{vs:List Value}(fr:Qc X)(o:oE X E)(I:Inv X pins σ H s)(m:Heap.MadeExcOf s.heap h' a (.ref C) vs)(q:E (.ref C) none H) :
  X.xe (.ref a) {s with heap:=h'}:=by
 refine o _ _ ?_
 obtain⟨t,ha,htn,ht⟩:=m.there
 have J:Inv X pins σ H {s with heap:=h'}:=I.kept (t':=s.toks) m.keeps
 have fm:∀b∈rJ X.stack,H b=none:=J.rQ
 unfold leaving
 have hl:=J.stack
 have tH:=J.ok.frames
 rw[fr.st] at hl tH
 have hn:H a=none:=I.cN.none_of m.new
 have gone:∀b,h'.get? b=none->s.heap.get? b=none:=λb q=>by
  cases z:s.heap.get? b with
  |none=>rfl
  |some o=>rw[m.keeps b o z] at q;cases q
 refine aa (XB (s:={s with heap:=h'}) tH hl fr.fr ha λh2 T n1 n2 e mv=>?_)
 have hT:H T=none:=J.cN.fresh n2
 have f:Fl X.prog X.w X.stack H s H a C (ab7 X.env.locals) {s with heap:=h2}:=by
  have na:∀b o,s.heap.get? b=some o->b≠a:=λb o q z=>by rw[z,m.new] at q;cases q
  have ZN:Mv (rJ X.stack) a a h' h2:=by rw[fr.st];exact mv
  refine⟨rfl,J.bare,⟨λb o q n hb hx=>ZN.keep b o (m.keeps b o q) hb (na b o q) (na b o q),λb o q n hb hx=>ZN.slot b o (m.keeps b o q) hb (na b o q) (na b o q),λb o _ n _=>n,λb o q _=>?_,λ_ _ q=>q,λ_ _ _ q=>q,λ_ ps q=>⟨#[],by rw[q];simp⟩⟩,?_,hn,m.new,T,e,hT,gone T n1⟩
  ·obtain⟨sl,q2⟩:=ZN.any (m.keeps b o q) (na b o q) (na b o q)
   exact⟨_,q2⟩
  ·exact J.cN.keep λb u o e q=>ZN.keep b o q (λz=>by rw[fm b z] at e;cases e) (λz=>by rw[z,hn] at e;cases e) (λz=>by rw[z,hn] at e;cases e)
 refine f.land fm λs3 f3=>?_
 exact⟨a,C,H,rfl,f3.out I fr.ex,q⟩
abbrev Hg:List Value:= [.type "ValueError",.type "Exception",.type "BaseException",.type "object"]
def zu(K:Frag)(C:Addr):Prop:=excIn K C Hg "ValueError.__new__"=true
theorem La(X:K.In h)(q:zu K C) :
  ∃bm N nm qn bs hdct sn sub ab col dd k0 k1 k2 k3 k5 mN,h.get? C=some (excClassObj nm qn C N bs bm hdct sn sub ab col dd k0 k1 k2 k3 k5 "ValueError.__new__")/\h.Ns N mN/\mN "__init__"=none/\OwnTail h Hg bm:=by
 unfold zu excIn at q
 split at q
 ·rename_i dd cd sl ho
  split at q
  ·rename_i C' bm k0 k1 k2 k3 n k5 hm hs
   simp only[ay,mV,ze] at q
   obtain⟨⟨⟨⟨⟨rfl,rfl⟩,WD⟩,ht⟩,cN⟩,Va⟩:=q
   obtain⟨nm,bs,mro,ns,qn,hd,sn,sub,ab,col,del⟩:=cd
   dsimp only at hm WD cN Va
   subst hm WD
   obtain⟨l⟩:=sl
   dsimp only at hs
   subst hs
   exact⟨bm,ns,nm,qn,bs,hd,sn,sub,ab,col,dd,k0,k1,k2,k3,k5,_,X _ _ ho,.of_isNs (PySem.W.isNs_of_in X cN),PySem.W.nsMap_none_of_in X cN Va,PySem.W.tail_of_in X ht⟩
  ·cases q
 ·cases q
def Jq(E:XK)(C:Addr)(te:TE):TS:=λ_ σ H=>te σ H λ_ H1=>E (.ref C) none H1
theorem Iw{E:XK}{e0:Expr}{np:Pos}(fr:Qc X)(o:oE X E)(hc:X.calm=true)(hg:Gl X x)(hm:X.mg x=some (.ref C))(hK:zu X.K C)(he:PE X e0 te)
  (eo:autoParam (bY e0=true) o0) (hd:autoParam ((x == ("__debug__":Str))=false) v0):PS X (.Raise (some (.Call (.Name x np) [e0] [] du)) none pos) (Jq E C te):=by
 intro pins s σ H D I h
 obtain⟨bm,N,nm,qn,bs,hdct,sn,sub,ab,col,dd,k0,k1,k2,k3,k5,mN,hC,hN,Va,T⟩:=La I.mod.LZ hK
 have hs:=cF (es:= []) (env:=X.env) eo
 refine wpAny_Raise_call_subT (C:=C) (nm:=nm) (q:=qn) (N:=N) (bs:=bs) (bm:=bm) (hdct:=hdct) (sn:=sn) (sub:=sub) (ab:=ab) (col:=col) (dd:=dd) (k0:=k0) (k1:=k1) (k2:=k2) (k3:=k3) (k5:=k5)
  PySem.F.excBase_ValueError (mN:=mN) (T.hasType (by decide)) (I.ok.hd hc) (by rw[hs];rfl) Va (kN I hg hm ⟨rfl,?_⟩ hd)
 rw[hs]
 refine ky (xD (cM (he pins s σ H _ I h) λv s2 ⟨y,H1,I1,r,q⟩=>?_))
 exact zg ⟨rfl,(by show 1<=sizeLine;decide),I1.bk _ _ hC,hN.keeps I1.bk,T.keeps I1.bk,λh' e m=>o.made fr I1 m q⟩
structure oy (P:ab0) (w:ab1) (K:Frag) (mg:mG7) (base:Heap) (k:Nat) (x:Str) (ps:lS7) (sp:Sp):Prop where
 ex:∃(f:Addr) (fd:ab5),jP P w K mg base (zr P w) k f fd ps sp/\mg x=some (.ref f)/\keepIn K (.ref f)=true/\Binds K fd ps []
section
variable {st:Stmt}
theorem Src.okX(S:Src K mg x st ps)(F:eX N ps (aQ st))(len:∀vs H Q E,sp vs H Q E->vs.length=ps.length)
  (oZ:∀(f:Addr) (fT:Value) (A:ab4) (outer:List Env) (s:aa1) (H:Hp) (vs:List V) (Q:VK) (E:XK),fi k (A.deeper (envOfC x (aQ st) s.heap.objs.size f fT))->sp vs H Q E ->
   ∃t,nj (oN (zr P w) P w K mg base N x (aQ st) f fT A outer s H E) (cJ st) t/\t {nx:=λ_ H'=>Q .non H',rt:=Q} (start N vs) H):oy P w K mg base (k+1) x ps sp:=by
 obtain⟨f,fd,F0,hm,hb⟩:=S.ex
 obtain⟨oc,od,kV,doc,pm,an,fT,ct,AS,rfl,lk,Ai⟩:=F0.ex
 exact⟨f,_,OK lk Ai F len λA outer s H vs Q E hr Ap=>oZ f fT A outer s H vs Q E hr Ap,hm,F0.kp,hb⟩
theorem oy.mono(D:oy P w K mg base j x ps sp)(h:j<=k):oy P w K mg base k x ps sp:=by
 obtain⟨f,fd,F,r⟩:=D.ex
 exact⟨f,fd,F.mono h,r⟩
theorem oy.imp(D:oy P w K mg base k x ps sp)(h:∀vs H Q E,T6 vs H Q E->sp vs H Q E):oy P w K mg base k x ps T6:=by
 obtain⟨f,fd,F,r⟩:=D.ex
 exact⟨f,fd,F.imp h,r⟩
theorem Ac{E:XK}:Qc (oN CX P w K mg base N x sc f fT A outer s H E):=⟨rfl,rfl,rfl⟩
theorem HG{E:XK}:oE (oN (zr P w) P w K mg base N x sc f fT A outer s H E) E:=λ_ _ h=>h
end
def Jn(sp:Sp)(E:XK)(t:TA):TE:=λσ H Q=>t σ H λvs H1=>sp vs H1 Q E
theorem Cp{E:XK}{t:TA}(D:oy X.prog X.w X.K X.mg X.base k x ps sp)(hr:fi k X.A)(hp:g8 (zr X.prog X.w) X E)(hg:Gl X x)(ha:PA X (e::es) t)
  (jT:autoParam ((x == ("__debug__":Str))=false) v0) (eo:autoParam ((e::es).all bY=true) o0):PE X (.Call (.Name x p) (e::es) [] pos) (Jn sp E t):=by
 obtain⟨f,fd,F,hm,hk,hb⟩:=D.ex
 intro pins s σ H Q I h
 rw[aB,ay] at eo
 have q:=MN (p:=p) (pos:=pos) F hr hg hm hk hb .nil hp ha jT (cF eo.1) (gJ eo.2) pins s σ H Q I
 refine q ?_
 have e2:Jj sp [] E t=Jn sp E t:=by
  funext σ H Q
  unfold Jj Jn
  simp only[bS]
 rw[e2]
 exact h
section
variable {Q:Unit->aa1->Prop}
end
theorem Cx.Ok.pnx(ok:X.Ok)(pl:aP7)(E:dw):Cx.Ok {X with pn:=pl,xe:=E}:=
 ⟨ok.mod,ok.kind,ok.glob,ok.blt,ok.above,ok.inj,ok.has,ok.OG,ok.hd,ok.frames,ok.Ua,ok.Lb,ok.bs,ok.Bt,ok.wZ,ok.wz,ok.kI,ok.F9⟩
noncomputable abbrev Cx.tr (X:Cx) (pn:aP7) (E1:XK):Cx:={X with pn:=pn,xe:=λe s'=>∃σ H s,Inv {X with pn:=pn} [] σ H s/\zr X.prog X.w X.stack H s E1 e s'}
theorem N4{E1:XK}:g8 (zr X.prog X.w) (X.tr pn E1) E1:=by
 intro pins σ H s e s' I h
 refine⟨σ,H,s,?_,h⟩
 have J:Inv (X.tr pn E1) [] σ H s:=I.xg λp hp=>absurd hp (by simp)
 exact⟨J.ok.pnx pn X.xe,J.os,J.bare,J.base,J.loc,J.cell,J.free,J.iq,J.pin,J.cN,J.len⟩
noncomputable abbrev Cx.hn (X:Cx) (pn:aP7) (a:Addr):Cx:={X with A:=X.A.mark (some (.ref a)),calm:=false,pn:=pn,xe:=λ_ _=>False}
structure Hd (X:Cx) (a C:Addr):Prop where
 hd:X.A.handled=some (.ref a)
 pn:∃t tb,(a,pJ C t tb)∈X.pn
theorem Inv.abB(I:Inv X pins σ H s)(E:dw):Inv {X with pn:=X.pn++pins,xe:=E} [] σ H s:=
 ⟨I.ok.pnx _ _,I.os,I.bare,I.base,I.loc,I.cell,I.free,I.iq,λp hp=>I.pin p (by simpa using hp),I.cN,I.len⟩
theorem Inv.AO(ok:X.Ok)(I:Inv {X with pn:=X.pn++pins,xe:=E} [] σ H s):Inv X pins σ H s:=
 ⟨ok,I.os,I.bare,I.base,I.loc,I.cell,I.free,I.iq,λp hp=>I.pin p (by simpa using hp),I.cN,I.len⟩
theorem Inv.abA(I:Inv {X with pn:=pn} [] σ H s)(ho:s.heap.get? a=some oe)(hn:H a=none)(hl:a≠X.env.locals)(hf:a∉X.fs)(hc:∀v,oe.data≠.cell v):Inv (X.hn ((a,oe)::pn) a) [] σ H s:=by
 refine⟨⟨I.ok.mod,I.ok.kind,I.ok.glob,I.ok.blt,I.ok.above,I.ok.inj,I.ok.has,I.ok.OG,λz=>(aH z).elim,I.ok.frames,I.ok.Ua,I.ok.Lb,I.ok.bs,I.ok.Bt,I.ok.wZ,I.ok.wz,I.ok.kI,I.ok.F9⟩,I.os,I.bare,I.base,I.loc,I.cell,I.free,I.iq,λp hp=>?_,I.cN,I.len⟩
 have Rt:p∈(a,oe)::pn:=by simpa using hp
 rcases aN.mp Rt with rfl|Rt
 ·exact⟨ho,hn,hl,hf,hc⟩
 ·exact I.pin p (by simpa using Rt)
theorem Inv.aaY(ok:Cx.Ok {X with pn:=pn})(I:Inv (X.hn ((a,oe)::pn) a) [] σ H s):Inv {X with pn:=pn} [] σ H s:=
 ⟨ok,I.os,I.bare,I.base,I.loc,I.cell,I.free,I.iq,λp hp=>I.pin p (by
  have Rt:p∈pn:=by simpa using hp
  simpa using Or.inr Rt),I.cN,I.len⟩
theorem Inv.ζ{v:Option Value}{m:mG7}(I:Inv X pins σ H s)(hN:X.N.Nodup)(hi:X.N[i]?=some n)(hl:X.env.kindOf n=some .local)(hn:s.heap.Ns X.env.locals m)
  (WM:h'.Ns X.env.locals (λx=>if x=n then v else m x)) (hs:Heap.SameBut X.env.locals s.heap h'):Inv X pins (σ.set i none) H {s with heap:=h',toks:=tk}:=by
 obtain⟨m1,uI,za⟩:=id I.loc
 have e1:m1=m:=by
  funext x
  obtain⟨o,es,ep,ho,hd,_,hf⟩:=uI
  obtain⟨o',DJ,Zp,BX,y9,_,hf'⟩:=hn
  rw[ho] at BX;cases BX
  rw[hd] at y9;cases y9
  rw[<-hf,<-hf']
 subst e1
 have ln:∀{b:Addr}{o:Obj},X.s₀.heap.get? b=some o->b≠X.env.locals:=λq=>aW (bw (aI q) I.ok.above)
 refine⟨I.ok,I.os,I.bare,⟨λb o q n hb hx=>(hs.2 b (ln q)).trans (I.base.keep b o q n hb hx),λb o q n hb hx=>?_,I.base.free,λb o q hx=>?_,I.base.uo,I.base.qT,I.base.uk⟩,⟨_,WM,λj y v' q1 q2 q3=>?_⟩,λy c q=>?_,I.free,I.iq,λp hp=>?_,I.cN.keep λb u o q z=>?_,by simpa using I.len⟩
 ·obtain⟨sl,z⟩:=I.base.slot b o q n hb hx
  exact⟨sl,(hs.2 b (ln q)).trans z⟩
 ·obtain⟨o',z⟩:=I.base.there b o q hx
  exact⟨o',(hs.2 b (ln q)).trans z⟩
 ·by_cases hj:j=i
  ·subst hj
   rw[List.getElem?_set] at q2
   split at q2
   ·split at q2<;>cases q2
   ·exact absurd rfl (by assumption)
  ·rw[dc (cR hj)] at q2
   obtain⟨u,r,z⟩:=za j y v' q1 q2 q3
   refine⟨u,r,?_⟩
   rcases z with ⟨k,z⟩|⟨k,c,z1,z2⟩
   ·have:y≠n:=λz=>hj (tT hN q1 (z▸hi))
    exact .inl ⟨k,by simp[this,z]⟩
   ·exact .inr ⟨k,c,z1,z2.sameBut hs (I.KH y c z1)⟩
 ·obtain⟨v',z⟩:=I.cell y c q
  exact⟨v',z.sameBut hs (I.KH y c q)⟩
 ·obtain⟨z1,z2,z3,z4,z5⟩:=I.pin p hp
  exact⟨(hs.2 p.1 z3).trans z1,z2,z3,z4,z5⟩
 ·exact(hs.2 b (λy=>by rw[y,I.free] at q;cases q)).trans z
structure Qe (K:Frag) (R:Addr):Prop where
 ty:typeIn K (.ref R)=some (.type "type")
 cl:(clsIn K R).isSome=true
 ba:subIn K (.ref R) (.type "BaseException")=some true
theorem ve{R:Addr}(X:K.In h)(q:(clsIn K R).isSome=true):Looks M h (isType (.ref R)) true:=by
 unfold clsIn at q
 split at q
 ·rename_i c' d' cd' Yn ho
  intro A' Q' E' s' k z
  unfold isType loadHead
  exact aa (wpAny_loadPart (k _ _ (X _ _ ho)) (ak z))
 ·cases q
theorem K9{Q:Bool->aa1->Prop}{R:Addr}(X:K.In s.heap)(hR:Qe K R)(ha:s.heap.get? a=some oe)(hc:oe.cls=.ref C)
  (h4:subIn K (.ref C) (.ref R)=some true) (q:Q true s):aa0 M A (excMatches (.ref a) (.ref R)) Q E s:=by
 obtain⟨h,g,d,tk,os⟩:=s
 have L1:Looks M h (typeOf (.ref R)) (.type "type"):=PySem.W.looks_typeIn X hR.ty
 have L2:Looks M h (isSubtype (.ref R) (.type "BaseException")) true:=abP X hR.ba
 have L3:Looks M h (isType (.ref R)) true:=ve X hR.cl
 have L4:Looks M h (isSubtype (.ref C) (.ref R)) true:=abP X h4
 have L5:Looks M h (typeOf (.ref a)) (.ref C):=hc▸(Looks.ld ha).andThen .now
 have L6:Looks M h (isInstance (.ref R) (.type "tuple")) false:=L1.andThen (Looks.of_pure tc_notTuple)
 have L7:Looks M h (isExcClass (.ref R)) true:=L3.andThen L2
 unfold excMatches
 refine aa (L6.at ?_)
 dsimp only
 rw[bJ (by decide)]
 refine aa (ak ?_)
 refine aa ?_
 rw[eM]
 refine aa (aa (L7.at ?_))
 rw[bJ (by decide)]
 refine ak ?_
 dsimp only
 rw[gQ]
 refine ak ?_
 refine aa (L5.at ?_)
 refine aa ?_
 rw[eM]
 refine aa (aa (L4.at ?_))
 rw[bF rfl]
 refine ak ?_
 dsimp only
 exact ak (ak q)
structure xI (K:Frag) (C:Addr) (qual:Str) (st:Stmt) (ps:lS7):Prop where
 ex:∃(f:Addr) (fd:ab5),Kg K "__init__" qual st f fd/\Mk K C f/\Binds K fd ps []
structure uA (P:ab0) (w:ab1) (K:Frag) (mg:mG7) (base:Heap) (k:Nat) (x:Str) (C:Addr) (ps:lS7) (sp:Sp):Prop where
 ex:∃(f:Addr) (fd:ab5),jP P w K mg base zp k f fd ps sp/\Mk K C f/\Binds K fd ps []/\mg x=some (.ref C)
section
variable {qual:Str}{st:Stmt}
theorem xI.ok(S:xI K C qual st ps)(hx:mg x=some (.ref C))(F:eX N ps (aQ st))(len:∀vs H Q E,sp vs H Q E->vs.length=ps.length)
  (oZ:∀(f:Addr) (fT:Value) (A:ab4) (outer:List Env) (s:aa1) (H:Hp) (vs:List V) (Q:VK) (E:XK),fi k (A.deeper (envOfC qual (aQ st) s.heap.objs.size f fT))->sp vs H Q E ->
   ∃t,nj (oN zp P w K mg base N qual (aQ st) f fT A outer s H E).O5 (cJ st) t/\t {nx:=λ_ H'=>Q .non H',rt:=Q} (start N vs) H):uA P w K mg base (k+1) x C ps sp:=by
 obtain⟨f,fd,F0,hm,hb⟩:=S.ex
 exact⟨f,fd,F0.ok F len (oZ f),hm,hb,hx⟩
theorem uA.mono(D:uA P w K mg base j x C ps sp)(h:j<=k):uA P w K mg base k x C ps sp:=by
 obtain⟨f,fd,F,r⟩:=D.ex
 exact⟨f,fd,F.mono h,r⟩
end
section
variable {E:XK}{m:Str}{o:Expr}{ta:TE}{t:TA}
theorem HM(D:uA X.prog X.w X.K X.mg X.base k x C ps sp)(hr:fi (k+1) X.A)(hg:Gl X x)(ha:PA X (e::es) t)(jT:autoParam ((x == ("__debug__":Str))=false) v0)(eo:autoParam ((e::es).all bY=true) o0) :
  PE X (.Call (.Name x p) (e::es) [] pos) (PJ C sp [] E0 t):=by
 obtain⟨f,fd,F,M,hb,hm⟩:=D.ex
 rw[aB,ay] at eo
 exact MU M F hr hg hm hb .nil XQ ha jT (cF eo.1) (gJ eo.2)
end
def uL(e:Int×Value):Str:=strOf e.2
def mY(P:ab0)(w:ab1)(h:Heap)(a:Addr)(ws:lS7):Prop:=
 ∃(o:Obj) (es:Array (Int×Value)) (ep:Nat) (t:SetTable),h.get? a=some o/\o.ExactSet/\o.data=.set es ep t/\ElemsOf (PySem.strKind P w) es.toList/\(es.toList.map uL).Perm ws/\ws.Nodup /\
  es.size<scanBound/\t.fits es.size=true/\(w.params.followText "set-order"=false->t.led=true/\(es.size≠0->t.plain=false))
noncomputable def kK(ws:lS7)(x:Str):lS7:=if x∈ws then ws else ws ++ [x]
theorem EH(t:SetTable)(n:Nat):(t.orStandIn n).led=t.led:=by
 unfold SetTable.orStandIn
 split<;>rfl
theorem Ax(t:SetTable)(es:Array (Int×Value))(h:Int)(x:Value):(layNew t es h x).2.1.led=t.led:=by
 unfold layNew
 split
 ·dsimp only;rw[EH];rfl
 ·rfl
theorem A0{t t':SetTable}{hs:Array Int}{n:Nat}{os:Array Nat}(h:t.relaid hs n=some (t',os)):t'.led=t.led/\t'.plain=t.plain:=by
 unfold SetTable.relaid SetTable.laid at h
 cases hc:SetTable.layClean (SetTable.sizeAbove n-1) hs with
 |none=>rw[hc] at h;cases h
 |some ow=>
  rw[hc] at h
  cases h
  exact⟨rfl,rfl⟩
theorem EC(t:SetTable)(es:Array (Int×Value))(n:Nat):(relayAll t es n).2.1.led=t.led/\(t.plain=false->(relayAll t es n).2.1.plain=false):=by
 unfold relayAll
 split
 ·rename_i t' os e
  have:=A0 e
  dsimp only
  split
  ·exact⟨this.1,λh=>this.2.trans h⟩
  ·exact⟨rfl,λ_=>rfl⟩
 ·exact⟨rfl,λ_=>rfl⟩
theorem RS{es:List (Int×Value)}(E6:ElemsOf (PySem.strKind P w) es){e:Int×Value}(he:e∈es):∃t,e.2=.str (uL e) t:=by
 obtain⟨⟨k,hk,_⟩,_⟩:=E6 e he
 obtain⟨t,ht⟩:=vI hk
 exact⟨t,by unfold uL;rw[ht];rfl⟩
theorem va{es:List (Int×Value)}(E6:ElemsOf (PySem.strKind P w) es)(x:Str):(∃e∈es,(PySem.strKind P w).is x e.2=true)↔x∈es.map uL:=by
 constructor
 ·rintro⟨e,he,hp⟩
  obtain⟨t,ht⟩:=vI hp
  refine eh.mpr ⟨e,he,?_⟩
  unfold uL;rw[ht];rfl
 ·intro h
  obtain⟨e,he,rfl⟩:=eh.mp h
  obtain⟨t,ht⟩:=RS E6 he
  exact⟨e,he,by rw[ht];exact xF P w _ t⟩
theorem stored{es lu:Array (Int×Value)}{ep:Nat}{t t1:SetTable}(ho:s.heap.get? a=some o)(hex:o.ExactSet)(hd:o.data=.set es ep t)
  (E6:ElemsOf (PySem.strKind P w) lu.toList) (hp:(lu.toList.map uL).Perm ws) (nd:ws.Nodup) (hb:lu.size<scanBound) (hf:t1.fits lu.size=true)
  (hl:w.params.followText "set-order"=false->t1.led=true/\(lu.size≠0->t1.plain=false)) :
  (s.heap.update a (Obj.putSet lu t1)).get? a=some {o with data:=.set lu (ep+1) t1}/\mY P w (s.heap.update a (Obj.putSet lu t1)) a ws:=by
 have hg:(s.heap.update a (Obj.putSet lu t1)).get? a=some {o with data:=.set lu (ep+1) t1}:=by
  have q:=dy (Obj.putSet lu t1) ho (by rw[putSet_of lu t1 hd];rfl)
  rw[putSet_of lu t1 hd] at q
  exact q
 exact⟨hg,_,lu,ep+1,t1,hg,hex,rfl,E6,hp,nd,hb,hf,hl⟩
theorem Fh{tk:Tok}{Q:Bool->aa1->Prop}(hS:mY P w s.heap a ws)(acL:ws.length+1<scanBound)
  (h:∀(b:Bool) (h':Heap),Heap.SameBut a s.heap h'->mY P w h' a (kK ws x)->Q b {s with heap:=h'}):aa0 (aa5 P w) A (setAddHashed a (.str x tk) ((PySem.strKind P w).hash x)) Q E s:=by
 obtain⟨o,es,ep,t,ho,hex,hd,E6,yk,nd,hb,hf,Rl⟩:=hS
 have DR:=xF P w x tk
 have hlen:es.size=ws.length:=by rw[<-yk.length_eq,ah,bX]
 unfold setAddHashed setAddHashedIn
 refine cD (aa (wpAny_setState_of ho hd hf ?_))
 dsimp only
 rw[byScan_of (x:=.str x tk) rfl hb E6]
 simp only[↓reduceIte]
 unfold setAddByScan
 refine aa (aa (fe (aa (wpAny_setScan_of DR ho hd hf E6 ?_))))
 cases hr:List.findIdx? (λe=>(PySem.strKind P w).is x e.2) es.toList with
 |some j=>
  dsimp only
  obtain⟨hj,WR,_⟩:=List.findIdx?_eq_some_iff_getElem.mp hr
  have hx:x∈ws:=yk.mem_iff.mp ((va E6 x).mp ⟨_,j6 hj,WR⟩)
  refine ak (ak ?_)
  have q:=h false s.heap (Heap.SameBut.refl a s.heap) ⟨o,es,ep,t,ho,hex,hd,E6,by unfold kK;rw[bF hx];exact yk,by unfold kK;rw[bF hx];exact nd,hb,hf,Rl⟩
  exact q
 |none=>
  dsimp only
  have hx:x∉ws:=λhx=>by
   obtain⟨e,he,hp⟩:=(va E6 x).mpr (yk.mem_iff.mpr hx)
   have:=List.findIdx?_eq_none_iff.mp hr e he
   rw[hp] at this
   cases this
  have ei:kK ws x=ws ++ [x]:=by unfold kK;rw[bJ hx]
  rw[ei] at h
  have nd':(ws ++ [x]).Nodup:=dW.mpr ⟨nd,by simp,λy hy z hz=>by
   rw[aO] at hz
   subst hz
   exact λe=>hx (e▸hy)⟩
  have WQ:=layNew_perm t es ((PySem.strKind P w).hash x) (.str x tk)
  have DP:=layNew_fits t es ((PySem.strKind P w).hash x) (.str x tk)
  have za:=Ax t es ((PySem.strKind P w).hash x) (.str x tk)
  generalize layNew t es ((PySem.strKind P w).hash x) (.str x tk)=L at WQ DP za⊢
  obtain⟨lu,t1,JI,aeL⟩:=L
  dsimp only at WQ DP za⊢
  rw[Array.toList_push] at WQ
  have WH:ElemsOf (PySem.strKind P w) lu.toList:=(E6.push DR rfl).perm WQ
  have Ao:(lu.toList.map uL).Perm (ws ++ [x]):=(WQ.map uL).trans (by rw[bR];exact yk.append (List.Perm.refl _))
  have afw:lu.size=ws.length+1:=by rw[<-bX,<-ah (f:=uL),Ao.length_eq,ai];rfl
  have Zv:lu.size<scanBound:=by lia
  have gw:∀(b:Bool) {s₁:aa1}{Q':Unit->aa1->Prop},Q' () s₁->aa0 (aa5 P w) A (match b with|true=>rule "set.scan.the-table-gave-way"|false=>pure ()) Q' E s₁:=λb s₁ Q' hq=>by
   cases b
   ·exact ak hq
   ·exact fe hq
  refine aa (gw _ ?_)
  have tail:∀t2:SetTable,t2.fits lu.size=true->t2.led=t.led->t2.plain=false->aa0 (aa5 P w) A (do
    storeSet a lu t2
    if (!JI&&t2.tooFull)=true then do
      (match (relayAll t2 lu (SetTable.grown lu.size)).2.2 with|true=>rule "set.scan.the-table-gave-way"|false=>pure ())
      storeSet a (relayAll t2 lu (SetTable.grown lu.size)).1 (relayAll t2 lu (SetTable.grown lu.size)).2.1
      pure (some true)
     else pure (some true)) (λr s'=>∃h',r=some true/\s'={s with heap:=h'}/\Heap.SameBut a s.heap h'/\mY P w h' a (ws ++ [x])) E s:=by
   intro t2 Zw Zx ZC
   refine aa (wpAny_storeSet_of ho hd ?_ (fits_of_scanBound Zv))
   obtain⟨ho1,hS1⟩:=stored (P:=P) (w:=w) ho hex hd WH Ao nd' Zv Zw λz=>⟨Zx.trans (Rl z).1,λ_=>ZC⟩
   have TR:=ij s.heap a (Obj.putSet lu t2)
   split
   ·have WV:=relayAll_perm t2 lu (SetTable.grown lu.size)
    have tH:=relayAll_fits t2 lu (SetTable.grown lu.size)
    have Zy:=EC t2 lu (SetTable.grown lu.size)
    generalize relayAll t2 lu (SetTable.grown lu.size)=R at WV tH Zy⊢
    obtain⟨es2,t3,acj⟩:=R
    dsimp only at WV tH Zy⊢
    have hsz:es2.size=lu.size:=by rw[<-bX,WV.length_eq,bX]
    have hb2:es2.size<scanBound:=by lia
    refine aa (gw _ ?_)
    refine aa (wpAny_storeSet_of ho1 rfl ?_ (fits_of_scanBound hb2))
    obtain⟨_,ξ⟩:=stored (P:=P) (w:=w) (s:={s with heap:=s.heap.update a (Obj.putSet lu t2)}) ho1 hex rfl (WH.perm WV) ((WV.map uL).trans Ao) nd' hb2 tH λz=>⟨Zy.1.trans (Zx.trans (Rl z).1),λ_=>Zy.2 ZC⟩
    exact ak ⟨_,rfl,rfl,TR.trans (ij _ a _),ξ⟩
   ·exact ak ⟨_,rfl,rfl,TR,hS1⟩
  have fin:∀(r:Option Bool) (s':aa1),(∃h',r=some true/\s'={s with heap:=h'}/\Heap.SameBut a s.heap h'/\mY P w h' a (ws ++ [x]))->∃h',r=some true/\s'={s with heap:=h'}/\Q true {s with heap:=h'}:=λr s' ⟨h',e1,e2,e3,e4⟩=>⟨h',e1,e2,h true h' e3 e4⟩
  split
  ·refine aa ?_
   rw[hashByValue_scannable 8 (x:=.str x tk) rfl]
   refine ak (eD (tail {t1 with plain:=false} (SetTable.fits_plain_off DP) za rfl) (λr s' z=>?_) λ_ _ e=>e)
   obtain⟨h',rfl,rfl,q⟩:=fin r s' z
   exact ak q
  ·rename_i eo
   refine aa (ak ?_)
   refine eD (tail t1 DP za (bG.mpr eo)) (λr s' z=>?_) λ_ _ e=>e
   obtain⟨h',rfl,rfl,q⟩:=fin r s' z
   exact ak q
def dJ(l:lS7):lS7:=l.foldl kK []
theorem zZ(l:lS7)(x:Str):dJ (l ++ [x])=kK (dJ l) x:=by unfold dJ;rw[List.foldl_append];rfl
theorem Ar(h:ws.Nodup)(x:Str):(kK ws x).Nodup:=by
 unfold kK
 split
 ·exact h
 ·rename_i hx
  exact dW.mpr ⟨h,by simp,λy hy z hz=>by
   rw[aO] at hz
   subst hz
   exact λe=>hx (e▸hy)⟩
theorem GB:y∈kK ws x↔y∈ws\/y=x:=by
 unfold kK
 split
 ·rename_i hx
  exact⟨.inl,λh=>h.elim id λe=>e▸hx⟩
 ·rw[bu,aO]
theorem qz(l:lS7):(dJ l).Nodup/\∀y,y∈dJ l↔y∈l:=by
 suffices h:∀(l:lS7) (ws:lS7),ws.Nodup->(l.foldl kK ws).Nodup/\∀y,y∈l.foldl kK ws↔y∈ws\/y∈l by
  obtain⟨a,b⟩:=h l [] fF
  exact⟨a,λy=>(b y).trans (by simp)⟩
 intro l
 induction l with
 |nil=>intro ws h;exact⟨h,λy=>by simp⟩
 |cons x r ih=>
  intro ws h
  obtain⟨a,b⟩:=ih (kK ws x) (Ar h x)
  exact⟨a,λy=>(b y).trans (by rw[GB,aN,or_assoc])⟩
theorem mY.at(H:mY P w h a ws)(k:∀o,h.get? a=some o->h'.get? a=some o):mY P w h' a ws:=by
 obtain⟨o,es,ep,t,ho,r⟩:=H
 exact⟨o,es,ep,t,k o ho,r⟩
theorem DL{I S l:Addr}{xs:lS7}(W:Walks P w A.in1 I [I,l] [I] its.size (λi v=>its[i]?=some v) (λi h=>h.IsListIter I l i/\h.IsList l its))(ο:S≠I)(hSl:S≠l)
  (hx:∀(i:Nat) (v:Value),its[i]?=some v->∃x t,xs[i]?=some x/\v=.str x t) (hn:xs.length=its.size) (hb:∀i,(dJ (xs.take i)).length+1<scanBound) :
  ∀(k i:Nat) (s:aa1),its.size-i=k->i<=its.size->s.heap.IsListIter I l i/\s.heap.IsList l its->mY P w s.heap S (dJ (xs.take i)) ->
   (∀(h':Heap) (tk:Nat),(∀b o,b≠S->b≠I->s.heap.get? b=some o->h'.get? b=some o)->mY P w h' S (dJ xs)->R (.ok (.ret .none)) {s with heap:=h',toks:=tk}) ->
   ac3 (aa5 P w) A (.builtin "set.update.loop" ⟨[.ref S,.ref I],[]⟩) R s:=by
 intro k
 induction k with
 |zero=>
  intro i s hk hi st hS q
  obtain rfl:i=its.size:=by lia
  refine fZ UL ?_
  rw[gO pL _]
  show aa0 _ A.in1 (pyNext (.ref I) >>= _) _ _ s
  refine aa (W.done s _ _ st λh' tk kp=>?_)
  show aa0 _ A.in1 (ret Value.none) _ _ _
  have e:dJ (xs.take its.size)=dJ xs:=by rw[<-hn,fG]
  exact ak (q h' tk (λb o _ hbI g=>kp b o (by simp[hbI]) g) (e▸hS.at λo g=>kp S o (by simp[ο]) g))
 |succ k ih=>
  intro i s hk hi st hS q
  have qd:i<its.size:=by lia
  refine fZ UL ?_
  rw[gO pL _]
  show aa0 _ A.in1 (pyNext (.ref I) >>= _) _ _ s
  refine aa (W.item i s _ _ qd st λv h' tk hv A7 kp=>?_)
  obtain⟨x,t,hxi,rfl⟩:=hx i v hv
  have ν:mY P w h' S (dJ (xs.take i)):=hS.at λo g=>kp S o (by simp[ο]) g
  show aa0 _ A.in1 (holding [Value.str x t] (setAdd S (.str x t)) >>= _) _ _ _
  refine aa (cD ?_)
  unfold setAdd
  refine cD (aa ((PySem.strKind P w).pyHash (k:=x) (xF _ _ _ _) ?_))
  refine Fh (s:={s with heap:=h',toks:=tk+1}) ν (hb i) λb h2 sb ξ=>?_
  have e:dJ (xs.take (i+1))=kK (dJ (xs.take i)) x:=by rw[List.take_add_one,hxi];exact zZ _ _
  refine ak ⟨xC pL _,ih (i+1) _ (by lia) qd (W.frame _ _ _ A7 λc hc o g=>?_) (e▸ξ) λh3 tk3 kp3 hS3=>?_⟩
  ·rw[sb.2 c (by
    simp only[aN,ek,pT] at hc
    rcases hc with rfl|rfl
    ·exact cR ο
    ·exact cR hSl)]
   exact g
  ·refine q h3 tk3 (λc o hcS hcI g=>kp3 c o hcS hcI ?_) hS3
   show h2.get? c=some o
   rw[sb.2 c hcS]
   exact kp c o (by simp[hcI]) g
theorem Ml(a:Value){Q₁:dw}
  (h:Q₁ (.ref s.heap.objs.size) {s with heap:=s.heap.push {cls:=.type "set",dict:=none,data:=.set #[] 0 (.fresh 0 0 (!w.params.followText "set-order"))}}) :
  ac3 (aa5 P w) A (.call (.builtin "set.__new__") ⟨[.type "set",a],[]⟩) (wants Q₁ E) s:=by
 refine codeAny_of_tree ?_
 show aa0 _ A.in1 (do checkBuiltinCall "set.__new__" ⟨[.type "set",a],[]⟩;again (.builtin "set.__new__" ⟨[.type "set",a],[]⟩)) _ _ s
 refine aa (EW (F.newCall_set_1 a) (ak ⟨xC F.plain_set_new _,fZ F.entry_set_new ?_⟩))
 rw[gO F.plain_set_new _]
 unfold Builtin.«set.__new__» Builtin.Frozenset.newClass
 have Gv:=sub_set_self
 obtain⟨hp,g,d,tk,os⟩:=s
 dsimp only
 wp_walk
 refine wpAny_askSetting (ak ?_)
 dsimp only
 simp only[newObj]
 refine aa (wpAny_alloc (ak ?_))
 exact ak h
theorem Jc{x:Value}{Q:dw}
  (WN:aa0 (aa5 P w) A.in1.in1 (Builtin.«set.__init__» ⟨[.ref s.heap.objs.size,x],[]⟩)
    (λfin s'=>match fin with|.done f=>wants (λr s₂=>r=.none/\Q (.ref s.heap.objs.size) s₂) E (.ok f) s'|.again c'=>c'.quiet=true/\ac3 (aa5 P w) A.in1 c' (wants (λr s₂=>r=.none/\Q (.ref s.heap.objs.size) s₂) E) s')
    (λe s'=>wants (λr s₂=>r=.none/\Q (.ref s.heap.objs.size) s₂) E (.error e) s') {s with heap:=s.heap.push {cls:=.type "set",dict:=none,data:=.set #[] 0 (.fresh 0 0 (!w.params.followText "set-order"))}}) :
  aa0 (aa5 P w) A (call (.type "set") [x]) Q E s:=by
 have ft:=F.called_set
 obtain⟨c,tl,afn⟩:=ft.mro;have acH:=ft.made;have Gv:=ft.sub;have h1:=ft.notType;have h2:=ft.canCreate;have hct:=F.typeCall_set_1 x
 refine qM (codeAny_of_tree (show aa0 _ _ (callAny (.type "set") _) _ _ _ from ak ⟨Code.quiet_builtin _ (by decide +kernel),fZ F.entry_type_call ?_⟩))
 rw[Around.under_plain (weight_type_call_type "set" [x] []) rfl]
 repeat (any_goals (first|assumption|wp_step))
 refine jD (Ml (P:=P) (w:=w) x (E:=E) (Q₁:=λobj s₁=>obj=.ref s.heap.objs.size/\s₁={s with heap:=s.heap.push {cls:=.type "set",dict:=none,data:=.set #[] 0 (.fresh 0 0 (!w.params.followText "set-order"))}}) ⟨rfl,rfl⟩) λr s₁ hr=>?_
 match r,hr with
 |.error e,hr=>exact hr
 |.ok (.ret obj),hr=>
  obtain⟨rfl,rfl⟩:=hr
  have hT:Shared.TypeIs {s with heap:=s.heap.push {cls:=.type "set",dict:=none,data:=.set #[] 0 (.fresh 0 0 (!w.params.followText "set-order"))}} (.ref s.heap.objs.size) "set":=⟨_,aG _ rfl,rfl⟩
  have hli:=ft.init.lookup;have hbi:=ft.init.bind (.ref s.heap.objs.size)
  repeat (any_goals (first|assumption|wp_step))
  refine jD (k_ ft.init.plain F.entry_set_init (check_set_init_1 hT WN)) λr₂ s₂ lY=>?_
  match r₂,lY with
  |.error e,lY=>exact lY
  |.ok (.ret u),lY=>
   obtain⟨rfl,hq⟩:=lY
   repeat (any_goals (first|assumption|wp_step))
  |.ok .next,lY=>exact lY.elim
  |.ok .brk,lY=>exact lY.elim
  |.ok .cont,lY=>exact lY.elim
 |.ok .next,hr=>exact hr.elim
 |.ok .brk,hr=>exact hr.elim
 |.ok .cont,hr=>exact hr.elim
theorem xn{l:Addr}{xs:lS7}{Q:dw}(hh:A.handled=none)(hl:s.heap.IsList l its)
  (hx:∀(i:Nat) (v:Value),its[i]?=some v->∃x t,xs[i]?=some x/\v=.str x t) (hn:xs.length=its.size) (hb:∀i,(dJ (xs.take i)).length+1<scanBound)
  (h:∀(h':Heap) (tk:Nat),mY P w h' s.heap.objs.size (dJ xs)->(∀b o,s.heap.get? b=some o->h'.get? b=some o)->Q (.ref s.heap.objs.size) {s with heap:=h',toks:=tk}) :
  aa0 (aa5 P w) A (call (.type "set") [.ref l]) Q E s:=by
 refine Jc ?_
 generalize ho:({cls:=.type "set",dict:=none,data:=.set #[] 0 (.fresh 0 0 (!w.params.followText "set-order"))}:Obj)=o
 have hS:(s.heap.push o).get? s.heap.objs.size=some o:=aG _ (by rw[<-ho];rfl)
 have hS0:mY P w (s.heap.push o) s.heap.objs.size (dJ (xs.take 0)):=by
  refine⟨o,#[],0,.fresh 0 0 (!w.params.followText "set-order"),hS,by rw[<-ho];exact⟨rfl,rfl,rfl⟩,by rw[<-ho],λe he=>by simp at he,?_,?_,by decide,by rfl,λz=>⟨?_,λy=>absurd rfl y⟩⟩
  ·exact List.Perm.refl _
  ·exact fF
  ·show(!w.params.followText "set-order")=true
   rw[z];rfl
 obtain⟨ol,ZA,ω,nl,WG⟩:=hl
 have aaj:=ae o ZA
 have za:(s.heap.push o).IsList l its:=⟨_,aaj,ω,nl,WG⟩
 have hlS:l<s.heap.objs.size:=aI ZA
 have hsz:(s.heap.push o).objs.size=s.heap.objs.size+1:=size_push' _ _
 obtain⟨oc,od,odt,AS⟩:=ol
 simp only at ω WG
 subst ω;subst WG
 have e1:=F.sub_list_set
 have e2:=F.sub_list_frozenset
 have e3:(Value.type "list" == Value.type "dict")=false:=by decide
 have n1:l≠(s.heap.push o).objs.size:=by rw[hsz];exact aW (og hlS)
 have n2:s.heap.objs.size≠(s.heap.push o).objs.size:=by rw[hsz];exact aW (pQ _)
 subst ho
 unfold Builtin.«set.__init__» noKeywords Builtin.Frozenset.updateFrom
 generalize hPI:pyIter=PI
 wp_walk
 subst hPI
 refine oi za ?_
 refine aa (wpAny_runValue ?_)
 have hh3:A.in1.in1.in1.handled=none:=by simp[hh]
 refine DL (P:=P) (w:=w) (A:=A.in1.in1) (xs:=xs) (Walks.list hh3 _ l n1 its) n2 (fR hlS) hx hn hb (its.size-0) 0 _ (by lia) (cI _) ⟨⟨_,aG _ rfl,rfl,rfl⟩,za.push _⟩ (hS0.at λo' g=>ae _ g) λh' tk kp ν=>?_
 show aa0 _ _ _ _ _ _
 refine ak ?_
 show aa0 _ _ (ret Value.none) _ _ _
 refine ak ⟨rfl,h h' tk ν λc o' g=>?_⟩
 have gc:=aI g
 exact kp c o' (aW gc) (by rw[hsz];exact aW (og gc)) (ae _ (ae _ g))
theorem vG:∀{ws:lS7}{us:List Value},Vals (ws.map V.str) us->StrsAre us ws
 | [],us,h=>by cases h;exact .nil
 |x::r,us,h=>by
  cases h with
  |cons a b=>
   obtain⟨t,rfl⟩:=a
   exact .cons x t (vG b)
theorem tj:∀(l ws:lS7),ws.length<=(l.foldl kK ws).length
 | [],ws=>au _
 |x::r,ws=>by
  refine aA ?_ (tj r (kK ws x))
  unfold kK
  split
  ·exact au _
  ·rw[ai];exact de _ _
theorem Aa(ws:lS7)(i:Nat):(dJ (ws.take i)).length<=(dJ ws).length:=by
 have e:dJ ws=(ws.drop i).foldl kK (dJ (ws.take i)):=by
  unfold dJ
  rw[<-List.foldl_append,gn]
 rw[e]
 exact tj _ _
theorem sJ(hc:X.calm=true):dQ X (.type "set") (λxs H Q=>∃(l:Addr) (ws:lS7),xs = [.ref l]/\gq X.K H l (ws.map V.str)/\(dJ ws).length<64/\∀a,H a=none->Q (.ref a) (upd H a (.ext λh=>mY X.prog X.w h a (dJ ws)))):=by
 intro pins s σ H xs us Q I r h
 obtain⟨l,ws,rfl,hl,h64,q⟩:=h
 obtain⟨u,rfl,ru⟩:=r.one
 cases ru
 obtain⟨its,rv,pl,hz⟩:=I.list hl
 have hS:=vG rv
 have WY:(64:Nat)<scanBound:=by decide
 have hlen:ws.length=its.toArray.size:=by rw[aD,<-rv.length,ah]
 refine xn (xs:=ws) (I.ok.hd hc) pl.isList (λi v hv=>?_) hlen (λi=>by have:=Aa ws i;lia) λh' tk Ws kp=>?_
 ·rw[jZ] at hv
  have hi:i<ws.length:=by
   rw[hlen,aD]
   exact(aw.mp hv).1
  obtain⟨t,ht⟩:=hS.at (aK hi)
  rw[ht] at hv
  exact⟨_,t,aK hi,by injection hv with hv;exact hv.symm⟩
 ·refine⟨.ref s.heap.objs.size,_,I.laid (t':=tk) kp (au _) (show dI X.prog X.w _ h' _ (.ext λh=>mY X.prog X.w h s.heap.objs.size (dJ ws)) from⟨Ws,let ⟨o,_,_,_,ho,_⟩:=Ws;⟨o,ho⟩,λh1 h2 z k=>z.at k⟩),rfl,q _ I.fresh⟩
end L2
namespace L2
open PySem PySem.Spec PyProof.Rows PySem.SeqAt
section
variable {X:Cx}{pins:aP7}{σ:St}{H:Hp}{s:aa1}
end
end L2
namespace L2
open PySem PySem.Spec PyProof.Rows
def aa8(K:Frag)(a:Addr)(tab:Str->Option (lS7)):R2:=λx y H Q=>x=.ref a/\∃k ks,y=.str k/\tab k=some ks/\∀b,el K H b (ks.map V.str)->Q (.ref b) H
theorem RN{X:Cx}{a:Addr}{tab:Str->Option (lS7)}(T:qP X.w X.K a tab):yX X (aa8 X.K a tab):=by
 intro value slice pins s σ H x y v u Q I rx ry h hs
 obtain⟨rfl,k,ks,rfl,hk,q⟩:=h
 cases rx
 obtain⟨t,rfl⟩:=ry
 obtain⟨es,m,lk,keys,look⟩:=T.ex
 have hm:=Fc (prog:=X.prog) (w:=X.w) I.nO lk keys
 have lx:=look k
 rw[hk] at lx
 obtain⟨b,fb,o,its,m',l1,l2,l3,l4,l5⟩:=lx
 exact qL hm.typeIs Ow.lookup (wpAny_getItem_of (knd:=strKind X.prog X.w) (xF X.prog X.w k t) hm fb ⟨rfl,⟨.ref b,H,I.tok _,rfl,q b (.inr ⟨o,its,m',l1,l2,l3,l4,l5⟩)⟩⟩) hs
end L2
namespace L2
open PySem PySem.Spec PyProof.Rows PySem.SeqAt PySem.MeetsSeq PySem.Builtin PySem.Builtin.Tuple
variable{X:Cx}
theorem wa:dQ X (.type "str") (λxs H Q=>∃z,xs = [.str z]/\Q (.str z) H):=by
 intro pins s σ H xs us Q I r h
 obtain⟨z,rfl,q⟩:=h
 obtain⟨u,rfl,t,rfl⟩:=uz r
 exact PySem.P.str_of_str ⟨.str _,H,I,⟨_,rfl⟩,q⟩
theorem vY:dQ X (.type "str") (λxs H Q=>(∃z,xs = [.str z]/\Q (.str z) H)\/∃i,xs = [.int i]/\i.natAbs.log2<1920/\Q (.str (toString i)) H):=by
 intro pins s σ H xs us Q I r h
 rcases h with h|h
 ·exact wa pins s σ H xs us Q I r h
 ·exact vZ pins s σ H xs us Q I r h
end L2
namespace L2
open PySem PySem.Spec PyProof.Rows
variable{P:ab0}{w:ab1}{κ:Type}{A:ab4}{X:Cx}{E:dw}{s:aa1}{l:Addr}{its:Array Value}
def Po(K:Frag):V->Option Int->Option Int->Hp->VK->Prop:=λx lo hi H Q=>∃a xs,x=.ref a/\el K H a xs/\∀p H',iI H H'->el K H' p (nF xs lo hi)->Q (.ref p) H'
theorem NL:EY X (Po X.K):=by
 intro pins s σ H x v vl vu lo hi sl Q I rx hs pl pu h
 obtain⟨a,xs,rfl,hx,q⟩:=h
 by_cases hw:HT.fQ xs.length 0 lo=0/\HT.fQ xs.length xs.length hi=xs.length
 ·cases rx
  obtain⟨its,r,ht,hz⟩:=I.tuple hx
  have hlen:its.toArray.size=xs.length:=by rw[aD];exact r.length.symm
  refine⟨"tuple",_,bI.lookup,ht.typeIs,?_⟩
  exact qU ht hs pl pu (by rw[hlen];exact hw) ⟨.ref a,H,I,rfl,q a H (iI.refl H) (by rw[zM hw];exact hx)⟩
 ·exact T5 pins s σ H (.ref a) v vl vu lo hi sl Q I rx hs pl pu ⟨a,xs,rfl,hx,hw,λp hp=>q p _ (gm hp _) (el.of bE)⟩
def IF(K:Frag):R2:=λx y H Q=>∃a b xs ys,x=.ref a/\y=.ref b/\el K H a xs/\el K H b ys/\xs.length+ys.length<=sizeLine/\∀p H',iI H H'->el K H' p (xs++ys)->Q (.ref p) H'
theorem HF:iX X (binaryOp .Add) (IF X.K):=by
 intro pins s σ H x y v u Q I rx ry h
 obtain⟨a,b,xs,ys,rfl,rfl,ha,hb,hz,q⟩:=h
 by_cases hx:xs = []
 ·cases rx
  cases ry
  subst hx
  obtain⟨its,r1,p1,_⟩:=I.tuple ha
  obtain⟨l0,r2,p2,_⟩:=I.tuple hb
  obtain⟨⟨cls,dd,data,sl⟩,ho,hc,n,hd⟩:=id p1
  obtain⟨⟨U_,U1,data2,Z1⟩,Ro,Wz,n2,hd2⟩:=id p2
  simp only at hc hd Wz hd2
  subst hc hd Wz hd2
  obtain rfl:=r1.zero
  exact Vq ⟨_,ho,rfl⟩ ⟨_,Ro,rfl⟩ Dh P7 qJ pR (om _ _)
   (tuple_addW0 a b #[] l0.toArray n n2 dd U1 sl Z1 rfl) ⟨ho,Ro,⟨.ref b,H,I.tok _,rfl,q b H (iI.refl H) hb⟩⟩
 ·exact MH pins s σ H (.ref a) (.ref b) v u Q I rx ry ⟨a,b,xs,ys,rfl,rfl,ha,hb,hx,hz,λe=>q a H (iI.refl H) (by rw[e,bS];exact ha),λ_ p hp=>q p _ (gm hp _) (el.of bE)⟩
theorem NK:EY X (λx lo hi H Q=>∃z:Str,x=.str z/\z.length<=sizeLine/\Q (.str (Txt.slice z lo hi)) H):=by
 intro pins s σ H x v vl vu lo hi sl Q I rx hs pl pu h
 obtain⟨z,rfl,hz,q⟩:=h
 obtain⟨t,rfl⟩:=rx
 refine⟨"str",_,F.slot_str_getitem.lookup,typeIs_str _ _ _,?_⟩
 cases pl with
 |none=>
  cases pu with
  |none=>exact iW (l:=none) (u:=none) (st:=none) hs rfl (rq ⟨aA (lQ z none none) hz,λt' k=>⟨.str _,H,I.tok k,⟨t',rfl⟩,q⟩⟩)
  |int j u=>exact iW (l:=none) (u:=some (j,u)) (st:=none) hs rfl (rq ⟨aA (lQ z none (some j)) hz,λt' k=>⟨.str _,H,I.tok k,⟨t',rfl⟩,q⟩⟩)
 |int i t0=>
  cases pu with
  |none=>exact iW (l:=some (i,t0)) (u:=none) (st:=none) hs rfl (rq ⟨aA (lQ z (some i) none) hz,λt' k=>⟨.str _,H,I.tok k,⟨t',rfl⟩,q⟩⟩)
  |int j u=>exact iW (l:=some (i,t0)) (u:=some (j,u)) (st:=none) hs rfl (rq ⟨aA (lQ z (some i) (some j)) hz,λt' k=>⟨.str _,H,I.tok k,⟨t',rfl⟩,q⟩⟩)
def YF(K:Frag)(te:TE):TE:=λσ H Q=>te σ H λx H1=>∃a xs,x=.ref a/\el K H1 a xs/\∀p,H1 p=none->Q (.ref p) (upd H1 p (.tup xs.reverse))
theorem MV{e st:Expr}{te:TE}{p2 pos:Pos}(he:PE X e te)(OV:PE X st (tC (.int (-1)))):PE X (.Subscript e (.Slice none none (some st) p2) pos) (YF X.K te):=by
 intro pins s σ H Q I h
 refine Kb (cM (he pins s σ H _ I h) λv s1 ⟨x,H1,I1,r1,q1⟩=>?_)
 refine wpAny_Slice ?_
 rw[P6]
 refine ak (ak ?_)
 rw[evalPart_some]
 refine cM (OV pins s1 σ H1 (λy H2=>y=.int (-1)/\H2=H1) I1 ⟨rfl,rfl⟩) λvs s2 ⟨y,H2,I2,ry,ey,eH⟩=>?_
 subst eH
 obtain⟨a,xs,ex,hx,q2⟩:=q1
 subst ey
 subst ex
 obtain⟨tk,rfl⟩:=ry
 cases r1
 have I4:Inv X pins σ H2 {s2 with heap:=s2.heap.push {cls:=.type "slice",data:=.fields #[.none,.none,.int (-1) tk]}}:=I2.kept (t':=s2.toks) λb ob g=>ae _ g
 obtain⟨its,r,ht,hz⟩:=I4.tuple hx
 have hlen:=r.length
 show aa0 (aa5 X.prog X.w) X.A (subscriptTail e (.Slice none none (some st) p2) (.ref a) (.ref s2.heap.objs.size)) (EP X pins σ Q) X.xe {s2 with heap:=s2.heap.push {cls:=.type "slice",data:=.fields #[.none,.none,.int (-1) tk]}}
 refine tail_any (ops:= [.ref a,.ref s2.heap.objs.size]) ht.typeIs bI.lookup (qV ht (Heap.IsSliceOf.new ..) (by lia) ?_) (by with_unfolding_all rfl)
 refine⟨.ref _,_,I4.laid (t':=s2.toks) (o:=.tup xs.reverse) (λb ob g=>ae _ g) (au _) ⟨by rw[vH];exact hz,_,r.reverse,UM _ _⟩,rfl,?_⟩
 exact q2 _ I4.fresh
theorem D1:typeLookup (.type "list") "keys"=pure none:=by rw[typeLookup_type,builtinLookup_eq_fast];kernel_rfl
theorem sY:entryFor table "dict.update.loop"=some Builtin.«dict.update.loop»:=entryFor_of_tree (by kernel_rfl)
theorem yz{prog:ab0}{a:Addr}{o:Obj}{xs:Array Value}{k:Nat}{Q:Option Value->aa1->Prop}
  (hx:s.heap.get? a=some o) (hc:o.cls=.type "list") (WC:o.data=.seq xs k) (hd:o.dict=none) (hA:A.handled=none)
  (h:∀h' tk,(∀b ob,s.heap.get? b=some ob->h'.get? b=some ob)->Q none {s with heap:=h',toks:=tk}) :
  aa0 (aa5 prog w) A (getAttr? (.ref a) "keys") Q E s:=by
 obtain⟨c,dct,dP,sl⟩:=o
 simp only at hc WC hd
 subst hc WC hd
 obtain⟨hp,g,d,tk,os⟩:=s
 have hT:∀tk',(⟨hp,g,d,tk',os⟩:aa1).TypeIs (.ref a) "list":=λ_=>⟨_,hx,rfl⟩
 have f1:=sub_AttributeError
 have f3:=oj.lookup
 have f4:=oj.bind (.ref a)
 have f5:=am_list_getattr_none
 unfold getAttr? getAttrBy? getAttrBy
 repeat (any_goals (first|assumption|exact hT _|((with_reducible show aa0 _ _ (call (Value.builtin "list.__getattribute__") _ _) _ _ _);refine mW oj (hT _) am_entry_list_getattribute (F.args_list_getattribute_2 _ _) (meets_getattribute_miss_list a xs k sl "keys" _ D1 (by decide +kernel) (by size_fits)) ⟨hx,hA,λh' tk' e ZG=>?_⟩)|wp_step))
 obtain⟨t',u',he⟩:=ZG.there
 show aa0 _ _ (getattributeRaised _ _ _ _ _ _ _) _ _ _
 unfold getattributeRaised
 repeat (any_goals (first|assumption|wp_step))
 exact h _ _ ZG.keeps
theorem kO:plainId "dict.update.loop"=true:=by decide +kernel
def vM [DecidableEq κ](knd:KeyKind P w κ)(h:Heap)(u:Value)(p:κ×Value):Prop:=∃t key,u=Value.ref t/\h.IsTuple t #[key,p.2]/\knd.is p.1 key=true
section
variable [DecidableEq κ]{knd:KeyKind P w κ}
theorem AB{d it:Addr}{ps:List (κ×Value)}{R:Result->aa1->Prop}(hh:A.handled=none)(hp:∀i:Nat,its[i]?=none↔ps[i]?=none)(hz:ps.length<=1000) :
  ∀(m i:Nat) (kvs:List (κ×Value)) (s:aa1),ps.length-i=m->s.heap.IsListIter it l i->s.heap.IsList l its->s.heap.DictOf knd d kvs->kvs.length<=i ->
   (∀(j:Nat) (u:Value) (p:κ×Value),its[j]?=some u->ps[j]?=some p->vM knd s.heap u p) ->
   (∀h' tk,h'.DictOf knd d (merged kvs (ps.drop i))->(∀b o,b≠d->b≠it->s.heap.get? b=some o->h'.get? b=some o)->R (.ok (.ret .none)) {s with heap:=h',toks:=tk}) ->
   ac3 (aa5 P w) A (.builtin "dict.update.loop" ⟨[.ref d,.ref it,ab7 i,.none],[]⟩) R s:=by
 intro m
 induction m with
 |zero=>
  intro i kvs s hm hit hl hd hk WW hR
  refine fZ sY ?_
  rw[gO kO]
  unfold Builtin.«dict.update.loop»
  have hn:ps[i]?=none:=by rw[nE];lia
  have hx:=(hp i).mpr hn
  have Zm:d≠it:=λz=>by
   subst z
   obtain⟨o,e,c,dP⟩:=hit
   obtain⟨o',es,ep,e',c',dd,_⟩:=hd
   rw[e] at e'
   cases e'
   rw[dP] at dd
   cases dd
  refine aa (Y7 hh hit hl hx λh' eb=>?_)
  show aa0 _ _ (Builtin.Dict.addKeywords d [] >>= _) _ _ _
  refine aa (ak (ak ?_))
  refine hR h' s.toks ?_ λb o h1 h2 e=>eb b o h2 e
  rw[List.drop_eq_nil_of_le (by lia)]
  exact hd.extBut eb Zm
 |succ m ih=>
  intro i kvs s hm hit hl hd hk WW hR
  refine fZ sY ?_
  rw[gO kO]
  unfold Builtin.«dict.update.loop»
  have qd:i<ps.length:=by lia
  obtain⟨p,ZD⟩:∃p,ps[i]?=some p:=⟨_,aK qd⟩
  have Va:its[i]?≠none:=λz=>by rw[hp i,ZD] at z;cases z
  obtain⟨u,hui⟩:=Option.ne_none_iff_exists'.mp Va
  obtain⟨t,key,rfl,hT,DR⟩:=WW i u p hui ZD
  have Zm:d≠it:=λz=>by
   subst z
   obtain⟨o,e,c,dP⟩:=hit
   obtain⟨o',es,ep,e',c',dd,_⟩:=hd
   rw[e] at e'
   cases e'
   rw[dP] at dd
   cases dd
  have dl:d≠l:=λz=>by
   subst z
   obtain⟨o,e,c,n,dP⟩:=hl
   obtain⟨o',es,ep,e',c',dd,_⟩:=hd
   rw[e] at e'
   cases e'
   rw[dP] at dd
   cases dd
  have lit:l≠it:=λz=>by
   subst z
   obtain⟨o,e,c,n,dP⟩:=hl
   obtain⟨o',e',c',dd⟩:=hit
   rw[e] at e'
   cases e'
   rw[dP] at dd
   cases dd
  have YL:∀{t:Addr}{xs:Array Value},s.heap.IsTuple t xs->t≠it:=λhx z=>by
   subst z
   obtain⟨o,e,c,n,dP⟩:=hx
   obtain⟨o',e',c',dd⟩:=hit
   rw[e] at e'
   cases e'
   rw[dP] at dd
   cases dd
  have abF:∀{t:Addr}{xs:Array Value},s.heap.IsTuple t xs->t≠d:=λhx z=>by
   subst z
   obtain⟨o,e,c,n,dP⟩:=hx
   obtain⟨o',es,ep,e',c',dd,_⟩:=hd
   rw[e] at e'
   cases e'
   rw[dP] at dd
   cases dd
  have WA:ps.drop i=p::ps.drop (i+1):=by
   rw[List.drop_eq_getElem_cons qd]
   congr 1
   rw[aK qd] at ZD
   injection ZD
  refine aa (Vt hit hl hui λh1 aaa TR=>?_)
  have kT:∀{t:Addr}{xs:Array Value},s.heap.IsTuple t xs->h1.IsTuple t xs:=λhx=>by
   have ne:=YL hx
   obtain⟨o,e,r⟩:=hx
   exact⟨o,(TR.2 _ ne).trans e,r⟩
  have WB:h1.DictOf knd d kvs:=hd.extBut TR.extBut Zm
  have Zu:=kT hT
  have hTy:Shared.TypeIs {s with heap:=h1} (.ref t) "tuple":=by obtain⟨o,e,c,_⟩:=Zu;exact⟨o,e,c⟩
  refine aa (cD (aa (wpAny_tryCatch ?_)))
  unfold Builtin.Dict.pairItems
  refine aa (lR hTy ?_)
  rw[bF (by decide)]
  obtain⟨o,e,c,n,dP⟩:=id Zu
  refine aa ?_
  unfold seqItems?
  refine aa (wpAny_load e ?_)
  rw[dP]
  refine ak (ak ?_)
  have l3:(1000:Nat)<=sizeLine:=by decide
  refine cD (wpAny_dictSet_pairs DR WB (λh2 hd2 ZZ=>?_) (by lia))
  refine ak ⟨xC kO _,?_⟩
  have e1:ab7 ((i:Int)+1)=ab7 ((i+1:Nat):Int):=rfl
  refine ih (i+1) (PySem.stored kvs p.1 p.2) {s with heap:=h2,toks:=s.toks+1} (by lia) ?_ ?_ hd2 ?_ ?_ λh' tk y9 k'=>?_
  ·obtain⟨o,e,r⟩:=aaa
   exact⟨o,(ZZ.2 _ (cR Zm)).trans e,r⟩
  ·exact(hl.extBut TR.extBut lit).extBut ZZ.extBut (cR dl)
  ·unfold PySem.stored
   split
   ·rw[ah];lia
   ·rw[ai];simp;lia
  ·intro j u' p' fP Rt
   obtain⟨t',aaB,rfl,Zt,U9⟩:=WW j u' p' fP Rt
   have nd:=abF Zt
   obtain⟨o',e',r'⟩:=kT Zt
   exact⟨t',aaB,rfl,⟨o',(ZZ.2 _ nd).trans e',r'⟩,U9⟩
  ·refine hR h' tk ?_ λb ob y6 OP eb=>k' b ob y6 OP ((ZZ.2 _ y6).trans ((TR.2 _ OP).trans eb))
   rw[WA]
   exact y9
theorem zS{ps:List (κ×Value)}{Q:dw}(hh:A.handled=none)(hl:PlainL s.heap l its)(hp:∀i:Nat,its[i]?=none↔ps[i]?=none)(hz:ps.length<=1000)
  (WW:∀(j:Nat) (u:Value) (p:κ×Value),its[j]?=some u->ps[j]?=some p->vM knd s.heap u p)
  (h:∀h' tk,h'.DictOf knd s.heap.objs.size (merged [] ps)->(∀b o,s.heap.get? b=some o->h'.get? b=some o)->Q (.ref s.heap.objs.size) {s with heap:=h',toks:=tk}) :
  aa0 (aa5 P w) A (call (.type "dict") [.ref l]) Q E s:=by
 refine callType_codes (Q₁:=λobj s₁=>obj=.ref s.heap.objs.size/\s₁={s with heap:=s.heap.push {cls:=.type "dict",data:=.dict #[]}}) F.kt_called_dict (F.kt_typeCall_dict_1 _) F.entry_dict_init (kt_code_dict_new _ ⟨rfl,rfl⟩) ?_
 rintro obj s₁ ⟨rfl,rfl⟩
 have Gu:(s.heap.push {cls:=.type "dict",data:=.dict #[]}).DictOf knd s.heap.objs.size []:=Heap.DictOf.new s.heap
 refine⟨Gu.typeIs,F.args_dict_init_2 _ _,?_⟩
 unfold Builtin.«dict.__init__»
 refine aa ?_
 unfold Builtin.Dict.selfAndRest
 refine aa (wpAny_notOrdered_dict Gu.typeIs ?_)
 show aa0 _ _ (pure (s.heap.objs.size,[Value.ref l])) _ _ _
 refine ak ?_
 show aa0 _ _ (Builtin.Dict.updateFrom "dict.__init__" s.heap.objs.size (.ref l) [] .none) _ _ _
 unfold Builtin.Dict.updateFrom
 obtain⟨o,n,e,c,dn,dP⟩:=id hl
 have e1:(s.heap.push {cls:=.type "dict",data:=.dict #[]}).get? l=some o:=ae _ e
 have hT:Shared.TypeIs {s with heap:=s.heap.push {cls:=.type "dict",data:=.dict #[]}} (.ref l) "list":=⟨o,e1,c⟩
 refine aa (lR hT ?_)
 rw[bF (by decide)]
 refine aa (yz e1 c dP dn hh λh1 tk1 k1=>?_)
 rw[bF (by rfl)]
 refine aa (fe ?_)
 have za:PlainL h1 l its:=⟨o,n,k1 _ _ e1,c,dn,dP⟩
 have WB:h1.DictOf knd s.heap.objs.size []:=by
  obtain⟨o',es,ep,e',r⟩:=Gu
  exact⟨o',es,ep,k1 _ _ e',r⟩
 refine aa (oi za.isList ?_)
 refine ak ⟨xC kO _,?_⟩
 have kp:∀b o,s.heap.get? b=some o->(h1.push {cls:=.type "list_iterator",data:=.fields #[.ref l,.int 0 0]}).get? b=some o:=λb o q=>ae _ (k1 _ _ (ae _ q))
 refine AB (A:=A.in1) (R:=wants (λr s₂=>r=Value.none/\Q (Value.ref s.heap.objs.size) s₂) E) (knd:=knd) (d:=s.heap.objs.size) (l:=l) (its:=its) hh hp hz ps.length 0 [] {s with heap:=h1.push {cls:=.type "list_iterator",data:=.fields #[.ref l,.int 0 0]},toks:=tk1} (by lia) ⟨_,aG _ rfl,rfl,rfl⟩ ?_ (WB.push _) (au _) (λj u p hu WR=>?_) λh' tk y9 k'=>⟨rfl,?_⟩
 ·exact⟨o,kp _ _ e,c,n,dP⟩
 ·obtain⟨t,key,rfl,⟨o',e',r'⟩,hk⟩:=WW j u p hu WR
  exact⟨t,key,rfl,⟨o',kp _ _ e',r'⟩,hk⟩
 ·rw[J7] at y9
  refine h h' tk y9 λb ob q=>k' b ob (λz=>?_) (λz=>?_) (kp _ _ q)
  ·have:=aI q
   rw[z] at this
   exact dG _ this
  ·have:=aI (k1 _ _ (ae {cls:=.type "dict",data:=.dict #[]} q))
   rw[z] at this
   exact dG _ this
end
theorem Paired.at'{α β:Type}{F:α->β->Prop}:∀{xs:List α}{ys:List β}{i:Nat}{x:α}{y:β},Paired F xs ys->xs[i]?=some x->ys[i]?=some y->F x y
 |_,_,0,_,_,.cons h _,e1,e2=>by
  simp at e1 e2
  subst e1;subst e2
  exact h
 |_,_,i+1,_,_,.cons _ h,e1,e2=>Paired.at' h (by simpa using e1) (by simpa using e2)
 |_,_,_,_,_,.nil,e1,_=>by simp at e1
theorem Dz:dQ X (.builtin "len") (λxs H Q=>∃(a:Addr) (ws:lS7),xs = [.ref a]/\H a=some (.ext λh=>mY X.prog X.w h a ws)/\Q (.int ws.length) H):=by
 intro pins s σ H xs us Q I r h
 obtain⟨a,ws,rfl,ha,q⟩:=h
 obtain⟨u,rfl,ru⟩:=uz r
 cases ru
 obtain⟨o,es,ep,t,e,ex,hd,_,hp,_,hs,hf,_⟩:=(I.cN a _ ha).1
 have hl:es.size=ws.length:=by
  have:=hp.length_eq
  rw[ah] at this
  simpa using this
 have WY:(scanBound:Int)<2 ^ 63:=by decide
 exact call_len_set e ex hd hf (by lia) ⟨.int ws.length,H,I.tok _,⟨s.toks+1,by rw[hl]⟩,q⟩
end L2
namespace L2
open PySem PySem.Spec PyProof.Rows PySem.SeqAt PySem.MeetsSeq PySem.Builtin PySem.Builtin.Str
end L2
namespace L2
open PySem PySem.Spec PyProof.Rows
variable{X:Cx}{pins:aP7}{σ:St}{H:Hp}{s:aa1}{a b c z d t2 C:Addr}{A:ab4}{E:dw}{P:ab0}{w:ab1}{K:Frag}{mg:mG7}{base:Heap}{x x0:Str}{ps:lS7}{k i cc:Nat}{sp:Addr->Addr->Sp}{Q:Option Value->aa1->Prop}{e:Expr}{t0:Tok}{ys:Array Value}{y:Value}{es:List Expr}{pos p:Pos}{body:List Stmt}
theorem FR{kvs more:List (Key×V)}{Q:dw}(I:Inv X pins σ H s)(e:H a=some (.dK kvs))(e2:H b=some (.dK more))(Al:a≠b)(hl:kvs.length+more.length<=sizeLine)
  (h:∀s',Inv X pins σ (upd H a (.dK (hW kvs more))) s'->Q .none s'):aa0 (aa5 X.prog X.w) A (call (.builtin "dict.update") [.ref a,.ref b]) Q E s:=by
 obtain⟨z,hd,vs,rel,dd⟩:=yd I.cN e
 obtain⟨z2,hd2,vs2,X9,U1⟩:=yd I.cN e2
 refine call_meetsIn P5 dd.typeIs PySem.F.entry_dict_update (PySem.F.args_dict_update_2 _ _) (meets_dict_update (cX X.prog X.w) a b Al hd2)
  ⟨vs,vs2,dd,U1,by rw[<-rel.length,<-X9.length];exact hl,λh' JW _ hs=>h _ ?_⟩
 have he:∃q,h'.get? a=some q:=let ⟨q,_,_,hq,_⟩:=JW;⟨q,hq⟩
 have Zz:=ie more kvs
 exact rG I (by rw[e];exact True.intro) hs he (wx (by lia) hd (KV.merge X9 rel) JW)
def PD(td ty:TE):TE:=λσ H Q=>td σ H λx H1=>∃a,x=.ref a/\cQ H1 a/\ty σ H1 λy H2=>∃b kvs more,y=.ref b/\a≠b/\H2 a=some (.dK kvs)/\H2 b=some (.dK more)/\kvs.length+more.length<=sizeLine/\Q .non (upd H2 a (.dK (hW kvs more)))
theorem MT{o:Expr}{apos du:Pos}{td ty:TE}(ho:PE X o td)(he:PE X e ty)(m:M1 X o "update" apos e du):PE X (.Call (.Attribute o "update" apos) [e] [] du) (PD td ty):=by
 intro pins s σ H Q I h
 refine wpAny_Call_method m.base m.few m.line UO P5 PySem.F.type_dict_update (cM (ho pins s σ H _ I h) λu s1 ⟨x,H1,I1,rx,a,ex,d,q1⟩=>?_)
 subst ex
 obtain rfl:u=Value.ref a:=rx
 obtain⟨t1,t2,_⟩:=Rz I1 d
 refine⟨t1,t2,?_⟩
 rw[m.trees]
 refine jz rfl (ky (xD (cM (he pins s1 σ H1 _ I1 q1) λiv s2 ⟨y,H2,I2,ry,b,kvs,more,ey,Al,ha,hb,hl,q2⟩=>zg ?_)))
 subst ey
 cases ry
 exact FR I2 ha hb Al hl λs' I3=>⟨.non,_,I3,rfl,q2⟩
theorem NQ{v:Value}(h:(cX P w).is (Sum.inr x) v=true):∃t,v=.str x t:=by
 rw[(cX P w).strs (Sum.inr x) x 0 v (tN (k:=Sum.inr x) ⟨0,rfl⟩)] at h
 cases v with
 |str y t=>exact⟨t,by rw[show y=x from by simpa [Value.isStr] using h]⟩
 |_=>simp[Value.isStr] at h
theorem um:∀{ws:lS7}{l:List Value},l.length=ws.length->(∀(j:Nat) (v:Value),l[j]?=some v->∃(x:Str) (t:Tok),ws[j]?=some x/\v=Value.str x t)->Vals (ws.map V.str) l
 | [],[],_,_=>.nil
 | [],_::_,h,_=>by simp at h
 |_::_,[],h,_=>by simp at h
 |x::ws,v::l,h,k=>by
  refine .cons ?_ (um (by simpa using h) λj u hu=>?_)
  ·obtain⟨y,t,e1,e2⟩:=k 0 v rfl
   have e1':x=y:=by simpa using e1
   subst e1'
   exact⟨t,e2⟩
  ·exact k (j+1) u hu
theorem D2{ws:lS7}{kvs:List (Key×Value)}{acc:Array Value}(hk:kvs.map (·.1)=ws.map Sum.inr)(h:ItemsOf (λi v=>∃k x,kvs[i]?=some (k,x)/\(cX P w).is k v=true) acc kvs.length):Vals (ws.map V.str) acc.toList:=by
 obtain⟨h1,h2⟩:=h
 have hl:ws.length=kvs.length:=by have:=eB List.length hk;simpa using this.symm
 refine um (by rw[bX,h1,hl]) λj v hv=>?_
 obtain⟨k,x,e,hi⟩:=h2 j v (by simpa using hv)
 have e3:(kvs.map (·.1))[j]?=some k:=by rw[bP,e];rfl
 rw[hk,bP] at e3
 obtain⟨y,hy,rfl⟩:=Vo.mp e3
 obtain⟨t,rfl⟩:=NQ hi
 exact⟨y,t,hy,rfl⟩
theorem zF(hc:X.calm=true):dQ X (.type "list") (λxs H Q=>∃(a:Addr) (kvs:List (Key×V)) (ws:lS7),xs = [.ref a]/\H a=some (.dK kvs)/\kvs.map (·.1)=ws.map Sum.inr/\∀l,H l=none->Q (.ref l) (upd H l (.lst (ws.map V.str)))):=by
 intro pins s σ H xs us Q I r h
 obtain⟨a,kvs,ws,rfl,ha,hk,q⟩:=h
 obtain⟨u,rfl,ru⟩:=uz r
 cases ru
 obtain⟨z,hd,vs,rel,o,es,ep,ho⟩:=yd I.cN ha
 refine PySem.W.kdl_call (PySem.W.kdl_dict (knd:=cX X.prog X.w) (kvs:=vs) (ep:=ep) hd) (I.ok.hd hc) ⟨o,es,ho⟩ (by rw[<-rel.length];exact z) λh' tk acc c kp e it=>?_
 have hv:Vals (ws.map V.str) acc.toList:=D2 (by rw[<-rel.keys];exact hk) it
 refine⟨.ref s.heap.objs.size,_,I.laid (t':=tk) kp (au _) (show dI X.prog X.w _ h' _ (.lst (ws.map V.str)) from⟨?_,acc.toList,c,hv,e⟩),rfl,q _ (I.cN.fresh (au _))⟩
 have:ws.length=kvs.length:=by have:=eB List.length hk;simpa using this.symm
 rw[ah];lia
theorem HH(I:Inv X pins σ H s){k:Key}{v:V}(hb:el X.K H b [kV k,v]):∃r,RelV v r/\vM (cX X.prog X.w) s.heap (.ref b) (k,r):=by
 obtain⟨its,rv,ht,_⟩:=I.tuple hb
 obtain⟨u,r,rfl,ru,rr⟩:=rv.two
 refine⟨r,rr,b,u,rfl,ht,?_⟩
 cases k with
 |inl i=>obtain⟨t,rfl⟩:=ru;exact qD X.prog X.w i t
 |inr x=>obtain⟨t,rfl⟩:=ru;exact qE X.prog X.w x t
theorem vo{X:Cx}{pins:aP7}{s:aa1}{σ:St}{H:Hp}(I:Inv X pins σ H s):∀{ts:List V}{kvs:List (Key×V)}{its:List Value},Vals ts its->Paired (λt (kv:Key×V)=>∃b,t=V.ref b/\el X.K H b [kV kv.1,kv.2]) ts kvs ->
  ∃ps:List (Key×Value),KV kvs ps/\Paired (vM (cX X.prog X.w) s.heap) its ps
 |_,_,_,.nil,.nil=>⟨[],.nil,.nil⟩
 |_,_,_,.cons r rr,.cons p pp=>by
  obtain⟨ps,a,b⟩:=vo I rr pp
  obtain⟨c,rfl,hc⟩:=p
  cases r
  obtain⟨w,ED,pw⟩:=HH I hc
  exact⟨_,.cons ⟨rfl,ED⟩ a,.cons pw b⟩
theorem p0(hc:X.calm=true):dQ X (.type "dict") (λxs H Q=>∃(l:Addr) (ts:List V) (kvs:List (Key×V)),xs = [.ref l]/\gq X.K H l ts/\kvs.length<=100/\Paired (λt (kv:Key×V)=>∃b,t=V.ref b/\el X.K H b [kV kv.1,kv.2]) ts kvs /\
  ∀a,H a=none->Q (.ref a) (upd H a (.dK (hW [] kvs)))):=by
 intro pins s σ H xs us Q I r h
 obtain⟨l,ts,kvs,rfl,hl,hz,hp,q⟩:=h
 obtain⟨u,rfl,ru⟩:=uz r
 cases ru
 obtain⟨its,rv,pl,_⟩:=I.list hl
 have hlen:its.length=kvs.length:=by rw[<-rv.length,hp.length]
 obtain⟨ps,kv1,kv2⟩:=vo I rv hp
 have eo:ps.length=kvs.length:=kv1.length.symm
 have l3:(1000:Nat)<=sizeLine:=by decide
 refine zS (knd:=cX X.prog X.w) (its:=its.toArray) (ps:=ps) (I.ok.hd hc) pl (λi=>?_) (by lia) (λj u p hu WR=>?_) λh' tk y9 k'=>?_
 ·rw[jZ,nE,nE];lia
 ·rw[jZ] at hu
  exact Paired.at' kv2 hu WR
 ·have rel:KV (hW [] kvs) (merged [] ps):=KV.merge kv1 .nil
  have Zz:=ie kvs []
  refine⟨.ref s.heap.objs.size,_,I.laid (a:=s.heap.objs.size) (o:=.dK (hW [] kvs)) (t':=tk) k' (au _) ?_,rfl,q _ (I.cN.fresh (au _))⟩
  exact wx (by simp at Zz;lia) (cP.mpr (cR (aW I.big))) rel y9
theorem kR{h h':Heap}{T:String}{t:Tok}(z:h.IsStrIter c T x t i)(k:∀o,h.get? c=some o->h'.get? c=some o):h'.IsStrIter c T x t i:=by
 obtain⟨o,a,b,d⟩:=z
 exact⟨o,k o a,b,d⟩
structure xJ (h:Heap) (z a b c d:Addr) (x0:Str) (t0:Tok) (t2:Addr) (k:Nat) (f0:Value):Prop where
 zip:IsZip h z a b f0
 its:ac0 h a (.ref c) (.ref d)
 own:∃x y,ac0 h b x y
 i1:h.IsStrIter c "str_ascii_iterator" x0 t0 k
 i2:h.IsTupleIter d t2 k
theorem ER(hh:A.handled=none){Q:dw}(D:Dq z a b c d)(Z:xJ s.heap z a b c d x0 t0 t2 k .none)
  (o2:t2≠z/\t2≠b/\t2≠c/\t2≠d) (mF:s.heap.IsTuple t2 ys) (hx:x0.cps[k]?=some cc) (hy:ys[k]?=some y)
  (hQ:∀hp tk u,xJ hp z a b c d x0 t0 t2 (k+1) (ab7 s.heap.objs.size)->ac0 hp s.heap.objs.size (.str ⟨#[cc]⟩ u) y->(∀e o,e≠z->e≠b->e≠c->e≠d->s.heap.get? e=some o->hp.get? e=some o)->Q (.ref s.heap.objs.size) {s with heap:=hp,toks:=tk}) :
  aa0 (aa5 P w) A (Builtin.«zip.__next__» ⟨[.ref z],[]⟩) (λfin s'=>∃v,fin=.done (.ret v)/\Q v s') E s:=by
 obtain⟨zz,zi,⟨p,q,zo⟩,z1,z2⟩:=Z
 have qd:k<x0.cps.size:=by
  obtain⟨h,_⟩:=gP.mp hx
  exact h
 show aa0 _ _ (field (.ref z) 2 >>= _) _ _ _
 refine aa (bh zz rfl (x:=.bool false) rfl ?_)
 show aa0 _ _ (field (.ref z) 3 >>= _) _ _ _
 refine aa (bh zz rfl (x:=.ref a) rfl ?_)
 refine aa (cu zi rfl ?_)
 show aa0 _ _ (q2' (.ref z) >>= _) _ _ _
 refine aa ?_
 unfold q2'
 refine aa (bh zz rfl (x:=.none) rfl (ak ?_))
 simp only[jE]
 refine aa (fe ?_)
 refine aa (bh zz rfl (x:=.ref b) rfl ?_)
 refine aa (cj zz (by simp) λk1 y1 s1=>?_)
 replace y1:IsZip k1 z a b .ellipsis:=y1
 refine aa ?_
 simp only[pP,rm,eM,gQ]
 refine aa (aa (gh ?_))
 show aa0 _ _ (q0' (.ref c) >>= _) _ _ _
 refine aa ((J5 hh c x0 t0).item k _ _ _ qd (kR z1 λo g=>s1.extBut _ _ D.cz g) λv k2 tk hv y2 s2=>ak ?_)
 obtain⟨c',u,wF,rfl⟩:=hv
 rw[hx] at wF
 cases wF
 have w2:ac0 k2 b p q:=s2.extBut _ _ D.bc (s1.extBut _ _ D.bz zo)
 refine aa (cu w2 rfl ?_)
 refine aa (eU w2 λk3 y3 s3=>?_)
 replace y3:ac0 k3 b (.str ⟨#[cc]⟩ u) q:=y3
 refine aa (oh (ak ?_))
 refine aa (aa (gh ?_))
 show aa0 _ _ (q0' (.ref d) >>= _) _ _ _
 refine aa (oS (((z2.extBut s1.extBut D.dz).extBut s2.extBut D.cd.symm).extBut s3.extBut D.bd.symm) (((mF.extBut s1.extBut o2.1).extBut s2.extBut o2.2.2.1).extBut s3.extBut o2.2.1) hy λk4 y4 s4=>ak ?_)
 have w4:ac0 k4 b (.str ⟨#[cc]⟩ u) q:=s4.extBut _ _ D.bd y3
 refine aa (cu w4 rfl ?_)
 refine aa (eU w4 λk5 y5 s5=>?_)
 replace y5:ac0 k5 b (.str ⟨#[cc]⟩ u) y:=y5
 refine aa (oh (ak (ak ?_)))
 refine aa (cu y5 rfl ?_)
 refine aa (wpAny_newTuple ?_)
 have sz:k5.objs.size=s.heap.objs.size:=by rw[s5.1,s4.1,s3.1,s2.1,s1.1]
 have Y2:IsZip k5 z a b .ellipsis:=s5.extBut _ _ D.bz.symm (s4.extBut _ _ D.dz.symm (s3.extBut _ _ D.bz.symm (s2.extBut _ _ D.cz.symm y1)))
 have YN:∀e o,e≠z->e≠b->e≠c->e≠d->s.heap.get? e=some o->k5.get? e=some o:=λe o e1 e2 e3 e4 g=>s5.extBut _ _ e2 (s4.extBut _ _ e4 (s3.extBut _ _ e2 (s2.extBut _ _ e3 (s1.extBut _ _ e1 g))))
 have c5:k5.IsStrIter c "str_ascii_iterator" x0 t0 (k+1):=kR y2 λo g=>s5.extBut _ _ D.bc.symm (s4.extBut _ _ D.cd (s3.extBut _ _ D.bc.symm g))
 have d5:k5.IsTupleIter d t2 (k+1):=y4.extBut s5.extBut D.bd.symm
 have YZ:z<k5.objs.size:=aI Y2
 show aa0 _ _ (q1' (.ref z) (.ref k5.objs.size) >>= _) _ _ _
 refine aa ?_
 unfold q1'
 have zz6:IsZip (k5.push {cls:=.type "tuple",data:=.seq #[.str ⟨#[cc]⟩ u,y]}) z a b .ellipsis:=ae _ Y2
 refine aa (cj zz6 (by simp) λk7 y7 s7=>?_)
 replace y7:IsZip k7 z a b (ab7 k5.objs.size):=y7
 refine cj y7 (by simp) λk8 y8 s8=>?_
 replace y8:IsZip k8 z a b (ab7 k5.objs.size):=y8
 have up:∀e o,e≠z->k5.get? e=some o->k8.get? e=some o:=λe o e1 g=>s8.extBut _ _ e1 (s7.extBut _ _ e1 (ae _ g))
 have t8:ac0 k8 k5.objs.size (.str ⟨#[cc]⟩ u) y:=s8.extBut _ _ (fR YZ) (s7.extBut _ _ (fR YZ) (aG _ rfl))
 rw[sz] at y8 t8
 refine ak ⟨_,rfl,?_⟩
 show Q (.ref k5.objs.size) _
 rw[sz]
 exact hQ k8 _ u ⟨y8,up _ _ D.az (YN _ _ D.az D.ab D.ac D.ad zi),⟨_,y,up _ _ D.bz y5⟩,kR c5 λo g=>up _ o D.cz g,d5.at λo g=>up _ o D.dz g⟩ t8 λe o e1 e2 e3 e4 g=>up e o e1 (YN e o e1 e2 e3 e4 g)
theorem JL{Q:Fin->aa1->Prop}(hh:A.handled=none)(hk:k<=x0.cps.size)(D:Dq z a b c d)(Z:xJ s.heap z a b c d x0 t0 t2 k .none)
  (o2:t2≠z/\t2≠b/\t2≠c/\t2≠d) (mF:s.heap.IsTuple t2 ys) (Aj:x0.cps.size<=k\/ys[k]?=none)
  (hE:∀hp tk e,(∀f o,f≠z->f≠b->f≠c->f≠d->s.heap.get? f=some o->hp.get? f=some o)->(∃o,hp.get? e=some o/\o.cls=.type "StopIteration")->E (.ref e) {s with heap:=hp,toks:=tk}) :
  aa0 (aa5 P w) A (Builtin.«zip.__next__» ⟨[.ref z],[]⟩) Q E s:=by
 obtain⟨zz,zi,⟨p,q,zo⟩,z1,z2⟩:=Z
 show aa0 _ _ (field (.ref z) 2 >>= _) _ _ _
 refine aa (bh zz rfl (x:=.bool false) rfl ?_)
 show aa0 _ _ (field (.ref z) 3 >>= _) _ _ _
 refine aa (bh zz rfl (x:=.ref a) rfl ?_)
 refine aa (cu zi rfl ?_)
 show aa0 _ _ (q2' (.ref z) >>= _) _ _ _
 refine aa ?_
 unfold q2'
 refine aa (bh zz rfl (x:=.none) rfl (ak ?_))
 simp only[jE]
 refine aa (fe ?_)
 refine aa (bh zz rfl (x:=.ref b) rfl ?_)
 refine aa (cj zz (by simp) λk1 y1 s1=>?_)
 replace y1:IsZip k1 z a b .ellipsis:=y1
 refine aa ?_
 simp only[pP,rm,eM,gQ]
 refine aa (aa (gh ?_))
 show aa0 _ _ (q0' (.ref c) >>= _) _ _ _
 have hle:k<=x0.cps.size:=hk
 by_cases hx:k=x0.cps.size
 ·subst hx
  refine aa ((J5 hh c x0 t0).done _ _ _ (kR z1 λo g=>s1.extBut _ _ D.cz g) λk2 e s2 he=>?_)
  obtain⟨oe,An,Gn⟩:=he
  have Y0:IsZip k2 z a b .ellipsis:=s2 _ _ D.cz.symm y1
  have ez:e≠z:=λg=>by subst g;rw[Y0] at An;cases An;simp at Gn
  refine cj Y0 (by simp) λk3 _ s3=>hE k3 _ e (λf o f1 _ f3 _ g=>s3.extBut _ _ f1 (s2 _ _ f3 (s1.extBut _ _ f1 g))) ⟨oe,s3.extBut _ _ ez An,Gn⟩
 ·have qd:k<x0.cps.size:=by lia
  have hy:ys[k]?=none:=by
   rcases Aj with h|h
   ·lia
   ·exact h
  refine aa ((J5 hh c x0 t0).item k _ _ _ qd (kR z1 λo g=>s1.extBut _ _ D.cz g) λv k2 tk hv y2 s2=>ak ?_)
  have w2:ac0 k2 b p q:=s2.extBut _ _ D.bc (s1.extBut _ _ D.bz zo)
  refine aa (cu w2 rfl ?_)
  refine aa (eU w2 λk3 y3 s3=>?_)
  refine aa (oh (ak ?_))
  refine aa (aa (gh ?_))
  show aa0 _ _ (q0' (.ref d) >>= _) _ _ _
  refine aa (kG hh (((z2.extBut s1.extBut D.dz).extBut s2.extBut D.cd.symm).extBut s3.extBut D.bd.symm) (((mF.extBut s1.extBut o2.1).extBut s2.extBut o2.2.2.1).extBut s3.extBut o2.2.1) hy λk4 e s4 he=>?_)
  obtain⟨oe,An,Gn⟩:=he
  have Y1:IsZip k4 z a b .ellipsis:=s4 _ _ D.dz.symm (s3.extBut _ _ D.bz.symm (s2.extBut _ _ D.cz.symm y1))
  have ez:e≠z:=λg=>by subst g;rw[Y1] at An;cases An;simp at Gn
  refine cj Y1 (by simp) λk5 _ s5=>hE k5 _ e (λf o f1 f2 f3 f4 g=>s5.extBut _ _ f1 (s4 _ _ f4 (s3.extBut _ _ f2 (s2.extBut _ _ f3 (s1.extBut _ _ f1 g))))) ⟨oe,s5.extBut _ _ ez An,Gn⟩
theorem ES(hh:A.handled=none)(D:Dq z a b c d)(Z:xJ s.heap z a b c d x0 t0 t2 k .none)
  (o2:t2≠z/\t2≠b/\t2≠c/\t2≠d) (mF:s.heap.IsTuple t2 ys) (hx:x0.cps[k]?=some cc) (hy:ys[k]?=some y)
  (hQ:∀hp tk u,xJ hp z a b c d x0 t0 t2 (k+1) (ab7 s.heap.objs.size)->ac0 hp s.heap.objs.size (.str ⟨#[cc]⟩ u) y->(∀e o,e≠z->e≠b->e≠c->e≠d->s.heap.get? e=some o->hp.get? e=some o)->Q (some (.ref s.heap.objs.size)) {s with heap:=hp,toks:=tk}) :
  aa0 (aa5 P w) A (pyNext (.ref z)) Q E s:=by
 have hT:s.TypeIs (.ref z) "zip":=⟨_,Z.zip,rfl⟩
 unfold pyNext
 exact aa (iF (bW (name:=Str.ofString "__next__") hT eL (di eL hT pK
  (ER (A:=A.in1) hh D Z o2 mF hx hy λhp tk u q1 q2 q3=>ak (hQ hp tk u q1 q2 q3)) (nZ _))))
theorem ET(hh:A.handled=none)(hk:k<=x0.cps.size)(D:Dq z a b c d)(Z:xJ s.heap z a b c d x0 t0 t2 k .none)
  (o2:t2≠z/\t2≠b/\t2≠c/\t2≠d) (mF:s.heap.IsTuple t2 ys) (Aj:x0.cps.size<=k\/ys[k]?=none)
  (hQ:∀hp tk,(∀f o,f≠z->f≠b->f≠c->f≠d->s.heap.get? f=some o->hp.get? f=some o)->Q none {s with heap:=hp,toks:=tk}):aa0 (aa5 P w) A (pyNext (.ref z)) Q E s:=by
 have hT:s.TypeIs (.ref z) "zip":=⟨_,Z.zip,rfl⟩
 unfold pyNext
 refine aa (iF (bW (name:=Str.ofString "__next__") hT eL
  (di eL hT pK (JL (A:=A.in1) hh hk D Z o2 mF Aj λhp tk e hk he=>?_) (nZ _))))
 obtain⟨o,ho,hc⟩:=he
 refine aa (Dk (T:="StopIteration") (b:=true) ⟨o,ho,hc⟩ Kc ?_)
 exact ak (hQ _ _ hk)
def Qg(K:Frag)(x0:Str)(t2:Addr):It:=
  ⟨λi H => ∃ys c y,x0.cps[i]?=some c/\el K H t2 ys/\ys[i]?=some y,
   λi H v H' => ∃T,H T=none/\v=.ref T/\∀ys c y,x0.cps[i]?=some c->el K H t2 ys->ys[i]?=some y->H'=upd H T (.tup [.str ⟨#[c]⟩,y]),
   λi H => i<=x0.cps.size/\∃ys,el K H t2 ys/\(x0.cps.size<=i\/ys.length<=i)⟩
theorem vD(D:Dq z a b c d) :
  zv P w K (.Tuple es k pos) (Qg K x0 t2) [z,a,b,c,d] z (λi h=>xJ h z a b c d x0 t0 t2 i .none) where
 mem:=by simp
 obj:=λi h st e he=>by
  obtain⟨zz,zi,⟨p,q,zo⟩,⟨o1,e1,c1,d1⟩,⟨o2,e2,c2,d2⟩⟩:=st
  simp at he
  rcases he with rfl|rfl|rfl|rfl|rfl
  ·exact⟨_,zz,λv g=>by cases g⟩
  ·exact⟨_,zi,λv g=>by cases g⟩
  ·exact⟨_,zo,λv g=>by cases g⟩
  ·exact⟨_,e1,λv g=>by rw[d1] at g;cases g⟩
  ·exact⟨_,e2,λv g=>by rw[d2] at g;cases g⟩
 keep:=λi h h' st kp=>by
  obtain⟨zz,zi,⟨p,q,zo⟩,z1,z2⟩:=st
  exact⟨kp z (by simp) _ zz,kp a (by simp) _ zi,⟨p,q,kp b (by simp) _ zo⟩,kR z1 λo e=>kp c (by simp) o e,z2.at λo e=>kp d (by simp) o e⟩
 item:=by
  intro X hP hw hK hc i pins s σ H E I hf st hg
  subst hP hw hK
  obtain⟨ys,cc,y,hx,h2,hy⟩:=hg
  obtain⟨l0,r2,p2,l2⟩:=I.tuple h2
  obtain⟨u2,hu2,TJ⟩:=r2.get hy
  have vN:=λ(e:Addr) (he:e ∈ [z,a,b,c,d])=>i9 I h2 (hf e he)
  refine ES (I.ok.hd hc) D st ⟨vN z (by simp),vN b (by simp),vN c (by simp),vN d (by simp)⟩
   (show s.heap.IsTuple t2 l0.toArray from p2) hx (y:=u2) (by simpa using hu2) λhp tk u1 Z' pr kp=>?_
  refine⟨_,rfl,Ox Z'.zip λhq zq sq=>?_⟩
  have nT:H s.heap.objs.size=none:=I.fresh
  have cW:∀e o,e ∉ [z,b,c,d]->s.heap.get? e=some o->hq.get? e=some o:=λe o he g=>by
   simp at he
   exact sq.extBut _ _ he.1 (kp e o he.1 he.2.1 he.2.2.1 he.2.2.2 g)
  have Tz:s.heap.objs.size≠z:=fR (aI st.zip)
  have prq:ac0 hq s.heap.objs.size (.str ⟨#[cc]⟩ u1) u2:=sq.extBut _ _ Tz pr
  have tracked:∀e u,H e=some u->e ∉ [z,b,c,d]:=λe u he hm=>by
   have:H e=none:=(hf e (by simp at hm⊢;rcases hm with r|r|r|r<;>simp[r])).1
   rw[this] at he;cases he
  have wH:j4 X.prog X.w (upd H s.heap.objs.size (.tup [.str ⟨#[cc]⟩,y])) hq:=λe u he=>by
   by_cases ee:e=s.heap.objs.size
   ·subst ee
    rw[bE] at he
    cases he
    exact⟨(by show 2<=sizeLine;decide),[.str ⟨#[cc]⟩ u1,u2],.cons ⟨u1,rfl⟩ (.cons TJ .nil),⟨_,prq,rfl,_,rfl⟩⟩
   ·rw[bf ee] at he
    refine(I.cN e u he).ug (λf o Ak g=>cW f o ?_ g) (λf g=>by rw[bf (bB g nT)];exact g) λf zs g=>by rw[bf (bB g nT)];exact g
    rcases Ak with rfl|Ak
    ·exact tracked f u he
    ·exact tracked f _ Ak
  have I1:Inv X pins σ (upd H s.heap.objs.size (.tup [.str ⟨#[cc]⟩,y])) {s with heap:=hq,toks:=tk}:=by
   refine I.step (g':=s.gens) (d':=s.drawn) (t':=tk) (ch:= [z,b,c,d]) (λe he=>?_) (λe o _ _ he g _=>cW e o he g) (λe o _ _ he g _=>⟨o.slots,cW e o he g⟩)
    (λe o _ g n=>by rw[bf (aW (aI g))];exact n) (λe o he g=>⟨o,cW e o he g⟩) (λe zs g=>by rw[bf (bB g nT)];exact g) (λe o u g=>by rw[bf (bB g nT)];exact g)
    (λe ps g=>⟨#[],by rw[bf (bB g nT),g];simp⟩) (λm hm=>?_) wH I.bare
   ·obtain⟨f0,f1,f2,f3,f4,f5⟩:=hf e (by simp at he⊢;rcases he with r|r|r|r<;>simp[r])
    exact⟨f3,f1,f4,f5⟩
   ·obtain⟨o,DJ,ep,ho,r⟩:=hm
    refine⟨o,DJ,ep,cW _ o (λtI=>?_) ho,r⟩
    exact(hf X.env.locals (by simp at tI⊢;rcases tI with r|r|r|r<;>simp[r])).2.1 rfl
  refine⟨.ref s.heap.objs.size,_,I1,rfl,⟨_,nT,rfl,λys' c' y' gx g2 gy=>?_⟩,?_,λe he=>?_⟩
  ·have e2:=I.jc g2 h2
   subst e2
   rw[hx] at gx;rw[hy] at gy
   cases gx;cases gy
   rfl
  ·obtain⟨_,zi,⟨p,q,zo⟩,z1,z2⟩:=Z'
   exact⟨zq,sq.extBut _ _ D.az zi,⟨p,q,sq.extBut _ _ D.bz zo⟩,kR z1 λo g=>sq.extBut _ _ D.cz g,z2.extBut sq.extBut D.dz⟩
  ·rw[bf]
   ·exact(hf e he).1
   ·obtain⟨o,ho,_⟩:∃o,s.heap.get? e=some o/\True:=by
     obtain⟨zz,zi,⟨p,q,zo⟩,⟨o1,e1,c1,d1⟩,⟨o2,e2,c2,d2⟩⟩:=st
     simp at he
     rcases he with rfl|rfl|rfl|rfl|rfl
     ·exact⟨_,zz,trivial⟩
     ·exact⟨_,zi,trivial⟩
     ·exact⟨_,zo,trivial⟩
     ·exact⟨_,e1,trivial⟩
     ·exact⟨_,e2,trivial⟩
    exact aW (aI ho)
 done:=by
  intro X hP hw hK hc i pins s σ H E I hf st hg
  subst hP hw hK
  obtain⟨hk,ys,h2,hx⟩:=hg
  obtain⟨l0,r2,p2,l2⟩:=I.tuple h2
  have e2:=r2.length
  have vN:=λ(e:Addr) (he:e ∈ [z,a,b,c,d])=>i9 I h2 (hf e he)
  refine ET (I.ok.hd hc) hk D st ⟨vN z (by simp),vN b (by simp),vN c (by simp),vN d (by simp)⟩
   (show s.heap.IsTuple t2 l0.toArray from p2) (by
    rcases hx with q|q
    ·exact .inl q
    ·exact .inr (by simp;lia)) λhq tk kp=>⟨rfl,?_⟩
  have cW:∀e o,e ∉ [z,b,c,d]->s.heap.get? e=some o->hq.get? e=some o:=λe o he g=>by
   simp at he
   exact kp e o he.1 he.2.1 he.2.2.1 he.2.2.2 g
  have tracked:∀e u,H e=some u->e ∉ [z,b,c,d]:=λe u he hm=>by
   have:H e=none:=(hf e (by simp at hm⊢;rcases hm with r|r|r|r<;>simp[r])).1
   rw[this] at he;cases he
  refine I.step (g':=s.gens) (d':=s.drawn) (t':=tk) (ch:= [z,b,c,d]) (λe he=>?_) (λe o _ _ he g _=>cW e o he g) (λe o _ _ he g _=>⟨o.slots,cW e o he g⟩)
   (λe o _ g n=>n) (λe o he g=>⟨o,cW e o he g⟩) (λe zs g=>g) (λe o u g=>g) (λe ps g=>⟨#[],by rw[g];simp⟩) (λm hm=>?_) (λe u he=>?_) I.bare
  ·obtain⟨f0,f1,f2,f3,f4,f5⟩:=hf e (by simp at he⊢;rcases he with r|r|r|r<;>simp[r])
   exact⟨f3,f1,f4,f5⟩
  ·obtain⟨o,DJ,ep,ho,r⟩:=hm
   refine⟨o,DJ,ep,cW _ o (λtI=>?_) ho,r⟩
   exact(hf X.env.locals (by simp at tI⊢;rcases tI with r|r|r|r<;>simp[r])).2.1 rfl
  ·refine(I.cN e u he).ug (λf o Ak g=>cW f o ?_ g) (λf g=>g) λf zs g=>g
   rcases Ak with rfl|Ak
   ·exact tracked f u he
   ·exact tracked f _ Ak
 self:=λ_ _ _ _ _ st h=>wpAny_pyIter_zip st.zip h
noncomputable abbrev d_ (h:Heap) (x0:Str) (t0:Tok):Heap:=h.push {cls:=.type "str_ascii_iterator",data:=.fields #[.str x0 t0,.int 0 0]}
abbrev e_ (h:Heap) (x0:Str) (t0:Tok) (t2:Addr):Heap:=(d_ h x0 t0).push {cls:=.type "tuple_iterator",data:=.fields #[.ref t2,.int 0 0]}
abbrev f_ (h:Heap) (x0:Str) (t0:Tok) (t2:Addr):Heap:=(e_ h x0 t0 t2).push {cls:=.type "tuple",data:=.seq #[.ref h.objs.size,.ref (d_ h x0 t0).objs.size]}
abbrev g_ (h:Heap) (x0:Str) (t0:Tok) (t2:Addr):Heap:=(f_ h x0 t0 t2).push {cls:=.type "tuple",data:=.seq #[.none,.none]}
abbrev Ou (h:Heap) (x0:Str) (t0:Tok) (t2:Addr):Heap:=(g_ h x0 t0 t2).push {cls:=.type "zip",data:=.fields #[.none,.bool false,.bool false,.ref (e_ h x0 t0 t2).objs.size,.ref (f_ h x0 t0 t2).objs.size]}
theorem yU(x0:Str)(t0:Tok)(t2:Addr)(ys:Array Value)(hx:x0.cps.all (·< 128)=true) :
  Meets (Builtin.«zip.__new__» ⟨[.type "zip",.str x0 t0,.ref t2],[]⟩) (λ_ R s=>s.heap.IsTuple t2 ys/\R (.ok (.ret (.ref (g_ s.heap x0 t0 t2).objs.size))) {s with heap:=Ou s.heap x0 t0 t2}):=
 .of_wp λprog w A R s h=>by
  obtain⟨hp,g,d,tk,os⟩:=s;obtain⟨mF,h⟩:=h
  have Gv:=sub_zip
  have π:Heap.IsTuple (Shared.heap ⟨hp.push {cls:=.type "str_ascii_iterator",data:=.fields #[.str x0 t0,.int 0 0]},g,d,tk,os⟩) t2 ys:=Heap.IsTuple.push mF _
  wp_walk using wpAny_pyIter_ascii hx,iP π
  exact⟨_,rfl,h⟩
def W6(K:Frag)(ta:TA):TI:=λσ H R=>ta σ H λvs H1=>∃x0 t2,vs = [.str x0,.ref t2]/\x0.cps.all (·< 128)=true/\(∃ys,el K H1 t2 ys)/\R (Qg K x0 t2) H1
theorem Nl{rh:Pos}{a b:Expr}{ta:TA}(hg:Gl X "zip")(hm:X.mg "zip"=none)(ha:PA X [a,b] ta)(hs:autoParam (aa9 [a,b] X.env = [(false,eval a X.env),(false,eval b X.env)]) o0)
  (OU:autoParam (aa9 [b] X.env = [(false,eval b X.env)]) o0):PI X (.Tuple es k rh) (.Call (.Name "zip" p) [a,b] [] pos) (W6 X.K ta):=by
 intro pins s σ H R I h
 refine Call_ (qj I hg hm (show aa6 "zip"=some (.type "zip") from by decide +kernel) (gB (cM (ha pos pins s σ H _ I h) λus s1 ⟨vs,H1,I1,r1,q1⟩=>?_) (by rw[hs,OU]) (by rw[OU];rfl)))
 obtain⟨x0,t2,e,χ,⟨ys,g2⟩,q⟩:=q1
 subst e
 obtain⟨u1,u2,rfl,Yb,TJ⟩:=r1.two
 obtain⟨t0,rfl⟩:=Yb
 cases TJ
 obtain⟨l0,r2,p2,l2⟩:=I1.tuple g2
 refine callType_new F.called_zip (by decide) (F.typeCall_zip_2 _ _) (F.newCall_zip_2 _ _) (λobj=>i_ obj _ _) F.entry_zip_new
  (yU x0 t0 t2 l0.toArray χ) ⟨p2,?_⟩
 have z1:(d_ s1.heap x0 t0).objs.size=s1.heap.objs.size+1:=c7 ..
 have z2:(e_ s1.heap x0 t0 t2).objs.size=s1.heap.objs.size+2:=by rw[c7,z1]
 have z3:(f_ s1.heap x0 t0 t2).objs.size=s1.heap.objs.size+3:=by rw[c7,z2]
 have z4:(g_ s1.heap x0 t0 t2).objs.size=s1.heap.objs.size+4:=by rw[c7,z3]
 have y5:(Ou s1.heap x0 t0 t2).get? (g_ s1.heap x0 t0 t2).objs.size=some _:=aG _ rfl
 have y4:(Ou s1.heap x0 t0 t2).get? (f_ s1.heap x0 t0 t2).objs.size=some _:=ae _ (aG _ rfl)
 have y3:(Ou s1.heap x0 t0 t2).get? (e_ s1.heap x0 t0 t2).objs.size=some _:=ae _ (ae _ (aG _ rfl))
 have y2:(Ou s1.heap x0 t0 t2).get? (d_ s1.heap x0 t0).objs.size=some _:=ae _ (ae _ (ae _ (aG _ rfl)))
 have y1:(Ou s1.heap x0 t0 t2).get? s1.heap.objs.size=some _:=ae _ (ae _ (ae _ (ae _ (aG _ rfl))))
 have up:∀e o,s1.heap.get? e=some o->(Ou s1.heap x0 t0 t2).get? e=some o:=λe o g=>ae _ (ae _ (ae _ (ae _ (ae _ g))))
 show _/\_
 rw[z2,z3,z4] at y5
 rw[z1,z2] at y3
 rw[z3] at y4
 rw[z1] at y2
 rw[z4]
 refine⟨⟨_,y5,rfl⟩,?_⟩
 have I2:Inv X pins σ H1 {s1 with heap:=Ou s1.heap x0 t0 t2}:=I1.kept (t':=s1.toks) up
 have D:Dq (s1.heap.objs.size+4) (s1.heap.objs.size+2) (s1.heap.objs.size+3) s1.heap.objs.size (s1.heap.objs.size+1):=Dg s1.heap.objs.size
 have Z:xJ (Ou s1.heap x0 t0 t2) (s1.heap.objs.size+4) (s1.heap.objs.size+2) (s1.heap.objs.size+3) s1.heap.objs.size (s1.heap.objs.size+1) x0 t0 t2 0 .none:=⟨y5,y3,⟨_,_,y4⟩,⟨_,y1,rfl,rfl⟩,⟨_,y2,rfl,rfl⟩⟩
 refine(vD (P:=X.prog) (w:=X.w) (K:=X.K) (es:=es) (k:=k) (pos:=rh) D).self X.A 0 _ _ _ Z ?_
 refine⟨s1.heap.objs.size+4,_,_,_,H1,rfl,I2,vD D,Z,λe he=>?_,q⟩
 have hle:s1.heap.objs.size<=e:=JJ s1.heap.objs.size e he
 exact I1.Ab hle (I1.cN.fresh hle)
def yh(i:Nat)(D:Ends):Ends:={nx:=λσ H=>D.nx (σ.set i none) H,rt:=D.rt,bk:=λσ H=>D.bk (σ.set i none) H,ct:=λσ H=>D.ct (σ.set i none) H}
def abw(K:Frag)(R:Addr)(L i:Nat)(tb:XK->TS)(ts:Addr->Addr->TS):TS:=λD σ H=>∃E1:XK,tb E1 D σ H /\
 ∀(C:Addr) (od:Option Addr) (H':Hp) (a:Addr) (σ':St),E1 (.ref C) od H'->σ'.length=L->subIn K (.ref C) (.ref R)=some true/\ts a C (yh i D) (σ'.set i (some (.ref a))) H'
section
variable {D:Ends}{f:Flow}
theorem SP.AO(ok:X.Ok)(h:SP {X with pn:=X.pn++pins,xe:=E} [] D f s):SP X pins D f s:=by
 cases f with
 |next=>obtain⟨σ',H',I,q⟩:=h;exact⟨σ',H',I.AO ok,q⟩
 |brk=>obtain⟨σ',H',I,q⟩:=h;exact⟨σ',H',I.AO ok,q⟩
 |cont=>obtain⟨σ',H',I,q⟩:=h;exact⟨σ',H',I.AO ok,q⟩
 |ret u=>obtain⟨v,σ',H',I,r,q⟩:=h;exact⟨v,σ',H',I.AO ok,r,q⟩
end
theorem Tr{n:Str}{R:Addr}{Py:List Stmt}{b0:Stmt}{np WU:Pos}{tb:XK->TS}{ts:Addr->Addr->TS}(fr:Qc X)(hN:X.N.Nodup)(hi:X.N[i]?=some n)(hl:X.env.scope.names.lookup n=some .local)(hf:X.fn n=true)
  (hg:Gl X x) (hm:X.mg x=some (.ref R)) (hR:Qe X.K R) (hb:∀pn E1,nj (X.tr pn E1) body (tb E1)) (hs:∀pn a C,Hd (X.hn pn a) a C->nj (X.hn pn a) (b0::Py) (ts a C))
  (hd:autoParam ((x == ("__debug__":Str))=false) v0):PS X (.Try body [.ExceptHandler (some (.Name x np)) (some n) (b0::Py) WU] [] [] pos) (abw X.K R X.N.length i tb ts):=by
 intro pins s σ H D I h
 obtain⟨E1,Zv,hh⟩:=h
 have ok:=I.ok
 refine wpAny_Try_except (eD (hb (X.pn++pins) E1 [] s σ H D (I.abB _) Zv) (λf s1 q=>?_) λe s1 q=>?_)
 ·have q':=SP.AO ok q
  cases f with
  |next=>exact lF q'
  |brk=>exact q'
  |cont=>exact q'
  |ret u=>exact q'
 obtain⟨σ',H0,s0,J,a,C,H',rfl,fly,hE⟩:=q
 obtain⟨Gv,hsu⟩:=hh C none H' a σ' hE J.len
 have aaR:∀{b:Addr},s0.heap.get? b=none->b≠X.env.locals:=λz e=>by
  obtain⟨m,⟨o,_,_,ho,_⟩,_⟩:=J.loc
  rw[e] at z
  rw[z] at ho;cases ho
 have nfs:∀{b:Addr},s0.heap.get? b=none->b∉X.fs:=λz e=>by
  obtain⟨_,o,ho,_⟩:=J.kI.mem e
  rw[z] at ho;cases ho
 have hand:∀{fl:Value}{s2:aa1} (f2:Fl X.prog X.w X.stack H0 s0 H' a C fl s2),∃t T,s2.heap.get? a=some (pJ C t (.ref T))/\Inv (X.hn ((a,pJ C t (.ref T))::(X.pn++pins)) a) [] σ' H' s2:=λ{fl s2} f2=>by
  obtain⟨T,⟨⟨t,ha⟩,_⟩,_⟩:=f2.ex
  exact⟨t,T,ha,(f2.inv (X:={X with pn:=X.pn++pins}) J).abA ha f2.na (aaR f2.new) (nfs f2.new) (by intro v z;cases z)⟩
 refine fly.note (X:={X with pn:=X.pn++pins}) J fr.st fr.fr ok.frames λs2 f2=>?_
 refine f2.land (X:={X with pn:=X.pn++pins}) (f2.Zr (X:={X with pn:=X.pn++pins}) J) λs3 f3=>?_
 obtain⟨t3,T3,ha3,I3⟩:=hand f3
 refine wpAny_handleBy_cons (codeAny_handlers_test ?_) (by intro z;cases z)
 refine kN (X:=X.hn ((a,pJ C t3 (.ref T3))::(X.pn++pins)) a) I3 hg hm ?_ hd
 refine K9 I3.nO hR ha3 rfl Gv ?_
 refine codeAny_handlers_suite_as ?_
 refine f3.land (X:={X with pn:=X.pn++pins}) (f3.Zr (X:={X with pn:=X.pn++pins}) J) λs4 f4=>?_
 obtain⟨t4,T4,ha4,I4⟩:=hand f4
 refine pA (X:=X.hn ((a,pJ C t4 (.ref T4))::(X.pn++pins)) a) (v:=.ref a) I4 hN hi (.inl hl) rfl (λs5 I5=>?_) (.inl hf)
 refine eD (hs _ a C ⟨rfl,t4,.ref T4,aL⟩ [] s5 _ H' (yh i D) I5 hsu) (λfl s6 q6=>?_) λ_ _ z=>z.elim
 have okP:Cx.Ok {X with pn:=X.pn++pins}:=ok.pnx _ _
 have go:∀{σ6:St}{H6:Hp}{Q:Unit->aa1->Prop},Inv (X.hn ((a,pJ C t4 (.ref T4))::(X.pn++pins)) a) [] σ6 H6 s6->(∀s7,Inv X pins (σ6.set i none) H6 s7->Q () s7) ->
   aa0 (aa5 X.prog X.w) X.A (do bindName X.env n .none;unbindBehindTheSuite X.env n WU) Q X.xe s6:=λ{σ6 H6 Q} I6 k=>by
  have J6:Inv X pins σ6 H6 s6:=Inv.AO (E:=X.xe) ok (I6.aaY okP)
  obtain⟨m,hn,_⟩:=id J6.loc
  refine wpAny_nameGoes_keeps hl hn (by rw[ok.kind];rfl) λh' v WM LA=>?_
  exact k _ (J6.ζ hN hi hl hn WM LA)
 cases fl with
 |next=>obtain⟨σ6,H6,I6,q⟩:=q6;exact go I6 λs7 I7=>⟨_,_,I7,q⟩
 |brk=>obtain⟨σ6,H6,I6,q⟩:=q6;exact go I6 λs7 I7=>⟨_,_,I7,q⟩
 |cont=>obtain⟨σ6,H6,I6,q⟩:=q6;exact go I6 λs7 I7=>⟨_,_,I7,q⟩
 |ret u=>obtain⟨v,σ6,H6,I6,r,q⟩:=q6;exact go I6 λs7 I7=>⟨v,_,_,I7,r,q⟩
structure sd (k:Nat) (A:ab4) (a:Addr):Prop where
 hd:A.handled=some (.ref a)
 dp:A.depth+3*k+5<recursionLimit
 un:A.units+16*k+200<cLine
theorem fi.hand(r:fi k A)(a:Addr):sd k (A.mark (some (.ref a))) a:=⟨rfl,r.dp,r.un⟩
theorem sd.deeper(r:sd (k+1) A a)(env:Env):sd k (A.deeper env) a:=
 ⟨r.hd,by have:=r.dp;show A.depth+1+3*k+5<_;lia,by have:=r.un;show A.units+3+16*k+200<_;lia⟩
abbrev W_ (P:ab0) (w:ab1) (K:Frag) (mg:mG7) (base:Heap) (N:lS7) (qual:Str) (scope:Scope) (f:Addr) (cd:Value) (A:ab4) (outer:List Env) (s:aa1) (H:Hp) (a:Addr) (oe:Obj):Cx:=
 {(oN zp P w K mg base N qual scope f cd A outer s H E0).O5 with calm:=false,pn:= [(a,oe)]}
structure zt (P:ab0) (w:ab1) (K:Frag) (mg:mG7) (base:Heap) (k:Nat) (x:Str) (ps:lS7) (sp:Addr->Addr->Sp):Prop where
 ex:∃(f:Addr) (fd:ab5),(∀(A:ab4) (outer:List Env) (s:aa1) (H:Hp) (args:Args) (us:List Value) (vs:List V) (Q:VK) (a C t:Addr) (tb:Value),sd k A a->xH P w K mg base A outer s H->s.heap.get? a=some (pJ C t tb)->H a=none ->
   a∉rJ outer->BindsTo s fd args (ps.zip us)->Vals vs us->sp a C vs H Q E0->ac3 (aa5 P w) A (.call (.ref f) args) (CR zp outer P w H s Q E0) s) /\
  (∀a C vs H Q E,sp a C vs H Q E->vs.length=ps.length)/\mg x=some (.ref f)/\keepIn K (.ref f)=true/\Binds K fd ps []
section
variable {st:Stmt}{N:lS7}
theorem Src.okH(S:Src K mg x st ps)(F:eX N ps (aQ st))(len:∀a C vs H Q E,sp a C vs H Q E->vs.length=ps.length)
  (oZ:∀(f:Addr) (fT:Value) (A:ab4) (outer:List Env) (s:aa1) (H:Hp) (vs:List V) (Q:VK) (a C t:Addr) (tb:Value),sd k (A.deeper (envOfC x (aQ st) s.heap.objs.size f fT)) a->sp a C vs H Q E0 ->
   Hd (W_ P w K mg base N x (aQ st) f fT A outer s H a (pJ C t tb)) a C ->
   ∃tt,nj (W_ P w K mg base N x (aQ st) f fT A outer s H a (pJ C t tb)) (cJ st) tt/\tt {nx:=λ_ H'=>Q .non H',rt:=Q} (start N vs) H):zt P w K mg base (k+1) x ps sp:=by
 obtain⟨f,fd,F0,hm,hb⟩:=S.ex
 obtain⟨oc,od,kV,doc,pm,an,fT,ct,AS,rfl,lk,Ai⟩:=F0.ex
 refine⟨f,_,λA outer s H args us vs Q a C t tb hr e0 hea hna Ξ hbt r Ap=>?_,len,hm,F0.kp,hb⟩
 have hl:=len _ _ _ _ _ _ Ap
 have KX:K.In s.heap:=e0.mod.LZ.keeps λb o e=>(e0.bs b o e).1
 have lim:s.heap.NoLimit:=e0.mod.nolimit.keeps λb o e=>(e0.bs b o e).1
 have Gr:∀y∈ps.zip us,(aQ st).names.lookup y.1=some .local\/((aQ st).names.lookup y.1=some .cell/\((cellsFrom (s.heap.objs.size+1) (aQ st).names []).lookup y.1).isSome=true):=λ⟨n,v⟩ hy=>by
  rcases F.par n (rj hy).1 with q|q
  ·exact .inl q
  ·exact .inr ⟨q,qK _ _ _ (.inl q)⟩
 refine Y5 (by have:=hr.dp;lia) (KX _ _ lk) rfl F.co F.gen rfl (PySem.W.codeRec_of KX Ai) (hbt _ _ _ _ ?_)
 refine Ke F.kind Gr λenv he s1 y=>?_
 subst he
 refine⟨lim.keeps y.toInCall.keep,codeAny_func ?_⟩
 have J0:Inv (oN zp P w K mg base N x (aQ st) f fT {A with handled:=none} outer s H E0) [] (start N vs) H s1:=vc F rfl ⟨e0.frames,e0.mod,e0.bs,e0.Bt,e0.kI,e0.F9,e0.cN,e0.bare⟩ hl r y
 have qd:a<s.heap.objs.size:=aI hea
 have I:Inv (W_ P w K mg base N x (aQ st) f fT A outer s H a (pJ C t tb)) [] (start N vs) H s1:=by
  refine⟨⟨J0.ok.mod,J0.ok.kind,J0.ok.glob,J0.ok.blt,J0.ok.above,J0.ok.inj,J0.ok.has,J0.ok.OG,λz=>(aH z).elim,J0.ok.frames,J0.ok.Ua,J0.ok.Lb,J0.ok.bs,J0.ok.Bt,J0.ok.wZ,J0.ok.wz,J0.ok.kI,J0.ok.F9⟩,J0.os,J0.bare,J0.base,J0.loc,J0.cell,J0.free,J0.iq,λp hp=>?_,J0.cN,J0.len⟩
  have e:p=(a,pJ C t tb):=by simpa using hp
  subst e
  exact⟨y.toInCall.keep _ _ hea,hna,aW (bw qd J0.ok.above),Ξ,by intro v z;cases z⟩
 obtain⟨tt,ht,hq⟩:=oZ f fT A outer s H vs Q a C t tb (hr.deeper _) Ap ⟨hr.hd,t,tb,by simp⟩
 refine eD (ht [] s1 (start N vs) H _ I hq) (λfl s' hs=>?_) λe s' hs=>hs.elim
 cases fl with
 |ret u=>
  obtain⟨v,σ',H',J,rv,q⟩:=hs
  exact⟨v,H',J.os,J.bare,J.base,J.cN,rv,q⟩
 |next=>
  obtain⟨σ',H',J,q⟩:=hs
  exact⟨.non,H',J.os,J.bare,J.base,J.cN,rfl,q⟩
 |brk=>
  obtain⟨_,_,_,q⟩:=hs
  exact False.elim q
 |cont=>
  obtain⟨_,_,_,q⟩:=hs
  exact False.elim q
end
theorem zt.mono{j:Nat}(D:zt P w K mg base j x ps sp)(h:j<=k):zt P w K mg base k x ps sp:=by
 obtain⟨f,fd,run,r⟩:=D.ex
 exact⟨f,fd,λA outer s H args us vs Q a C t tb hr=>run A outer s H args us vs Q a C t tb ⟨hr.hd,by have:=hr.dp;lia,by have:=hr.un;lia⟩,r⟩
theorem MQ{t:TA}(D:zt X.prog X.w X.K X.mg X.base k x ps sp)(hh:Hd X a C)(hr:sd k X.A a)(hg:Gl X x)(ha:PA X (e::es) t)
  (jT:autoParam ((x == ("__debug__":Str))=false) v0) (eo:autoParam ((e::es).all bY=true) o0):PE X (.Call (.Name x p) (e::es) [] pos) (abp (sp a C) t):=by
 obtain⟨f,fd,run,len,hm,hk,hb⟩:=D.ex
 intro pins s σ H Q I h
 rw[aB,ay] at eo
 refine fS (kN I hg hm ?_ jT)
 refine mU (h₀:=X.base) I.ok.mod.LZ hk (cM (ha pos pins s σ H _ I h) λus s1 ⟨vs,H1,I1,r,q⟩=>⟨I1.nO,?_⟩) (cF eo.1) (gJ eo.2)
 obtain⟨t0,tb,WS⟩:=hh.pn
 obtain⟨z1,z2,z3,z4,_⟩:=I1.pin (a,pJ C t0 tb) (dO _ WS)
 have hl:us.length=ps.length:=by rw[<-r.length];exact len _ _ _ _ _ _ q
 have nf:a∉rJ X.stack:=λz=>by
  rcases aN.mp (I1.xp a z) with e|e
  ·exact z3 e
  ·exact z4 e
 refine qM (jD (run X.A X.stack s1 H1 ⟨us,[]⟩ us vs Q a C t0 tb hr I1.QU z1 z2 nf (by have w:=hb s1 us I1.nO (by simpa using hl);simpa using w) r q) λres s' hq=>?_)
 cases res with
 |error e=>exact hq.elim
 |ok fl=>
  cases fl with
  |ret u=>exact I1.after hq
  |next=>exact False.elim hq
  |brk=>exact False.elim hq
  |cont=>exact False.elim hq
theorem Cv{tg l:Expr}{tl:TE}{g:TG}{tb:TS}{a0:Addr}(hh:Hd X a0 C)(hp:PassesOwn (aa5 X.prog X.w) X.A X.env X.xe)(hl:PE X l tl)(hg:PG X tg g)(hb:nj X body tb)
  (hs:autoParam (∀x,ab8 l X.env x=pure x) ad1):PS X (.For tg l body [] pos) (Ui (aau X.K tl) g tb):=by
 intro pins s σ H D I h
 refine wpAny_For (cM (hl pins s σ H _ I h) λv s1 ⟨x,H1,I1,r1,a,e,⟨xs,hq⟩,q⟩=>?_) hs
 subst e
 cases r1
 obtain⟨its,rv,p,hz⟩:=I1.tuple hq
 refine iP (show s1.heap.IsTuple a its.toArray from p) ?_
 obtain⟨W,⟨m0,w0⟩,turn⟩:=q
 have fp:lG X pins H1 s1.heap.objs.size:=I1.Ab (au _) (I1.cN.fresh (au _))
 generalize hit:s1.heap.objs.size=it at fp⊢
 refine abQ (λn s'=>∃i σ' H',Inv X pins σ' H' s'/\s'.heap.IsTupleIter it a i/\H' it=none/\W i n σ' H') ?_ m0 ⟨0,σ,H1,I1.kept (t':=s1.toks) (λb o e=>ae _ e),⟨_,by rw[<-hit];exact aG _ rfl,rfl,rfl⟩,fp.1,w0⟩
 rintro n s3 ⟨i,σ3,H3,I3,Yq,Zq,w3⟩
 have f3:lG X pins H3 it:=⟨Zq,fp.2⟩
 obtain⟨f0,f1,f2,f4,f5,f6⟩:=id f3
 rcases turn i n σ3 H3 w3 with ⟨stop,qn⟩|⟨go,N,hN,step⟩
 ·obtain⟨xs3,ZE,hx3⟩:=stop
  obtain⟨RK,rv3,p3,_⟩:=I3.tuple ZE
  have hl3:=rv3.length
  obtain⟨t0,tb0,WS⟩:=hh.pn
  have WT:(a0,pJ C t0 tb0)∈X.pn++pins:=dO _ WS
  obtain⟨z1,_⟩:=I3.pin (a0,pJ C t0 tb0) WT
  refine dv hp (Bc hh.hd z1 (f6 _ WT) Yq (show s3.heap.IsTuple a RK.toArray from p3) (by simp;lia) λh' eb=>?_)
  exact lF ⟨σ3,H3,I3.turned (t':=s3.toks) (λb o hb e=>eb b o hb e) f0 f1 f4 f5 f6,qn⟩
 ·obtain⟨xs3,x3,ZE,hx3⟩:=go
  obtain⟨RK,rv3,p3,_⟩:=I3.tuple ZE
  obtain⟨u,hu,ru⟩:=rv3.get hx3
  refine dv hp (UR Yq (show s3.heap.IsTuple a RK.toArray from p3) (x:=u) (by simpa using hu) λh' A7 sb=>?_)
  have I4:Inv X pins σ3 H3 {s3 with heap:=h'}:=I3.turned (t':=s3.toks) (λb o hb e=>(sb.2 b hb).trans e) f0 f1 f4 f5 f6
  obtain⟨ot,et,ct,dt⟩:=id A7
  refine dv hp (BS (s:={s3 with heap:=h'}) et ct dt (by decide) ?_)
  have I5:=I4.pinned (fp:= [it]) (λb hb=>by rw[aO.mp hb];exact f3) (λb hb=>by rw[aO.mp hb];exact⟨ot,et,λv z=>by rw[dt] at z;cases z⟩)
  refine dv hp (cM (hg _ {s3 with heap:=h'} σ3 H3 x3 u _ I5 ru (step x3 H3 ⟨rfl,λys hy=>by rw[I3.jc hy ZE];exact hx3⟩)) λ_ s6 ⟨σ6,H6,I6,q6⟩=>?_)
  refine dv hp (cM (hb _ s6 σ6 H6 _ I6 q6) λf s7 q7=>?_)
  have again:∀{σ7:St}{H7:Hp},Inv X (pins++md [it] h') σ7 H7 s7->N σ7 H7->∃m,m<n/\∃i σ' H',Inv X pins σ' H' s7/\s7.heap.IsTupleIter it a i/\H' it=none/\W i m σ' H':=λ{σ7 H7} I7 n7=>by
   obtain⟨m',OS,w7⟩:=hN σ7 H7 n7
   have pm:(it,ot)∈X.pn++(pins++md [it] h'):=aM _ (aM _ (fq (aO.mpr rfl) et))
   exact⟨m',OS,i+1,σ7,H7,I7.fz,A7.at λo e=>by rw[et] at e;cases e;exact(I7.pin _ pm).1,(I7.pin _ pm).2.1,w7⟩
  cases f with
  |next=>obtain⟨σ7,H7,I7,n7⟩:=q7;exact again I7 n7
  |cont=>obtain⟨σ7,H7,I7,n7⟩:=q7;exact again I7 n7
  |brk=>obtain⟨σ7,H7,I7,q7⟩:=q7;exact⟨σ7,H7,I7.fz,q7⟩
  |ret v=>obtain⟨x7,σ7,H7,I7,r7,q7⟩:=q7;exact⟨x7,σ7,H7,I7.fz,r7,q7⟩
end L2
namespace L2
open PySem PySem.Spec PyProof.Rows PySem.W
structure Bk (K:Frag) (C:Addr):Prop where
 ga:findIn K (.ref C) "__getattribute__"=some (some (.builtin "BaseException.__getattribute__"))
 gr:findIn K (.ref C) "__getattr__"=some none
 fo:findObj K C none "__class__"=some (.bind (.builtin "getset_descriptor.__get__") (.builtin "object.__class__"))
 mo:mroIn K C (.type "object")=some true
 ba:subIn K (.ref C) (.type "BaseException")=some true
theorem DK{prog:ab0}{w:ab1}{A:ab4}{E:dw}{s:aa1}{K:Frag}{a C:Addr}{ox:Obj}{Q:Option Value->aa1->Prop}(X:K.In s.heap)(I:InstAt s.heap a ox C none)(F:Bk K C)
  (h:Q (some (.ref C)) {s with toks:=s.toks+1}):aa0 (aa5 prog w) A (getAttr? (.ref a) "__class__") Q E s:=by
 obtain⟨hh,g,d,t,os⟩:=s
 have L0:=I.type (M:=aa5 prog w)
 have L1:=looks_findIn (M:=aa5 prog w) X F.ga
 have L2:=looks_findIn (M:=aa5 prog w) X F.gr
 have L3:=looks_find (M:=aa5 prog w) X I F.fo
 unfold getAttr? getAttrBy? getAttrBy
 refine aa (wpAny_mkText (aa (iF (cD (aa (L0.at (aa (L1.at ?_))))))))
 show aa0 _ _ (getAttrByItsOwn _ _ _ _ _ _) _ _ _
 unfold getAttrByItsOwn hookBefore
 refine aa ?_
 show aa0 _ _ (typeLookup (.ref C) "__getattr__") _ _ _
 refine L2.at ?_
 refine aa (iF (cD ?_))
 show aa0 _ _ (boundAndCalled (.builtin "BaseException.__getattribute__") (.ref a) _) _ _ _
 unfold boundAndCalled
 rw[UN.ga.bind (.ref a)]
 refine aa (ak ?_)
 show aa0 _ _ (call (.builtin "BaseException.__getattribute__") [.ref a,.str "__class__" t]) _ _ _
 refine qM (k_ UN.ga.plain PySem.F.entry_bexc_ga ?_)
 have hk:builtinKind "BaseException.__getattribute__"=some .slot:=by decide +kernel
 have Rw:splitId "BaseException.__getattribute__"=some ("BaseException","__getattribute__"):=by decide +kernel
 have Ww:=PySem.F.args_bexc_ga (.ref a) (.str "__class__" t)
 have LI:Looks (aa5 prog w) hh (isInstance (.ref a) (.type "BaseException")) true:=L0.andThen (looks_subIn X F.ba)
 simp only[checkBuiltinCall,hk,Rw]
 refine aa (LI.at ?_)
 rw[bJ (by decide)]
 refine EW (a:=()) Ww ?_
 unfold Builtin.«object.__getattribute__»
 refine aa (ak ?_)
 dsimp only
 refine aa (ak ?_)
 refine aa (L0.at (aa (L3.at ?_)))
 dsimp only
 show aa0 _ _ ((do let v <-holding [Value.builtin "object.__class__"] (call (.builtin "getset_descriptor.__get__") [.builtin "object.__class__",.ref a,.ref C]);ret v):Sem Fin) _ _ _
 refine aa (cD (qM (class_get (ox:=ox) (od:=none) X I F.mo (ak ?_))))
 show aa0 _ _ (handedOut (.ref C)) _ _ _
 exact ak (ak h)
end L2
namespace L2
open PySem PySem.Spec PyProof.Rows PySem.SeqAt
variable{a C:Addr}{X:Cx}{A:ab4}{s:aa1}
theorem G1{K:Frag}{ox:Obj}(F:Bk K C)(hc:(clsIn K C).isSome=true):KitX K (.ref a) (.ref C) (λh=>PySem.W.InstAt h a ox C none) where
 ty:=λ_ _ _ I=>I.type
 it:=λ_ _ X _=>ve X hc
 ne:=λh tp dd its n sl X htp=>by
  refine bG.mpr λq=>?_
  have e:C=tp:=Value.ref.inj (mV.mp q)
  subst e
  unfold clsIn at hc
  split at hc
  ·rename_i c' d' cd' Yn ho
   have z:=(X _ _ ho).symm.trans htp
   cases z
  ·cases hc
 ca:=λX I k=>DK X I F k
theorem eO(hh:Hd X a C)(F:Bk X.K C)(hc:(clsIn X.K C).isSome=true) :
  dQ X (.builtin "isinstance") (λxs H Q=>∃(c:V) (cv:Value) (b:Bool),xs = [.ref a,c]/\((∃D,c=.ref D/\cv=.ref D)\/∃n,c=.ty n/\cv=.type n)/\kitOne X.K (.ref C) cv=some b/\Q (.bl b) H):=by
 intro pins s σ H xs us Q I r h
 obtain⟨c,cv,b,rfl,hcv,hk,q⟩:=h
 obtain⟨u,v,rfl,ru,rv⟩:=r.two
 cases ru
 have ev:v=cv:=by
  rcases hcv with ⟨D,rfl,rfl⟩|⟨n,rfl,rfl⟩
  ·exact rv
  ·exact rv
 subst ev
 obtain⟨t0,tb,WS⟩:=hh.pn
 obtain⟨z1,_⟩:=I.pin (a,pJ C t0 tb) (dO _ WS)
 have J:PySem.W.InstAt s.heap a (pJ C t0 tb) C none:=⟨z1,rfl,rfl,trivial⟩
 exact cB (G1 F hc) I.nO J hk (λz=>nomatch z) λtk=>⟨.bl b,H,I.tok tk,rfl,q⟩
theorem xO{bs:List Bool}{us:List Value}(r:Vals (bs.map V.bl) us):us=bs.map Value.bool:=by
 induction bs generalizing us with
 |nil=>cases r;rfl
 |cons b t ih=>
  cases r with
  |cons r1 r2=>rw[ih r2,(show _=Value.bool b from r1)];rfl
def W9:Value->Bool
 |.bool b=>b
 |_=>false
theorem F4(b:Bool):EqAt A s (.bool b) (.bool true) b:=by
 have r1:RelV (.bl b) (.bool b):=rfl
 have r2:RelV (.bl true) (.bool true):=rfl
 have q:=zU (A:=A) (s:=s) r1 r2 rfl rfl
 have e:F2 (.bl b) (.bl true)=b:=by cases b<;>rfl
 rw[e] at q
 exact q
theorem sQ:∀(bs:List Bool),(bs.map Value.bool).countP W9=bs.count true
 | []=>rfl
 |b::t=>by
  rw[aP,List.countP_cons,sQ t,List.count_cons]
  cases b<;>rfl
theorem Eb:Qk X "list.count" (λx xs H Q=>∃(l:Addr) (bs:List Bool),x=.ref l/\xs = [.bl true]/\H l=some (.lst (bs.map V.bl))/\Q (.int (bs.count true:Nat)) H):=by
 intro pins s σ H x xs v us Q I rx r h
 obtain⟨l,bs,rfl,rfl,hl,q⟩:=h
 cases rx
 obtain⟨u,rfl,ru⟩:=r.one
 obtain rfl:u=Value.bool true:=ru
 obtain⟨_,its,n,rv,ho⟩:=I.cN l _ hl
 obtain rfl:=xO rv
 refine mW iV ⟨_,ho,rfl⟩ P0 (Ov _ _) (list_countAt l (bs.map Value.bool).toArray n none #[] (.bool true) W9) ⟨ho,λy hy=>?_,⟨.int _,H,I.tok _,⟨_,rfl⟩,?_⟩⟩
 ·have hy':y∈bs.map Value.bool:=by simpa using hy
  obtain⟨b,_,rfl⟩:=eh.mp hy'
  exact F4 b
 ·rw[show(bs.map Value.bool).toArray.toList=bs.map Value.bool from rfl,sQ]
  exact q
theorem Ed:Qk X "list.index" (λx xs H Q=>∃(l:Addr) (bs:List Bool) (j:Nat),x=.ref l/\xs = [.bl true]/\H l=some (.lst (bs.map V.bl))/\j<1000/\bs[j]?=some true/\(∀m,m<j->bs[m]?=some false)/\Q (.int (j:Nat)) H):=by
 intro pins s σ H x xs v us Q I rx r h
 obtain⟨l,bs,j,rfl,rfl,hl,acn,hj,hno,q⟩:=h
 cases rx
 obtain⟨u,rfl,ru⟩:=r.one
 obtain rfl:u=Value.bool true:=ru
 obtain⟨_,its,n,rv,ho⟩:=I.cN l _ hl
 obtain rfl:=xO rv
 obtain⟨hjl,hjt⟩:=aw.mp hj
 refine mW UP ⟨_,ho,rfl⟩ PySem.F.entry_list_index (PySem.F.args_list_index_2 _ _) (PySem.MeetsSeq.list_index l (bs.map Value.bool).toArray n (.bool true) W9 (λy hy=>?_) j (by simpa using hjl) (by lia) ?_ (λm hm hmj=>?_)) ⟨ho,⟨.int _,H,I.tok _,⟨_,rfl⟩,q⟩⟩
 ·have hy':y∈bs.map Value.bool:=by simpa using hy
  obtain⟨b,_,rfl⟩:=eh.mp hy'
  intro prog w A E s' Q' hq
  exact F4 (A:=A) (s:=s') b prog w E Q' hq
 ·simp[hjt,W9]
 ·have Zz:m<bs.length:=by simpa using hm
  have z:=hno m hmj
  rw[aK Zz] at z
  simp[cL z,W9]
def isZ(z:Str):Value->Bool
 |.str w _=>w == z
 |_=>false
theorem QW(w z:Str)(t u:Tok):EqAt A s (.str w t) (.str z u) (w == z):=by
 have r1:RelV (.str w) (.str w t):=⟨t,rfl⟩
 have r2:RelV (.str z) (.str z u):=⟨u,rfl⟩
 exact zU (A:=A) (s:=s) r1 r2 rfl rfl
theorem sR{z:Str}:∀{ws:lS7}{us:List Value},Vals (ws.map V.str) us->us.countP (isZ z)=ws.count z
 | [],_,r=>by rw[eR] at r;cases r;rfl
 |w::t,_,r=>by
  rw[aP] at r
  cases r with
  |cons r1 r2=>
   obtain⟨tk,rfl⟩:=r1
   rw[List.countP_cons,sR r2,List.count_cons]
   rfl
theorem vk:∀{ws:lS7}{us:List Value},Vals (ws.map V.str) us->∀y∈us,∃(w:Str) (t:Tok),y=Value.str w t
 | [],_,r,y,hy=>by rw[eR] at r;cases r;simp at hy
 |w::t,_,r,y,hy=>by
  rw[aP] at r
  cases r with
  |cons r1 r2=>
   obtain⟨tk,rfl⟩:=r1
   rcases aN.mp hy with rfl|hy
   ·exact⟨w,tk,rfl⟩
   ·exact vk r2 y hy
def CB:V->List V->Hp->VK->Prop:=λx xs H Q=>∃(l:Addr) (ws:lS7) (z:Str),x=.ref l/\xs = [.str z]/\H l=some (.lst (ws.map V.str))/\Q (.int (ws.count z:Nat)) H
theorem Ec:Qk X "list.count" CB:=by
 intro pins s σ H x xs v us Q I rx r h
 obtain⟨l,ws,z,rfl,rfl,hl,q⟩:=h
 cases rx
 obtain⟨u,rfl,tz,rfl⟩:=r.one
 obtain⟨_,its,n,rv,ho⟩:=I.cN l _ hl
 refine mW iV ⟨_,ho,rfl⟩ P0 (Ov _ _) (list_countAt l its.toArray n none #[] (.str z tz) (isZ z)) ⟨ho,λy hy=>?_,⟨.int _,H,I.tok _,⟨_,rfl⟩,?_⟩⟩
 ·obtain⟨w,t,rfl⟩:=vk rv y (by simpa using hy)
  exact QW w z t tz
 ·rw[show its.toArray.toList=its from rfl,sR rv]
  exact q
theorem Qy:aa6 "set"=some (.type "set"):=by decide +kernel
end L2
namespace L2
open PySem PySem.Spec PyProof.Rows
theorem Nq{X:Cx}{tg iter elt:Expr}{ifs:List Expr}{scope:Scope}{pos Yo py:Pos}{N':lS7}{wi:TI}{g:TG}{tc:TT}{te:TE}{σc:St->St}{i0:Nat}{y0:Str}
  (hN0:X.N.Nodup) (hi0:X.N[i0]?=some y0) (hx0:Loc X.env.scope y0)
  (S:g7 X N' scope) (Gj:X.calm=true) (hσ:∀σ:St,σ.length=X.N.length->rZ X N' scope σ (σc σ)) (hi:PI X tg iter wi)
  (hg:∀fp s₀ H₀,PG (hJ X N' scope fp s₀ H₀) tg g) (hc:∀fp s₀ H₀,qO (hJ X N' scope fp s₀ H₀) ifs tc) (he:∀fp s₀ H₀,PE (hJ X N' scope fp s₀ H₀) elt te)
  (hs:autoParam (∀x,ab8 iter X.env x=pure x) ad1) (hsw:autoParam (ac2 (.ListComp elt [⟨tg,iter,ifs,0⟩] scope pos) (some (.Name y0 py)) Yo.line X.env=pure true) o0)
  (hf0:autoParam (X.fn y0=true\/X.env.scope.names.lookup y0=some .local) ac7) :
  PS X (.Assign [.Name y0 py] (.ListComp elt [⟨tg,iter,ifs,0⟩] scope pos) Yo) (yN (Jl wi g tc te σc) (lW i0)):=by
 intro pins s σ H D I h
 have jL:∀y∈scope.names,y.2=.free->∃c,X.env.cells.lookup y.1=some c:=λy hy hk=>I.ok.has y.1 (.inl (S.Wf y hy hk))
 have sub:=lT (cells:=X.env.cells) (names:=scope.names) (acc:= []) jL (λx c e=>by cases e)
 rw[exec_Assign_Name_used _ _ _ _ hsw]
 refine aa (Qa (aa ?_))
 show aa0 _ X.A (do let _ <-comprehension (.ListComp elt [⟨tg,iter,ifs,0⟩] scope pos) scope X.env _ (newList []) false (eval iter X.env) (some (assign (.Name y0 py) X.env))) _ _ s
 refine aa (eD (P9 (use:=some (assign (.Name y0 py) X.env)) (Q:=λ_ s'=>∃σ' H',Inv X pins σ' H' s'/\D.nx σ' H') rfl hs (sO jL) S.kind S.loc (?_)) (λ_ s' hq=>ak (ak hq)) λ_ _ e=>e)
 refine(cM (hi pins s σ H _ I h) λv s1 h1=>cM h1 λXb s2 h2=>?_)
 obtain⟨it,fp,tn,J,H2,rfl,I2,T,T8,f2,h2⟩:=h2
 obtain⟨W,⟨m0,w0⟩,turn⟩:=h2 s2.heap.objs.size I2.fresh
 have wO:∀b∈fp,b<s2.heap.objs.size:=λb hb=>by
  obtain⟨o,ho,_⟩:=T.obj _ _ T8 b hb
  exact aI ho
 refine bT (m_ S.AL (by intro y hy;simp at hy) (λh₁ nJ nK=>?_) S.kind)
 dsimp only at nJ nK⊢
 have I3:Inv X pins σ (upd H2 s2.heap.objs.size (.lst [])) {s2 with heap:=s2.heap.push {cls:=.type "list",data:=.seq ([]:List Value).toArray}}:=I2.Mf (t':=s2.toks) (ys:= []) .nil (cI _)
 generalize WX:({s2 with heap:=s2.heap.push {cls:=.type "list",data:=.seq ([]:List Value).toArray}}:aa1)=s3 at I3
 have e3:s2.heap.push {cls:=.type "list",data:=.seq ([]:List Value).toArray}=s3.heap:=by rw[<-WX]
 have sz3:s3.heap.objs.size=s2.heap.objs.size+1:=by rw[<-e3,c7]
 have Up:∀b o,s2.heap.get? b=some o->s3.heap.get? b=some o:=λb o e=>by rw[<-e3];exact ae _ e
 have f3:∀b∈fp,lG X pins (upd H2 s2.heap.objs.size (.lst [])) b:=λb hb=>by
  obtain⟨q1,q2⟩:=f2 b hb
  exact⟨by rw[bf (aW (wO b hb))];exact q1,q2⟩
 have lt3:∀b∈fp,b<s3.heap.objs.size:=λb hb=>by rw[sz3];exact og (wO b hb)
 rw[e3] at nJ nK⊢
 have up1:∀b o,s3.heap.get? b=some o->h₁.get? b=some o:=λb o e=>nK.extBut b o (aW (aI e)) (ae _ e)
 have Rn:h₁.Ns s3.heap.objs.size (λ_=>none):=by
  have q:=nJ
  simpa using q
 have I4:Inv (hJ X N' scope fp s3 (upd H2 s2.heap.objs.size (.lst []))) [] (σc σ) (upd H2 s2.heap.objs.size (.lst [])) {s3 with heap:=h₁,toks:=s2.toks}:=xV S I3 f3 lt3 (hσ σ I.len) Rn up1
 have Yr:tn 0 h₁:=T.keep _ _ _ T8 λb hb o e=>up1 b o (Up b o e)
 generalize hX:hJ X N' scope fp s3 (upd H2 s2.heap.objs.size (.lst []))=X' at I4
 have xP:X'.prog=X.prog:=by rw[<-hX];rfl
 have xw:X'.w=X.w:=by rw[<-hX];rfl
 have xK:X'.K=X.K:=by rw[<-hX];rfl
 have xA:X'.A=X.A:=by rw[<-hX];rfl
 have xc:X'.calm=true:=by rw[<-hX];exact Gj
 have xx:X'.xe=λ_ _=>False:=by rw[<-hX];rfl
 have xe:X'.env=compEnvC scope (oM X.env.cells scope.names []) s3.heap.objs.size X.env:=by rw[<-hX];rfl
 have Ψ:PG X' tg g:=by rw[<-hX];exact hg _ _ _
 have wF:qO X' ifs tc:=by rw[<-hX];exact hc _ _ _
 have Λ:PE X' elt te:=by rw[<-hX];exact he _ _ _
 have F5:X'.ex=fp:=by rw[<-hX];rfl
 have Y':X'.fs=rJ X.stack:=by rw[<-hX];rfl
 have pn0:X'.pn = []:=by rw[<-hX];rfl
 have Yc:X'.s₀=s3:=by rw[<-hX];rfl
 have v_:X'.H₀=upd H2 s2.heap.objs.size (.lst []):=by rw[<-hX];rfl
 have Su:=I4.ok
 have ue:∀{H':Hp},(∀b∈fp,H' b=none)->∀b∈fp,lG X' [] H' b:=λ{H'} hn b hb=>by
  obtain⟨_,q1,q2,q3,q4,q5⟩:=f3 b hb
  refine⟨hn b hb,(Su.Lb b (by rw[F5];exact hb)).1,Su.wz b (by rw[F5];exact hb),.inl (by rw[F5];exact hb),(Su.Lb b (by rw[F5];exact hb)).2,λp hp=>?_⟩
  rw[pn0] at hp
  exact absurd (show p∈([]:aP7) from hp) (by simp)
 have fin:∀(s':aa1) (σ':St) (H':Hp),Inv X' [] σ' H' s'->lW i0 (.ref s2.heap.objs.size) σ H' D.nx->compPost (aa5 X.prog X.w) X.A X.xe (some (assign (.Name y0 py) X.env)) (λ_ s'=>∃σ' H',Inv X pins σ' H' s'/\D.nx σ' H') (.ref s2.heap.objs.size) s3.heap.objs.size (.ok .next) s':=λs' σ' H' I' q=>by
  have hC:X'.env.locals=s3.heap.objs.size:=by rw[xe];rfl
  obtain⟨m,hm,_⟩:=id I'.loc
  rw[hC] at hm
  have un:=I'.base
  rw[Y',F5,Yc,v_] at un
  have tH:H' s3.heap.objs.size=none:=by rw[<-hC];exact I'.free
  have wH:j4 X.prog X.w H' s'.heap:=by rw[<-xP,<-xw];exact I'.cN
  have IX:Inv X pins σ H' s':=by
   refine I3.FE (s':=s') (ch:=fp) ?_ un wH I'.bare λb hb=>?_
   ·have z:=I'.os
    rw[Yc] at z
    exact z
   ·obtain⟨_,q1,q2,q3,q4,q5⟩:=f3 b hb
    exact⟨q3,q1,q4,q5⟩
  have lt:∀b o,s3.heap.get? b=some o->b≠s3.heap.objs.size:=λb o e=>aW (aI e)
  have OJ:lG X pins H' s3.heap.objs.size:=I3.Ab (au _) tH
  obtain⟨oC,esC,epC,hoC,hrC⟩:=id hm
  have IP:=IX.pinned (fp:= [s3.heap.objs.size]) (λb hb=>by rw[aO.mp hb];exact OJ) (λb hb=>by
   rw[aO.mp hb]
   exact⟨oC,hoC,λv g=>by simp_all⟩)
  refine wpAny_assign_Name (pA IP hN0 hi0 hx0 (v:=.ref s2.heap.objs.size) rfl (λsa Ia=>?_) hf0)
  have hoA:sa.heap.get? s3.heap.objs.size=some oC:=(Ia.pin (s3.heap.objs.size,oC) (aM _ (aM _ (fq (by simp) hoC)))).1
  refine⟨m,hm.at' λo e=>?_,λh' LA=>⟨_,H',?_,q⟩⟩
  ·rw[hoC] at e
   injection e with e
   exact e▸hoA
  ·obtain⟨q0,q1,q2,q3,q4,q5⟩:=OJ
   have Iu:=Ia.fz
   have J1:∀b o,b ∉ [s3.heap.objs.size]->sa.heap.get? b=some o->h'.get? b=some o:=λb o hb e=>(LA.2 b (by simpa using hb)).trans e
   refine Iu.step (g':=sa.gens) (t':=sa.toks) (d':=sa.drawn) (ch:= [s3.heap.objs.size]) (λb hb=>?_) (λb o _ _ hb e _=>J1 b o hb e) (λb o _ _ hb e _=>⟨o.slots,J1 b o hb e⟩) (λb o _ _ n=>n) (λb o hb e=>⟨o,J1 b o hb e⟩) (λ_ _ e=>e) (λ_ _ _ e=>e) (λb ps e=>⟨#[],by rw[e];simp⟩) (λm' OS=>OS.at' λo e=>J1 _ o (by simpa using cR q1) e) (BY Iu.cN q0 LA) Iu.bare
   rw[aO.mp hb]
   exact⟨q3,q1,q4,q5⟩
 have loop:ac3 (aa5 X.prog X.w) X.A (.compLoop (.ListComp elt [⟨tg,iter,ifs,0⟩] scope pos) 0 (.ref it) (.ref s2.heap.objs.size) (compEnvC scope (oM X.env.cells scope.names []) s3.heap.objs.size X.env))
   (compPost (aa5 X.prog X.w) X.A X.xe (some (assign (.Name y0 py) X.env)) (λ_ s'=>∃σ' H',Inv X pins σ' H' s'/\D.nx σ' H') (.ref s2.heap.objs.size) s3.heap.objs.size) {s3 with heap:=h₁,toks:=s2.toks}:=by
  refine pE (λn s'=>∃i σ' ys H',Inv X' [] σ' H' s'/\tn i s'.heap/\(∀b∈fp,H' b=none)/\W i n σ' ys H') ?_ m0 ⟨0,_,[],_,I4,Yr,λb hb=>(f3 b hb).1,w0⟩
  rintro n s5 ⟨i,σ5,ys,H5,I5,NP,Q1,w5⟩
  obtain⟨yi,hh⟩:=turn i n σ5 ys H5 w5
  rcases hh with ⟨stop,q⟩|⟨go,hsz,step⟩
  ·have d:=T.done X' xP xw xK xc i [] s5 σ5 H5 (λ_ _=>False) I5 (ue Q1) NP stop
   rw[xA] at d
   exact cM d λr s6 ⟨hr,I6⟩=>.inl ⟨hr,fin s6 σ5 H5 I6 q⟩
  ·have d:=T.item X' xP xw xK xc i [] s5 σ5 H5 (λ_ _=>False) I5 (ue Q1) NP go
   rw[xA] at d
   refine cM d λr s6 ⟨u,hr,h6⟩=>.inr ⟨u,hr,cM h6 λ_ s7 ⟨x,H7,I7,r7,y7,T9,W'⟩=>?_⟩
   have w_:=I7.pinned (ue W') (T.obj _ _ T9)
   have a1:=Ψ _ s7 σ5 H7 x u _ w_ r7 (step x H7 y7)
   rw[xP,xw,xA,xe,xx] at a1
   refine cM a1 λ_ s8 ⟨σ8,H8,I8,q8⟩=>?_
   have a2:=wF _ s8 σ8 H8 _ I8 q8
   rw[xP,xw,xA,xe,xx] at a2
   refine cM a2 λok s9 ⟨H9,I9,q9⟩=>?_
   have back:∀{σz:St}{Hz:Hp}{sz:aa1},Inv X' ([]++md fp s7.heap) σz Hz sz->tn (i+1) sz.heap/\∀b∈fp,Hz b=none:=λ{σz Hz sz} Iz=>by
    refine⟨T.keep _ _ _ T9 λb hb o e=>(Iz.pin (b,o) (aM _ (aM _ (fq hb e)))).1,λb hb=>?_⟩
    obtain⟨o,e,_⟩:=T.obj _ _ T9 b hb
    exact(Iz.pin (b,o) (aM _ (aM _ (fq hb e)))).2.1
   cases ok with
   |false=>
    obtain⟨m',hm,w'⟩:=q9
    rw[bJ aH]
    exact⟨m',hm,i+1,σ8,ys,H9,I9.fz,(back I9).1,(back I9).2,w'⟩
   |true=>
    rw[bF rfl] at q9⊢
    have a3:=Λ _ s9 σ8 H9 _ I9 q9
    rw[xP,xw,xA,xe,xx] at a3
    refine cM a3 λy sa ⟨yv,Ha,Ia,ra,Gi,m',hm,w'⟩=>?_
    have a4:=i8 (X:=X') _ sa σ8 Ha (.ref s2.heap.objs.size) [yv] (.ref s2.heap.objs.size) [y] (λv H'=>H'=upd Ha s2.heap.objs.size (.lst (ys ++ [yv]))) Ia rfl (.cons ra .nil) ⟨_,ys,yv,rfl,rfl,Gi,hsz,rfl⟩
    rw[xP,xw,xA,xx] at a4
    refine cM a4 λ_ sb ⟨_,Hb,Ib,_,eb⟩=>?_
    subst eb
    exact⟨m',hm,i+1,σ8,ys ++ [yv],_,Ib.fz,(back Ib).1,(back Ib).2,w'⟩
 have es:({s2 with heap:=h₁,toks:=s2.toks+([]:List (Str×Value)).length}:aa1)={s3 with heap:=h₁,toks:=s2.toks}:=by rw[<-WX];rfl
 refine Vp ?_ ?_
 ·exact es▸loop
 ·exact T.self _ 0 _ _ _ Yr (es▸loop)
def yM(c:Nat):Bool:=decide (97<=c)&&decide (c<=122)
theorem zK(x y:Str):(x++y).cps=x.cps++y.cps:=rfl
theorem jm(x y:Str):(x++y).length=x.length+y.length:=by
 show(x.cps++y.cps).size=x.cps.size+y.cps.size
 simp
abbrev EZ:Str:="abcdefghijklmnopqrstuvwxyz"
theorem xM:EZ.cps.toList = [97,98,99,100,101,102,103,104,105,106,107,108,109,110,111,112,113,114,115,116,117,118,119,120,121,122]:=by decide +kernel
theorem aaF(c:Nat):(!decide ((⟨#[c]⟩:Str).cps.toList<("a":Str).cps.toList))=decide (97<=c):=by
 have e:("a":Str).cps.toList = [97]:=by decide +kernel
 rw[e]
 by_cases h:97<=c
 ·rw[aT h,aY]
  ·rfl
  ·intro z
   have z' : [c] < [97]:=z
   simp[jX] at z'
   lia
 ·rw[aY h,aT]
  ·rfl
  ·show [c] < [97]
   simp[jX]
   lia
theorem aaG(c:Nat):(!decide (("z":Str).cps.toList<(⟨#[c]⟩:Str).cps.toList))=decide (c<=122):=by
 have e:("z":Str).cps.toList = [122]:=by decide +kernel
 rw[e]
 by_cases h:c<=122
 ·rw[aT h,aY]
  ·rfl
  ·intro z
   have z' : [122] < [c]:=z
   simp[jX] at z'
   lia
 ·rw[aY h,aT]
  ·rfl
  ·show [122] < [c]
   simp[jX]
   lia
theorem MB(c:Nat):(!(Builtin.Str.occurrences EZ ⟨#[c]⟩ 0 EZ.length 1).isEmpty)=yM c:=by
 rw[PySem.StrLaws.found_one,xM]
 unfold yM
 by_cases h:97<=c/\c<=122
 ·rw[aT h.1,aT h.2,aT]
  ·rfl
  ·have:∀d,d<26->(97+d) ∈ [97,98,99,100,101,102,103,104,105,106,107,108,109,110,111,112,113,114,115,116,117,118,119,120,121,122]:=by decide
   have:=this (c-97) (by lia)
   rw[show 97+(c-97)=c by lia] at this
   exact this
 ·rw[aY]
  ·by_cases h1:97<=c
   ·rw[aT h1,aY (by lia)];rfl
   ·rw[aY h1];rfl
  ·intro z
   have:∀d ∈ [97,98,99,100,101,102,103,104,105,106,107,108,109,110,111,112,113,114,115,116,117,118,119,120,121,122],97<=d/\d<=122:=by decide
   exact h (this c z)
end L2
namespace F
open PySem PySem.Spec PyProof.Rows L2
variable{K:Frag}{a p:Addr}{vs:List V}{o u:HO}{i k:Nat}{d:Dv}{v:V}{σ:Es}{τ:L2.St}
inductive Pv where
 |non|bl (b:Bool)|int (i:Int)|str (x:Str)
 |tup (xs:List Pv)|lst (xs:List Pv)|scr (xs:List Pv)|dct (ks vs:List Pv)
 |obj (C:Nat) (fs:List Pv)
 |fn (i:Nat)|ty (c:Nat)
inductive Dv where
 |p (x:Pv)|r (i:Nat)
inductive Ob where
 |lst (xs:List Pv)
 |vj (xs:List Dv)
 |dct (ks vs:List Pv)
 |ins (C:Nat) (fs:List Dv)
noncomputable def kq:Nat->String
 |0=>"str"
 |1=>"int"
 |2=>"bool"
 |3=>"tuple"
 |_=>"list"
abbrev Hs:=List Ob
abbrev Es:=List (Option Dv)
structure Tx where
 K:Frag
 mg:mG7
 oW:Nat->Str
 ca:Nat->Addr
 fl:Nat->lS7
 G:List Addr
theorem Jb{H:Hp}{P:Prop}(s:(P/\Rd H a (.lst vs))\/gq K (λ_=>none) a vs):gq K H a vs:=s.elim (λh=>.inl h.2) λh=>h.elim (λz=>by rcases z with z|⟨_,z⟩<;>cases z) .inr
variable (Z:Tx) (M:List Addr) (H:Hp)
mutual
def bL:Pv->V->Prop
 |.non,v=>v=.non
 |.bl b,v=>v=.bl b
 |.int i,v=>v=.int i
 |.str x,v=>v=.str x
 |.tup xs,v=>∃a vs,v=.ref a/\el Z.K H a vs/\aJ xs vs
 |.lst xs,v=>∃a vs,v=.ref a/\(a∉M/\a∉Z.G)/\H a=some (.lst vs)/\aJ xs vs
 |.scr xs,v=>∃a vs,v=.ref a/\(((a∉M/\a∉Z.G)/\Rd H a (.lst vs))\/gq Z.K (λ_=>none) a vs)/\aJ xs vs
 |.dct ks us,v=>∃a kvs,v=.ref a/\(a∉M/\a∉Z.G)/\H a=some (.dK kvs)/\aJ ks (kvs.map λp=>kV p.1)/\aJ us (kvs.map (·.2))
 |.obj C fs,v=>∃a dx fv,v=.ref a/\(a∉M/\a∉Z.G)/\H a=some (.ins (Z.ca C) dx fv)/\fv.map (·.1)=(Z.fl C).take fs.length/\aJ fs (fv.map (·.2))
 |.fn i,v=>∃a,Z.mg (Z.oW i)=some (.ref a)/\v=.ref a
 |.ty c,v=>v=.ty (kq c)
def aJ:List Pv->List V->Prop
 | [],[]=>True
 |x::xs,v::vs=>bL x v/\aJ xs vs
 |_,_=>False
end
def cQ:Dv->V->Prop
 |.p x,v=>bL Z M H x v
 |.r i,v=>∃a,M[i]?=some a/\v=.ref a
def cC:List Dv->List V->Prop
 | [],[]=>True
 |x::xs,v::vs=>cQ Z M H x v/\cC xs vs
 |_,_=>False
def vL(a:Addr):Ob->Prop
 |.lst xs=>∃vs,H a=some (.lst vs)/\aJ Z M H xs vs
 |.vj ds=>∃vs,H a=some (.lst vs)/\cC Z M H ds vs
 |.dct ks us=>∃kvs,H a=some (.dK kvs)/\aJ Z M H ks (kvs.map λp=>kV p.1)/\aJ Z M H us (kvs.map (·.2))
 |.ins C fs=>∃dx fv,H a=some (.ins (Z.ca C) dx fv)/\H dx=some (.own a)/\fv.map (·.1)=(Z.fl C).take fs.length/\cC Z M H fs (fv.map (·.2))
structure bj (h:Hs):Prop where
 nd:M.Nodup
 dj:∀a∈M,a∉Z.G
 ln:M.length=h.length
 gs:∀b∈Z.G,∃o,H b=some o
 ob:∀(i:Nat) a o,M[i]?=some a->h[i]?=some o->vL Z M H a o
structure d8 (σ:Es) (τ:L2.St):Prop where
 ln:σ.length=τ.length
 at':∀(i:Nat) d,σ[i]?=some (some d)->∃v,τ[i]?=some (some v)/\cQ Z M H d v
structure Ext (M:List Addr) (H:Hp) (M':List Addr) (H':Hp):Prop where
 pre:∃l,M'=M++l
 keep:∀b o,b∉M->H b=some o->H' b=some o
 new:∀b∈M',b∉M->H b=none
section
variable {Z:Tx}{M M' M₂:List Addr}{H H' H₂:Hp}{h h':Hs}
theorem Ext.refl:Ext M H M H:=⟨⟨[],(bS M).symm⟩,λ_ _ _ h=>h,λ_ h n=>absurd h n⟩
theorem Ext.trans(a:Ext M H M' H')(b:Ext M' H' M₂ H₂):Ext M H M₂ H₂:=by
 obtain⟨l,rfl⟩:=a.pre
 obtain⟨l',rfl⟩:=b.pre
 have k:∀c o,c∉M->H c=some o->c∉M++l:=λc o hc h z=>by
  rw[a.new c z hc] at h;cases h
 refine⟨⟨l++l',by rw[dq]⟩,λc o hc h=>b.keep c o (k c o hc h) (a.keep c o hc h),λc hc hn=>?_⟩
 by_cases z:c∈M++l
 ·exact a.new c z hn
 ·cases hh:H c with
  |none=>rfl
  |some o=>have:=b.new c hc z;rw[a.keep c o hn hh] at this;cases this
def wU:HO->Bool
 |.lst _=>true
 |.dK _=>true
 |.ins _ _ _=>true
 |_=>false
theorem bj.there(r:bj Z M H h)(ha:a∈M):∃o,H a=some o/\wU o=true:=by
 obtain⟨i,hi⟩:=uw ha
 have hl:i<h.length:=by rw[<-r.ln];exact(aw.mp hi).1
 have ho:=r.ob i a h[i] hi (aK hl)
 cases hh:h[i] with
 |lst xs=>rw[hh] at ho;obtain⟨_,e,_⟩:=ho;exact⟨_,e,rfl⟩
 |vj xs=>rw[hh] at ho;obtain⟨_,e,_⟩:=ho;exact⟨_,e,rfl⟩
 |dct ks vs=>rw[hh] at ho;obtain⟨_,e,_⟩:=ho;exact⟨_,e,rfl⟩
 |ins C fs=>rw[hh] at ho;obtain⟨_,_,e,_⟩:=ho;exact⟨_,e,rfl⟩
theorem bj.no(r:bj Z M H h)(e:H a=some o)(n:wU o=false):a∉M:=λz=>by
 obtain⟨u,h1,h2⟩:=r.there z
 rw[e] at h1;cases h1
 rw[n] at h2;cases h2
theorem bj.fresh(r:bj Z M H h)(hp:H p=none):p∉M:=λz=>by
 obtain⟨o,e,_⟩:=r.there z
 rw[hp] at e;cases e
theorem bj.nG(r:bj Z M H h)(hp:H p=none):p∉M/\p∉Z.G:=⟨r.fresh hp,λz=>by
 obtain⟨o,e⟩:=r.gs p z
 rw[hp] at e;cases e⟩
theorem bj.Hj(r:bj Z M H h)(ha:a∈M) : ¬Rd H a (.tup vs):=λz=>by
 rcases z with z|⟨q,z⟩
 ·exact r.no z rfl ha
 ·exact r.no z rfl ha
structure Mv (M:List Addr) (H:Hp) (M':List Addr) (H':Hp):Prop where
 nt:∀a∈M,∀vs,¬Rd H a (.tup vs)
 keep:∀b o,b∉M->H b=some o->H' b=some o
 new:∀b∈M',b∉M->H b=none
theorem Mv.rd(m:Mv M H M' H')(ha:a∉M)(r:Rd H a u):Rd H' a u:=by
 rcases r with r|⟨q,r⟩
 ·exact .inl (m.keep _ _ ha r)
 ·exact .inr ⟨q,m.keep _ _ ha r⟩
theorem Mv.Yp(m:Mv M H M' H')(s:el K H a vs):el K H' a vs:=by
 rcases s with r|r
 ·exact .inl (m.rd (λz=>m.nt a z vs r) r)
 ·exact .inr r
theorem Mv.ni(m:Mv M H M' H')(ha:a∉M)(r:H a=some o):a∉M':=λz=>by
 rw[m.new a z ha] at r;cases r
mutual
theorem bL.mv(m:Mv M H M' H'):∀{x:Pv}{v:V},bL Z M H x v->bL Z M' H' x v
 |.non,_,h=>by unfold bL at *;exact h
 |.bl _,_,h=>by unfold bL at *;exact h
 |.int _,_,h=>by unfold bL at *;exact h
 |.str _,_,h=>by unfold bL at *;exact h
 |.fn _,_,h=>by unfold bL at *;exact h
 |.ty _,_,h=>by unfold bL at *;exact h
 |.tup xs,_,h=>by
  unfold bL at *
  obtain⟨a,vs,e,s,q⟩:=h
  exact⟨a,vs,e,m.Yp s,aJ.mv m q⟩
 |.lst xs,_,h=>by
  unfold bL at *
  obtain⟨a,vs,e,n,s,q⟩:=h
  exact⟨a,vs,e,⟨m.ni n.1 s,n.2⟩,m.keep _ _ n.1 s,aJ.mv m q⟩
 |.scr xs,_,h=>by
  unfold bL at *
  obtain⟨a,vs,e,s,q⟩:=h
  rcases s with ⟨n,s⟩|s
  ·exact⟨a,vs,e,.inl ⟨⟨s.elim (m.ni n.1) λ⟨_,r⟩=>m.ni n.1 r,n.2⟩,m.rd n.1 s⟩,aJ.mv m q⟩
  ·exact⟨a,vs,e,.inr s,aJ.mv m q⟩
 |.dct ks us,_,h=>by
  unfold bL at *
  obtain⟨a,kvs,e,n,s,q,q'⟩:=h
  exact⟨a,kvs,e,⟨m.ni n.1 s,n.2⟩,m.keep _ _ n.1 s,aJ.mv m q,aJ.mv m q'⟩
 |.obj C fs,_,h=>by
  unfold bL at *
  obtain⟨a,dx,fv,e,n,s,l,q⟩:=h
  exact⟨a,dx,fv,e,⟨m.ni n.1 s,n.2⟩,m.keep _ _ n.1 s,l,aJ.mv m q⟩
theorem aJ.mv(m:Mv M H M' H'):∀{xs:List Pv}{vs:List V},aJ Z M H xs vs->aJ Z M' H' xs vs
 | [],[],h=>by unfold aJ at *;trivial
 | [],_::_,h=>by unfold aJ at *;exact h
 |_::_,[],h=>by unfold aJ at *;exact h
 |x::xs,v::vs,h=>by
  unfold aJ at *
  exact⟨bL.mv m h.1,aJ.mv m h.2⟩
end
theorem Ext.mv(e:Ext M H M' H')(r:bj Z M H h):Mv M H M' H':=⟨λ_ ha _=>r.Hj ha,e.keep,e.new⟩
theorem Ext.at(e:Ext M H M' H')(h:M[i]?=some a):M'[i]?=some a:=by
 obtain⟨l,rfl⟩:=e.pre
 rw[aV (aw.mp h).1];exact h
theorem cQ.mv(m:Mv M H M' H')(at':∀(i:Nat) a,M[i]?=some a->M'[i]?=some a)(h:cQ Z M H d v):cQ Z M' H' d v:=by
 cases d with
 |p x=>exact bL.mv m h
 |r i=>obtain⟨a,h1,h2⟩:=h;exact⟨a,at' i a h1,h2⟩
theorem cC.mv(m:Mv M H M' H')(at':∀(i:Nat) a,M[i]?=some a->M'[i]?=some a):∀{ds:List Dv}{vs:List V},cC Z M H ds vs->cC Z M' H' ds vs
 | [],[],_=>trivial
 | [],_::_,h=>h
 |_::_,[],h=>h
 |_::_,_::_,h=>⟨cQ.mv m at' h.1,cC.mv m at' h.2⟩
theorem cQ.ext(r:bj Z M H h)(e:Ext M H M' H')(q:cQ Z M H d v):cQ Z M' H' d v:=cQ.mv (e.mv r) (λ_ _=>e.at) q
theorem cC.ext(r:bj Z M H h)(e:Ext M H M' H'){d:List Dv}{v:List V}(q:cC Z M H d v):cC Z M' H' d v:=cC.mv (e.mv r) (λ_ _=>e.at) q
theorem bL.ext(r:bj Z M H h)(e:Ext M H M' H'){d:Pv}(q:bL Z M H d v):bL Z M' H' d v:=bL.mv (e.mv r) q
theorem aJ.ext(r:bj Z M H h)(e:Ext M H M' H'){d:List Pv}{v:List V}(q:aJ Z M H d v):aJ Z M' H' d v:=aJ.mv (e.mv r) q
theorem d8.ext(q:d8 Z M H σ τ)(r:bj Z M H h)(e:Ext M H M' H'):d8 Z M' H' σ τ:=⟨q.ln,λi d hd=>
 let ⟨v,hv,q⟩:=q.at' i d hd;⟨v,hv,q.ext r e⟩⟩
theorem d8.set(q:d8 Z M H σ τ)(hd:cQ Z M H d v):d8 Z M H (σ.set i (some d)) (τ.set i (some v)):=⟨by rw[c8,c8];exact q.ln,λj e he=>by
 by_cases hj:i=j
 ·subst hj
  by_cases hl:i<σ.length
  ·rw[cx hl] at he
   cases he
   exact⟨v,by rw[cx (by rw[<-q.ln];exact hl)],hd⟩
  ·rw[jY (by rw[c8];lia)] at he;cases he
 ·rw[dc hj] at he⊢
  exact q.at' j e he⟩
theorem vL.mv(m:Mv M H M' H')(at':∀(i:Nat) a,M[i]?=some a->M'[i]?=some a){o:Ob}(hk:∀u,H a=some u->H' a=some u)(hx:∀dx,H dx=some (.own a)->H' dx=some (.own a))(h:vL Z M H a o):vL Z M' H' a o:=by
 cases o with
 |lst xs=>obtain⟨vs,e,q⟩:=h;exact⟨vs,hk _ e,aJ.mv m q⟩
 |vj xs=>obtain⟨vs,e,q⟩:=h;exact⟨vs,hk _ e,cC.mv m at' q⟩
 |dct ks us=>obtain⟨kvs,e,q,q'⟩:=h;exact⟨kvs,hk _ e,aJ.mv m q,aJ.mv m q'⟩
 |ins C fs=>obtain⟨dx,fv,e,n,h1,q⟩:=h;exact⟨dx,fv,hk _ e,hx _ n,h1,cC.mv m at' q⟩
theorem Ext.add(hp:H p=none):Ext M H M (upd H p o):=⟨⟨[],(bS M).symm⟩,λb u _ h=>by rw[bf (bB h hp)];exact h,λb h n=>absurd h n⟩
theorem pF{H:Hp}{b:Addr}(h:∃q,H b=some q):∃q,upd H p o b=some q:=by
 by_cases e:b=p
 ·subst e;exact⟨o,bE⟩
 ·rw[bf e];exact h
theorem bj.add(r:bj Z M H h)(hp:H p=none):bj Z M (upd H p o) h:=⟨r.nd,r.dj,r.ln,λb hb=>pF (r.gs b hb),λi a u h1 h2=>
 vL.mv ((Ext.add hp).mv r) (λ_ _ z=>z) (λq e=>by rw[bf (bB e hp)];exact e) (λdx e=>by rw[bf (bB e hp)];exact e) (r.ob i a u h1 h2)⟩
theorem Ext.push(r:bj Z M H h)(hp:H p=none):Ext M H (M ++ [p]) (upd H p u):=⟨⟨[p],rfl⟩,λb o _ e=>by rw[bf (bB e hp)];exact e,λb hb n=>by
 rcases bu.mp hb with z|z
 ·exact absurd z n
 ·rw[aO.mp z];exact hp⟩
theorem bj.push(r:bj Z M H h){o:Ob}(hp:H p=none)(ho:vL Z (M ++ [p]) (upd H p u) p o):bj Z (M ++ [p]) (upd H p u) (h ++ [o]):=by
 refine⟨dW.mpr ⟨r.nd,by simp,λa ha b hb z=>?_⟩,λa ha=>(bu.mp ha).elim (r.dj a) λz=>by rw[aO.mp z];exact(r.nG hp).2,by rw[ai,ai,r.ln];rfl,λb hb=>pF (r.gs b hb),λi a q h1 h2=>?_⟩
 ·rw[aO.mp hb] at z;subst z;exact r.fresh hp ha
 ·by_cases hi:i<M.length
  ·rw[aV hi] at h1
   rw[aV (by rw[<-r.ln];exact hi)] at h2
   exact vL.mv ((Ext.push r hp).mv r) (λ_ _=>(Ext.push (u:=u) r hp).at) (λq e=>by rw[bf (bB e hp)];exact e) (λdx e=>by rw[bf (bB e hp)];exact e) (r.ob i a q h1 h2)
  ·rw[bg (by lia)] at h1
   rw[bg (by rw[<-r.ln];lia)] at h2
   rw[<-r.ln] at h2
   cases hk:i-M.length with
   |zero=>rw[hk] at h1 h2;cases h1;cases h2;exact ho
   |succ k=>rw[hk] at h1;cases h1
theorem Ext.put(ha:a∈M):Ext M H M (upd H a u):=⟨⟨[],(bS M).symm⟩,λb o n e=>by rw[bf (λz=>n (by rw[z];exact ha))];exact e,λb h n=>absurd h n⟩
theorem bj.put(r:bj Z M H h){o:Ob}(hi:M[i]?=some a)(ho:vL Z M (upd H a u) a o):bj Z M (upd H a u) (h.set i o):=by
 have ha:a∈M:=aS hi
 refine⟨r.nd,r.dj,by rw[c8];exact r.ln,λb hb=>pF (r.gs b hb),λj b q h1 h2=>?_⟩
 by_cases hj:j=i
 ·subst hj
  rw[hi] at h1;cases h1
  have hl:j<h.length:=by rw[<-r.ln];exact(aw.mp hi).1
  rw[cx hl] at h2
  cases h2;exact ho
 ·rw[dc (cR hj)] at h2
  have hb:b≠a:=λz=>hj (by
   have h3:=aw.mp h1
   have h4:=aw.mp hi
   obtain⟨l3,e3⟩:=h3
   obtain⟨l4,e4⟩:=h4
   exact(g5 r.nd).mp (by rw[e3,e4,z]))
  exact vL.mv ((Ext.put ha).mv r) (λ_ _ z=>z) (λq e=>by rw[bf hb];exact e) (λdx e=>by rw[bf (λz=>by rw[z] at e;exact r.no e rfl ha)];exact e) (r.ob j b q h1 h2)
noncomputable def bD (k:Nat):Dv->Bool
 |.p _=>true
 |.r i=>decide (i<k)
def VM(k:Nat):List Dv->Bool
 | []=>true
 |d::r=>bD k d&&VM k r
def bO(k:Nat):Ob->Bool
 |.lst _=>true
 |.vj ds=>VM k ds
 |.dct _ _=>true
 |.ins _ fs=>VM k fs
def bH(k:Nat):Hs->Bool
 | []=>true
 |o::r=>bO k o&&bH k r
def clD(k:Nat):Option Dv->Option Dv
 |some d=>if bD k d then some d else none
 |none=>none
def KG(k:Nat):Es->Es
 | []=> []
 |d::r=>clD k d::KG k r
theorem Fo{k:Nat}:∀{h:Hs},bH k h=true->∀o∈h,bO k o=true
 | [],_,o,ho=>by cases ho
 |q::r,e,o,ho=>by
  simp only[bH,ay] at e
  rcases aN.mp ho with z|z
  ·rw[z];exact e.1
  ·exact Fo e.2 o z
theorem Mv.cut(r:bj Z M H h)(k:Nat):Mv M H (M.take k) H:=⟨λ_ ha _=>r.Hj ha,λ_ _ _ e=>e,λb hb n=>absurd (ux hb) n⟩
theorem cQ.cut(r:bj Z M H h)(q:cQ Z M H d v)(b:bD k d=true):cQ Z (M.take k) H d v:=by
 cases d with
 |p x=>exact bL.mv (Mv.cut r k) q
 |r i=>
  obtain⟨a,h1,h2⟩:=q
  have hk:i<k:=aX b
  exact⟨a,by rw[iB hk];exact h1,h2⟩
theorem cC.cut(r:bj Z M H h){k:Nat}:∀{ds:List Dv}{vs:List V},cC Z M H ds vs->VM k ds=true->cC Z (M.take k) H ds vs
 | [],[],_,_=>trivial
 | [],_::_,q,_=>q
 |_::_,[],q,_=>q
 |_::_,_::_,q,b=>by
  simp only[VM,ay] at b
  exact⟨q.1.cut r b.1,cC.cut r q.2 b.2⟩
theorem bj.cut(r:bj Z M H h)(k:Nat)(b:bH k (h.take k)=true):bj Z (M.take k) H (h.take k):=by
 refine⟨r.nd.sublist (cg k M),λa ha=>r.dj a (ux ha),by rw[bQ,bQ,r.ln],r.gs,λi a o h1 h2=>?_⟩
 have hb:=Fo b o (aS h2)
 have hi:i<k:=by
  have:=(aw.mp h2).1
  rw[bQ] at this;lia
 rw[iB hi] at h1 h2
 have q:=r.ob i a o h1 h2
 cases o with
 |lst xs=>obtain⟨vs,e,q⟩:=q;exact⟨vs,e,aJ.mv (Mv.cut r k) q⟩
 |vj xs=>obtain⟨vs,e,q⟩:=q;exact⟨vs,e,q.cut r hb⟩
 |dct ks us=>obtain⟨kvs,e,q,q'⟩:=q;exact⟨kvs,e,aJ.mv (Mv.cut r k) q,aJ.mv (Mv.cut r k) q'⟩
 |ins C fs=>obtain⟨dx,fv,e,n,l,q⟩:=q;exact⟨dx,fv,e,n,l,q.cut r hb⟩
theorem Bz{k:Nat}{d:Dv}:∀{σ:Es}{i:Nat},(KG k σ)[i]?=some (some d)->σ[i]?=some (some d)/\bD k d=true
 | [],i,e=>by simp[KG] at e
 |q::r,0,e=>by
  simp only[KG,pM,Option.some.injEq] at e
  cases q with
  |none=>cases e
  |some q=>
   simp only[clD] at e
   split at e
   ·cases e;exact⟨rfl,by assumption⟩
   ·cases e
 |q::r,i+1,e=>by
  simp only[KG,dS] at e⊢
  exact Bz e
theorem BA(k:Nat):∀σ:Es,(KG k σ).length=σ.length
 | []=>rfl
 |_::r=>by simp only[KG,aF,BA k r]
theorem d8.cut(q:d8 Z M H σ τ)(r:bj Z M H h)(k:Nat):d8 Z (M.take k) H (KG k σ) τ:=⟨(BA k σ).trans q.ln,λi d hd=>by
 obtain⟨h1,h2⟩:=Bz hd
 obtain⟨v,hv,q⟩:=q.at' i d h1
 exact⟨v,hv,q.cut r h2⟩⟩
theorem Ext.cut(e:Ext M H M' H')(hk:M.length<=k):Ext M H (M'.take k) H':=by
 obtain⟨l,rfl⟩:=e.pre
 refine⟨⟨l.take (k-M.length),by rw[List.take_append,qI hk]⟩,e.keep,λb hb n=>e.new b (ux hb) n⟩
end
end F
namespace F
open PySem PySem.Spec PyProof.Rows L2
variable{Z:Tx}{E:XK}{τ τ2:L2.St}{H H':Hp}{M M' G G' L:List Addr}{σ σ' σ2:Es}{h h':Hs}{xc:XP}{t:Tb}{X:Cx}{e b c:Expr}{a:Addr}{A T:Sm}{B:Prop}{pos p:Pos}{rest:List Expr}{Y:T0}{ρ js:List Nat}{C:Ct}{k n i:Nat}{x:Pv}{tg:Tg}{QV:VK}{t':TT}{α:Type}{v:V}{r:List V->Hp->VK->Prop}{o o':HO}{op:CmpOp}{QB:Bool->Hp->Prop}{d:Dv}{vs:List V}{D:Ends}{N:En}{xs:List Pv}
abbrev XP:=Nat->Hs->Prop
abbrev KP:=List Dv->Hs->Prop
abbrev Sm:=XP->Es->Hs->KP->Prop
structure En where
 nx:Es->Hs->Prop
 rt:Dv->Hs->Prop
 bk:Es->Hs->Prop
 ct:Es->Hs->Prop
 xc:XP
abbrev Ss:=En->Es->Hs->Prop
structure Tb where
 oW:Nat->Str
 ca:Nat->Addr
 fl:Nat->lS7
structure T0 where
 K:Frag
 mg:mG7
 t:Tb
abbrev T0.z (Y:T0) (G:List Addr):Tx:=⟨Y.K,Y.mg,Y.t.oW,Y.t.ca,Y.t.fl,G⟩
abbrev yx (t:Tb) (X:Cx):T0:=⟨X.K,X.mg,t⟩
section
variable (Z:Tx)
structure Kn (E:XK) (τ:L2.St) (H:Hp) (QV:VK) (M:List Addr) (σ:Es) (h:Hs) (xc:XP) (Q:KP):Prop where
 rel:bj Z M H h
 env:d8 Z M H σ τ
 out:∀d h' M' H' v,Ext M H M' H'->bj Z M' H' h'->cQ Z M' H' d v->Q [d] h'->QV v H'
 exc:∀C h' M' H',Ext M H M' H'->bj Z M' H' h'->xc C h'->E (.ref (Z.ca C)) none H'
structure KnA (E:XK) (τ:L2.St) (H:Hp) (QV:List V->Hp->Prop) (M:List Addr) (σ:Es) (h:Hs) (xc:XP) (Q:KP):Prop where
 rel:bj Z M H h
 env:d8 Z M H σ τ
 out:∀d h' M' H' v,Ext M H M' H'->bj Z M' H' h'->cC Z M' H' d v->Q d h'->QV v H'
 exc:∀C h' M' H',Ext M H M' H'->bj Z M' H' h'->xc C h'->E (.ref (Z.ca C)) none H'
structure KnT (E:XK) (τ:L2.St) (H:Hp) (QV:Bool->Hp->Prop) (M:List Addr) (σ:Es) (h:Hs) (xc:XP) (Q:KP):Prop where
 rel:bj Z M H h
 env:d8 Z M H σ τ
 out:∀d h' M' H',Ext M H M' H'->bj Z M' H' h'->Q [d] h'->∃b,d=.p (.bl b)/\QV b H'
 exc:∀C h' M' H',Ext M H M' H'->bj Z M' H' h'->xc C h'->E (.ref (Z.ca C)) none H'
structure Qi (E:XK) (τ:L2.St) (H:Hp) (D:Ends) (M:List Addr) (σ:Es) (h:Hs) (N:En):Prop where
 rel:bj Z M H h
 env:d8 Z M H σ τ
 nx:∀σ' h' M' H' τ',Ext M H M' H'->bj Z M' H' h'->d8 Z M' H' σ' τ'->N.nx σ' h'->D.nx τ' H'
 rt:∀d h' M' H' v,Ext M H M' H'->bj Z M' H' h'->cQ Z M' H' d v->N.rt d h'->D.rt v H'
 bk:∀σ' h' M' H' τ',Ext M H M' H'->bj Z M' H' h'->d8 Z M' H' σ' τ'->N.bk σ' h'->D.bk τ' H'
 ct:∀σ' h' M' H' τ',Ext M H M' H'->bj Z M' H' h'->d8 Z M' H' σ' τ'->N.ct σ' h'->D.ct τ' H'
 exc:∀C h' M' H',Ext M H M' H'->bj Z M' H' h'->N.xc C h'->E (.ref (Z.ca C)) none H'
inductive cV (Y:T0) (E:XK) (m:Sm) (τ:L2.St) (H:Hp) (QV:VK):Prop
 |mk (G M:List Addr) (σ:Es) (h:Hs) (xc:XP) (Q:KP) (k:Kn (Y.z G) E τ H QV M σ h xc Q) (q:m xc σ h Q):cV Y E m τ H QV
inductive gK (Y:T0) (E:XK) (m:Sm) (τ:L2.St) (H:Hp) (QV:List V->Hp->Prop):Prop
 |mk (G M:List Addr) (σ:Es) (h:Hs) (xc:XP) (Q:KP) (k:KnA (Y.z G) E τ H QV M σ h xc Q) (q:m xc σ h Q):gK Y E m τ H QV
inductive kU (Y:T0) (E:XK) (m:Sm) (τ:L2.St) (H:Hp) (QV:Bool->Hp->Prop):Prop
 |mk (G M:List Addr) (σ:Es) (h:Hs) (xc:XP) (Q:KP) (k:KnT (Y.z G) E τ H QV M σ h xc Q) (q:m xc σ h Q):kU Y E m τ H QV
inductive fO (Y:T0) (E:XK) (m:Ss) (D:Ends) (τ:L2.St) (H:Hp):Prop
 |mk (G M:List Addr) (σ:Es) (h:Hs) (N:En) (k:Qi (Y.z G) E τ H D M σ h N) (q:m N σ h):fO Y E m D τ H
end
section
variable {Q:KP}
theorem Kn.QX(k:Kn Z E τ H QV M σ h xc Q)(e:Ext M H M' H'):∀C h1 M1 H1,Ext M' H' M1 H1->bj Z M1 H1 h1->xc C h1->E (.ref (Z.ca C)) none H1:=λC h1 M1 H1 x r q=>k.exc C h1 M1 H1 (e.trans x) r q
theorem Kn.on{QV':VK}{Q':KP}(k:Kn Z E τ H QV M σ h xc Q)(e:Ext M H M' H')(r:bj Z M' H' h')(o:∀d h1 M1 H1 v,Ext M' H' M1 H1->bj Z M1 H1 h1->cQ Z M1 H1 d v->Q' [d] h1->QV' v H1):Kn Z E τ H' QV' M' σ h' xc Q':=
 ⟨r,k.env.ext k.rel e,o,k.QX e⟩
end
theorem _root_.L2.PE.imp{t t':TE}(h:PE X e t')(i:∀σ H Q,t σ H Q->t' σ H Q):PE X e t:=λpins s σ H Q I q=>h pins s σ H Q I (i σ H Q q)
theorem _root_.L2.PT.imp{t:TT}(h:PT X e t')(i:∀σ H Q,t σ H Q->t' σ H Q):PT X e t:=λpins s σ H Q I q=>h pins s σ H Q I (i σ H Q q)
theorem _root_.L2.PW.imp{t:TT}(h:PW X e t')(i:∀σ H Q,t σ H Q->t' σ H Q):PW X e t:=λwh pins s σ H Q I q=>h wh pins s σ H Q I (i σ H Q q)
theorem _root_.L2.PA.imp{e:List Expr}{t t':TA}(h:PA X e t')(i:∀σ H Q,t σ H Q->t' σ H Q):PA X e t:=λpos pins s σ H Q I q=>h pos pins s σ H Q I (i σ H Q q)
theorem _root_.L2.PS.imp{e:Stmt}{t t':TS}(h:PS X e t')(i:∀D σ H,t D σ H->t' D σ H):PS X e t:=λpins s σ H D I q=>h pins s σ H D I (i D σ H q)
theorem _root_.L2.nj.imp{e:List Stmt}{t t':TS}(h:nj X e t')(i:∀D σ H,t D σ H->t' D σ H):nj X e t:=λpins s σ H D I q=>h pins s σ H D I (i D σ H q)
def gd(c:Bool)(A:Prop):Prop:=match c with
 |true=>A
 |false=>False
theorem aq{c:Bool}{A:Prop}(h:c=true)(a:A):gd c A:=by subst h;exact a
theorem bt{c:Bool}{A:Prop}(h:gd c A):c=true/\A:=by cases c with
 |true=>exact⟨rfl,h⟩
 |false=>exact h.elim
def br(c:Bool)(A B:Prop):Prop:=match c with
 |true=>A
 |false=>B
theorem dC{c:Bool}{A:Prop}(a:c=true->A)(b:c=false->B):br c A B:=by cases c with
 |true=>exact a rfl
 |false=>exact b rfl
def l9(o:Option α)(A:α->Prop)(B:Prop):Prop:=match o with
 |some x=>A x
 |none=>B
theorem AQ{o:Option α}{A:α->Prop}(a:∀x,o=some x->A x)(b:o=none->B):l9 o A B:=by
 cases o with
 |some x=>exact a x rfl
 |none=>exact b rfl
theorem HE{o:Option α}{A:α->Prop}{x:α}(h:l9 o A B)(e:o=some x):A x:=by subst e;exact h
theorem HD{o:Option α}{A:α->Prop}(h:l9 o A B)(e:o=none):B:=by subst e;exact h
theorem bK{o:Option α}{A:α->Prop}{x:α}(e:o=some x)(a:A x):l9 o A B:=by subst e;exact a
def Ez:List Dv->Option (List Pv)
 | []=>some []
 |.p x::r=>match Ez r with
  |some xs=>some (x::xs)
  |none=>none
 |.r _::_=>none
abbrev O1:=Dv->Hs->(Dv->Hs->Prop)->Prop
abbrev O2:=Dv->Dv->Hs->(Dv->Hs->Prop)->Prop
abbrev ON:=List Dv->Hs->(Dv->Hs->Prop)->Prop
def sV(i:Nat):Sm:=λ_ σ h Q=>match σ[i]? with
 |some (some d)=>Q [d] h
 |_=>False
def sC(x:Pv):Sm:=λ_ _ h Q=>Q [.p x] h
def s1(o:O1)(A:Sm):Sm:=λxc σ h Q=>A xc σ h λxs h1=>match xs with
 | [x]=>o x h1 λd h2=>Q [d] h2
 |_=>False
def s2(o:O2)(A B:Sm):Sm:=λxc σ h Q=>A xc σ h λxs h1=>match xs with
 | [x]=>B xc σ h1 λys h2=>match ys with
  | [y]=>o x y h2 λd h3=>Q [d] h3
  |_=>False
 |_=>False
def sN(o:ON)(A:Sm):Sm:=λxc σ h Q=>A xc σ h λxs h1=>o xs h1 λd h2=>Q [d] h2
def EF:Sm:=λ_ _ h Q=>Q [] h
def IW(A R:Sm):Sm:=λxc σ h Q=>A xc σ h λxs h1=>match xs with
 | [x]=>R xc σ h1 λys h2=>Q (x::ys) h2
 |_=>False
def NB(A B:Sm):Sm:=λxc σ h Q=>A xc σ h λxs h1=>match xs with
 | [.p (.bl b)]=>br b (B xc σ h1 λys h2=>match ys with
  | [.p (.bl c)]=>Q [.p (.bl c)] h2
  |_=>False) (Q [.p (.bl false)] h1)
 |_=>False
def ZY(A B:Sm):Sm:=λxc σ h Q=>A xc σ h λxs h1=>match xs with
 | [.p (.bl b)]=>br b (Q [.p (.bl true)] h1) (B xc σ h1 λys h2=>match ys with
  | [.p (.bl c)]=>Q [.p (.bl c)] h2
  |_=>False)
 |_=>False
def ND(A:Sm):Sm:=λxc σ h Q=>A xc σ h λxs h1=>match xs with
 | [.p (.bl b)]=>Q [.p (.bl (!b))] h1
 |_=>False
section
variable {a:Expr}{B:Sm}
theorem XZ(h:PE X e (EL i)):PE X e (cV (yx t X) E (sV i)):=h.imp λτ H QV ⟨G,M,σ,hs,xc,Q,k,q⟩=>by
 unfold sV at q
 split at q
 ·rename_i d hd
  obtain⟨v,hv,hi⟩:=k.env.at' i d hd
  exact⟨v,hv,k.out d hs M H v Ext.refl k.rel hi q⟩
 ·exact q.elim
theorem AY(h:PE X e (tC v))(hv:∀G M H,bL ((yx t X).z G) M H x v):PE X e (cV (yx t X) E (sC x)):=h.imp λτ H QV ⟨G,M,σ,hs,xc,Q,k,q⟩=>
 k.out (.p x) hs M H v Ext.refl k.rel (hv G M H) q
def Qf(Y:T0)(r:V->Hp->VK->Prop)(o:O1):Prop:=∀G M h H x v Q QV,bj (Y.z G) M H h->cQ (Y.z G) M H x v->o x h Q->(∀d h' M' H' w,Ext M H M' H'->bj (Y.z G) M' H' h'->cQ (Y.z G) M' H' d w->Q d h'->QV w H')->r v H QV
def iQ(Y:T0)(r:R2)(o:O2):Prop:=∀G M h H x y v u Q QV,bj (Y.z G) M H h->cQ (Y.z G) M H x v->cQ (Y.z G) M H y u->o x y h Q->(∀d h' M' H' w,Ext M H M' H'->bj (Y.z G) M' H' h'->cQ (Y.z G) M' H' d w->Q d h'->QV w H')->r v u H QV
def qN(Y:T0)(r:List V->Hp->VK->Prop)(o:ON):Prop:=∀G M h H xs vs Q QV,bj (Y.z G) M H h->cC (Y.z G) M H xs vs->o xs h Q->(∀d h' M' H' w,Ext M H M' H'->bj (Y.z G) M' H' h'->cQ (Y.z G) M' H' d w->Q d h'->QV w H')->r vs H QV
theorem Ys{r:V->Hp->VK->Prop}{o:O1}(ho:Qf (yx t X) r o)(h:cV (yx t X) E (s1 o A) τ H QV):tUn r (cV (yx t X) E A) τ H QV:=by
 obtain⟨G,M,σ,hs,xc,Q,k,q⟩:=h
 refine⟨G,M,σ,hs,xc,_,⟨k.rel,k.env,λd h' M' H' v e r' i q'=>?_,k.exc⟩,q⟩
 exact ho G M' h' H' d v _ _ r' i q' λd2 h2 M2 H2 w e2 r2 i2 q2=>k.out d2 h2 M2 H2 w (e.trans e2) r2 i2 q2
theorem ui{r:R2}{o:O2}(ho:iQ (yx t X) r o)(h:cV (yx t X) E (s2 o A B) τ H QV):YC r (cV (yx t X) E A) (cV (yx t X) E B) τ H QV:=by
 obtain⟨G,M,σ,hs,xc,Q,k,q⟩:=h
 refine⟨G,M,σ,hs,xc,_,⟨k.rel,k.env,λd h' M' H' v e r' i q'=>?_,k.exc⟩,q⟩
 refine⟨G,M',σ,h',xc,_,k.on e r' λd2 h2 M2 H2 w e2 r2 i2 q2=>?_,q'⟩
 exact ho G M2 h2 H2 d d2 v w _ _ r2 (i.ext r' e2) i2 q2 λd3 h3 M3 H3 z e3 r3 i3 q3=>k.out d3 h3 M3 H3 z (e.trans (e2.trans e3)) r3 i3 q3
theorem XU{op:Operator}{r:R2}{o:O2}(hr:iX X (binaryOp op) r)(ho:iQ (yx t X) r o)(ha:PE X a (cV (yx t X) E A))(hb:PE X b (cV (yx t X) E B)):PE X (.BinOp a op b pos) (cV (yx t X) E (s2 o A B)):=
 (XR hr ha hb).imp λ_ _ _=>ui ho
theorem XY{op:UnaryOp}{r:V->Hp->VK->Prop}{o:O1}(hr:UW X (unaryOp op) r)(ho:Qf (yx t X) r o)(ha:PE X a (cV (yx t X) E A)):PE X (.UnaryOp op a pos) (cV (yx t X) E (s1 o A)):=
 (Pc hr ha).imp λ_ _ _=>Ys ho
theorem SW{r:R2}{o:O2}(hr:iX X (ac1 op) r)(ho:iQ (yx t X) r o)(ha:PE X a (cV (yx t X) E A))(hb:PE X b (cV (yx t X) E B))(hm:ab2 op b=false):PE X (.Compare a [op] [b] pos) (cV (yx t X) E (s2 o A B)):=
 (MO hr ha hb hm).imp λ_ _ _=>ui ho
theorem CV{m:Sm}(h:kU (yx t X) E m τ H QB):cV (yx t X) E m τ H λx H'=>∃k,x=.bl k/\QB k H':=by
 obtain⟨G,M,σ,hs,xc,Q,k,q⟩:=h
 refine⟨G,M,σ,hs,xc,Q,⟨k.rel,k.env,λd h' M' H' v e r' i q'=>?_,k.exc⟩,q⟩
 obtain⟨c,rfl,q2⟩:=k.out d h' M' H' e r' q'
 refine⟨c,?_,q2⟩
 unfold cQ bL at i
 exact i
theorem Ni{r:R2}{o:O2}(hr:iX X (ac1 op) r)(ho:iQ (yx t X) r o)(ha:PE X a (cV (yx t X) E A))(hb:PE X b (cV (yx t X) E B))(hm:ab2 op b=false):PT X (.Compare a [op] [b] pos) (kU (yx t X) E (s2 o A B)):=
 (Cy hr ha hb hm).imp λ_ _ _ h=>ui ho (CV h)
theorem Nj(h:PE X e (cV (yx t X) E A))(he:∀nD,isTrue e X.env nD=(do let v <-nD;standAt e.pos;holding [v] (truthy v))):PT X e (kU (yx t X) E A):=
 (IC h he).imp λ_ _ _ h=>CV h
end
section
variable {a:Expr}{B:Sm}
theorem Jo(h:kU (yx t X) E (NB A B) τ H QB):Yt (kU (yx t X) E A) (kU (yx t X) E B) τ H QB:=by
 obtain⟨G,M,σ,hs,xc,Q,k,q⟩:=h
 refine⟨G,M,σ,hs,xc,_,⟨k.rel,k.env,λd h' M' H' e r' q'=>?_,k.exc⟩,q⟩
 split at q'
 ·rename_i b he
  injection he with he
  refine⟨b,he,?_⟩
  cases b with
  |false=>
   obtain⟨c,h1,h2⟩:=k.out _ h' M' H' e r' q'
   injection h1 with h1;injection h1 with h1;subst h1
   exact h2
  |true=>
   refine⟨G,M',σ,h',xc,_,⟨r',k.env.ext k.rel e,λd2 h2 M2 H2 e2 r2 q2=>?_,λC h1 M1 H1 x r q=>k.exc C h1 M1 H1 (e.trans x) r q⟩,q'⟩
   split at q2
   ·rename_i c he;injection he with he
    obtain⟨c',h1,h2⟩:=k.out _ h2 M2 H2 (e.trans e2) r2 q2
    injection h1 with h1;injection h1 with h1;subst h1
    exact⟨c,he,h2⟩
   ·exact q2.elim
 ·exact q'.elim
theorem NY(h:kU (yx t X) E (ZY A B) τ H QB):tOr (kU (yx t X) E A) (kU (yx t X) E B) τ H QB:=by
 obtain⟨G,M,σ,hs,xc,Q,k,q⟩:=h
 refine⟨G,M,σ,hs,xc,_,⟨k.rel,k.env,λd h' M' H' e r' q'=>?_,k.exc⟩,q⟩
 split at q'
 ·rename_i b he
  injection he with he
  refine⟨b,he,?_⟩
  cases b with
  |true=>
   obtain⟨c,h1,h2⟩:=k.out _ h' M' H' e r' q'
   injection h1 with h1;injection h1 with h1;subst h1
   exact h2
  |false=>
   refine⟨G,M',σ,h',xc,_,⟨r',k.env.ext k.rel e,λd2 h2 M2 H2 e2 r2 q2=>?_,λC h1 M1 H1 x r q=>k.exc C h1 M1 H1 (e.trans x) r q⟩,q'⟩
   split at q2
   ·rename_i c he;injection he with he
    obtain⟨c',h1,h2⟩:=k.out _ h2 M2 H2 (e.trans e2) r2 q2
    injection h1 with h1;injection h1 with h1;subst h1
    exact⟨c,he,h2⟩
   ·exact q2.elim
 ·exact q'.elim
theorem Jp(h:kU (yx t X) E (ND A) τ H QB):YA (kU (yx t X) E A) τ H QB:=by
 obtain⟨G,M,σ,hs,xc,Q,k,q⟩:=h
 refine⟨G,M,σ,hs,xc,_,⟨k.rel,k.env,λd h' M' H' e r' q'=>?_,k.exc⟩,q⟩
 split at q'
 ·rename_i b he
  injection he with he
  obtain⟨c,h1,h2⟩:=k.out _ h' M' H' e r' q'
  injection h1 with h1;injection h1 with h1;subst h1
  exact⟨b,he,h2⟩
 ·exact q'.elim
theorem NZ(h:cV (yx t X) E (NB A B) τ H QV):PB (cV (yx t X) E A) (cV (yx t X) E B) τ H QV:=by
 obtain⟨G,M,σ,hs,xc,Q,k,q⟩:=h
 refine⟨G,M,σ,hs,xc,_,⟨k.rel,k.env,λd h' M' H' v e r' i q'=>?_,k.exc⟩,q⟩
 split at q'
 ·rename_i b he
  injection he with he
  subst he
  unfold cQ bL at i
  refine⟨b,i,?_⟩
  cases b with
  |false=>exact k.out _ h' M' H' _ e r' (by unfold cQ bL;rfl) q'
  |true=>
   refine⟨G,M',σ,h',xc,_,k.on e r' λd2 h2 M2 H2 w e2 r2 i2 q2=>?_,q'⟩
   split at q2
   ·rename_i c he;injection he with he;subst he
    exact k.out _ h2 M2 H2 w (e.trans e2) r2 i2 q2
   ·exact q2.elim
 ·exact q'.elim
theorem Ul(h:cV (yx t X) E (ZY A B) τ H QV):YD (cV (yx t X) E A) (cV (yx t X) E B) τ H QV:=by
 obtain⟨G,M,σ,hs,xc,Q,k,q⟩:=h
 refine⟨G,M,σ,hs,xc,_,⟨k.rel,k.env,λd h' M' H' v e r' i q'=>?_,k.exc⟩,q⟩
 split at q'
 ·rename_i b he
  injection he with he
  subst he
  unfold cQ bL at i
  refine⟨b,i,?_⟩
  cases b with
  |true=>exact k.out _ h' M' H' _ e r' (by unfold cQ bL;rfl) q'
  |false=>
   refine⟨G,M',σ,h',xc,_,k.on e r' λd2 h2 M2 H2 w e2 r2 i2 q2=>?_,q'⟩
   split at q2
   ·rename_i c he;injection he with he;subst he
    exact k.out _ h2 M2 H2 w (e.trans e2) r2 i2 q2
   ·exact q2.elim
 ·exact q'.elim
theorem N0(h:cV (yx t X) E (ND A) τ H QV):PL (cV (yx t X) E A) τ H QV:=by
 obtain⟨G,M,σ,hs,xc,Q,k,q⟩:=h
 refine⟨G,M,σ,hs,xc,_,⟨k.rel,k.env,λd h' M' H' v e r' i q'=>?_,k.exc⟩,q⟩
 split at q'
 ·rename_i b he
  injection he with he
  subst he
  unfold cQ bL at i
  exact⟨b,i,k.out _ h' M' H' _ e r' (by unfold cQ bL;rfl) q'⟩
 ·exact q'.elim
theorem MZ:PA X [] (gK (yx t X) E EF):=dA.imp λτ H QV ⟨G,M,σ,hs,xc,Q,k,q⟩=>k.out [] hs M H [] Ext.refl k.rel trivial q
theorem HW(ha:PE X a (cV (yx t X) E A))(hr:PA X rest (gK (yx t X) E B))(hp:bY a=true):PA X (a::rest) (gK (yx t X) E (IW A B)):=(kj ha hr hp).imp λτ H QV ⟨G,M,σ,hs,xc,Q,k,q⟩=>by
 refine⟨G,M,σ,hs,xc,_,⟨k.rel,k.env,λd h' M' H' v e r' i q'=>?_,k.exc⟩,q⟩
 refine⟨G,M',σ,h',xc,_,⟨r',k.env.ext k.rel e,λds h2 M2 H2 ws e2 r2 i2 q2=>?_,λC h1 M1 H1 x r q=>k.exc C h1 M1 H1 (e.trans x) r q⟩,q'⟩
 exact k.out (d::ds) h2 M2 H2 (v::ws) (e.trans e2) r2 ⟨i.ext r' e2,i2⟩ q2
theorem PK{o:ON}(ho:qN (yx t X) r o)(h:cV (yx t X) E (sN o A) τ H QV):gK (yx t X) E A τ H λvs H1=>r vs H1 QV:=by
 obtain⟨G,M,σ,hs,xc,Q,k,q⟩:=h
 refine⟨G,M,σ,hs,xc,_,⟨k.rel,k.env,λd h' M' H' v e r' i q'=>?_,k.exc⟩,q⟩
 exact ho G M' h' H' d v _ _ r' i q' λd2 h2 M2 H2 w e2 r2 i2 q2=>k.out d2 h2 M2 H2 w (e.trans e2) r2 i2 q2
theorem HS{x:Str}{id:String}{o:ON}(hc:dQ X (.builtin id) r)(ho:qN (yx t X) r o)(hg:Gl X x)(hm:X.mg x=none)(hv:aa6 x=some (.builtin id))(ha:PA X (a::rest) (gK (yx t X) E A))
  (hn:x≠"__name__") (jT:(x == ("__debug__":Str))=false) (eo:(a::rest).all bY=true):PE X (.Call (.Name x p) (a::rest) [] pos) (cV (yx t X) E (sN o A)):=(lA hc hg hm hv ha hn jT eo).imp λ_ _ _=>PK ho
theorem vq{x:Str}{id:String}{o:ON}(hc:dQ X (.type id) r)(ho:qN (yx t X) r o)(hg:Gl X x)(hm:X.mg x=none)(hv:aa6 x=some (.type id))(ha:PA X (a::rest) (gK (yx t X) E A))
  (hn:x≠"__name__") (jT:(x == ("__debug__":Str))=false) (eo:(a::rest).all bY=true):PE X (.Call (.Name x p) (a::rest) [] pos) (cV (yx t X) E (sN o A)):=(Pa hc hg hm hv ha hn jT eo).imp λ_ _ _=>PK ho
end
abbrev Ct:=List Dv->Hs->(Dv->Hs->Prop)->XP->Prop
inductive lL (Y:T0) (C:Ct) (vs:List V) (H:Hp) (QV:VK) (EV:XK):Prop
 |mk (G M:List Addr) (h:Hs) (ds:List Dv) (Q:Dv->Hs->Prop) (xc:XP) (r:bj (Y.z G) M H h) (i:cC (Y.z G) M H ds vs) (c:C ds h Q xc) (out:∀d h' M' H' v,Ext M H M' H'->bj (Y.z G) M' H' h'->cQ (Y.z G) M' H' d v->Q d h'->QV v H') (exc:∀c h' M' H',Ext M H M' H'->bj (Y.z G) M' H' h'->xc c h'->EV (.ref (Y.t.ca c)) none H'):lL Y C vs H QV EV
noncomputable def hU (i:Nat):List Nat->Bool
 | []=>false
 |j::r=>Nat.beq i j||hU i r
def ZP:List Nat->Bool
 | []=>true
 |i::r=>!hU i r&&ZP r
noncomputable def LW (i:Nat):List Nat->Nat
 | []=>0
 |j::r=>match Nat.beq i j with
  |true=>0
  |false=>LW i r+1
def inD(ρ:List Nat):Dv->Bool
 |.p _=>true
 |.r i=>hU i ρ
def DU(ρ:List Nat):List Dv->Bool
 | []=>true
 |d::r=>inD ρ d&&DU ρ r
def inO(ρ:List Nat):Ob->Bool
 |.lst _=>true
 |.vj ds=>DU ρ ds
 |.dct _ _=>true
 |.ins _ fs=>DU ρ fs
def Ya(ρ:List Nat):Dv->Dv
 |.p x=>.p x
 |.r i=>.r (LW i ρ)
def rnO(ρ:List Nat):Ob->Ob
 |.lst xs=>.lst xs
 |.vj ds=>.vj (ds.map (Ya ρ))
 |.dct ks vs=>.dct ks vs
 |.ins C fs=>.ins C (fs.map (Ya ρ))
def lh(ρ:List Nat)(h:Hs):List Nat->Option Hs
 | []=>some []
 |i::r=>match h[i]? with
  |none=>none
  |some o=>match inO ρ o with
   |false=>none
   |true=>match lh ρ h r with
    |none=>none
    |some l=>some (rnO ρ o::l)
noncomputable def UY (ρ:List Nat) (n:Nat):Dv->Dv
 |.p x=>.p x
 |.r k=>match ρ[k]? with
  |some i=>.r i
  |none=>.r (n+(k-ρ.length))
def Qv(ρ:List Nat)(n:Nat):Ob->Ob
 |.lst xs=>.lst xs
 |.vj ds=>.vj (ds.map (UY ρ n))
 |.dct ks vs=>.dct ks vs
 |.ins C fs=>.ins C (fs.map (UY ρ n))
def OZ(ρ:List Nat)(n:Nat):List Nat->Hs->Hs->Hs
 | [],[],h=>h
 | [],o::os,h=>h++(o::os).map (Qv ρ n)
 |_::_,[],h=>h
 |i::r,o::os,h=>OZ ρ n r os (h.set i (Qv ρ n o))
def R0(ρ:List Nat)(C:Ct):Ct:=λds h Q xc=>gd (ZP ρ&&DU ρ ds) (match lh ρ h ρ with
 |none=>False
 |some l=>C (ds.map (Ya ρ)) l (λd l'=>Q (UY ρ h.length d) (OZ ρ h.length ρ l' h)) (λc l'=>xc c (OZ ρ h.length ρ l' h)))
theorem dM{i:Nat}:∀{l:List Nat},hU i l=true↔i∈l
 | []=>by simp[hU]
 |j::r=>by
  simp only[hU,dX,aN,dM (l:=r),Nat.beq_eq]
theorem Cf:∀{l:List Nat},ZP l=true->l.Nodup
 | [],_=>fF
 |i::r,h=>by
  simp only[ZP,ay,ze] at h
  refine cA.mpr ⟨λz=>?_,Cf h.2⟩
  rw[dM.mpr z] at h;cases h.1
theorem B6{i:Nat}:∀{l:List Nat},i∈l->l[LW i l]?=some i
 | [],h=>by cases h
 |j::r,h=>by
  unfold LW
  split
  ·rename_i e;rw[ao e];rfl
  ·rename_i e
   have hr:i∈r:=(aN.mp h).resolve_left λz=>by rw[z,lP] at e;cases e
   rw[dS];exact B6 hr
section
variable {l l':Hs}
noncomputable def mL(ρ:List Nat)(M:List Addr):List Addr:=ρ.filterMap λi=>M[i]?
theorem G3{ρ0:List Nat}:∀{ρ:List Nat}{l:Hs},lh ρ0 h ρ=some l->l.length=ρ.length/\∀(k:Nat) i,ρ[k]?=some i->∃o,h[i]?=some o/\inO ρ0 o=true/\l[k]?=some (rnO ρ0 o)
 | [],l,e=>by
  cases e;exact⟨rfl,λk i h=>by simp at h⟩
 |i::r,l,e=>by
  unfold lh at e
  split at e
  ·cases e
  ·rename_i o ho
   split at e
   ·cases e
   ·rename_i hi
    split at e
    ·cases e
    ·rename_i l1 h1
     cases e
     obtain⟨a,b⟩:=G3 h1
     refine⟨by rw[aF,aF,a],λk j hk=>?_⟩
     cases k with
     |zero=>cases hk;exact⟨o,ho,hi,rfl⟩
     |succ k=>exact b k j hk
theorem tQ(en:∀i∈ρ,i<M.length):(mL ρ M).length=ρ.length/\∀(k:Nat),(mL ρ M)[k]?=(ρ[k]?).bind λi=>M[i]? :=by
 induction ρ with
 |nil=>exact⟨rfl,λk=>by simp[mL]⟩
 |cons i r ih=>
  obtain⟨a,b⟩:=ih λj hj=>en j (ax _ hj)
  have e:M[i]?=some (M[i]'(en i aL)):=aK (en i aL)
  have e2:mL (i::r) M=(M[i]'(en i aL))::mL r M:=by
   unfold mL;rw[fA,e]
  rw[e2]
  refine⟨by rw[aF,aF,a],λk=>?_⟩
  cases k with
  |zero=>rw[pM,pM];exact e.symm
  |succ k=>rw[dS,dS];exact b k
theorem wQ(h:a∈mL ρ M):a∈M:=by
 obtain⟨i,_,e⟩:=mQ.mp h
 exact aS e
theorem Xp(hM:M.Nodup)(hρ:ρ.Nodup):(mL ρ M).Nodup:=by
 unfold mL
 refine List.Pairwise.filterMap _ ?_ hρ
 intro i j hij b hb c hc z
 subst z
 refine hij ?_
 obtain⟨l1,e1⟩:=aw.mp hb
 obtain⟨l2,e2⟩:=aw.mp hc
 exact(g5 hM).mp (e1.trans e2.symm)
mutual
theorem bL.fr{G' M':List Addr}(n:∀a,a∈M'\/a∈G'->a∈M\/a∈G\/H a=none):∀{x:Pv}{v:V},bL (Y.z G) M H x v->bL (Y.z G') M' H x v
 |.non,_,h=>by unfold bL at *;exact h
 |.bl _,_,h=>by unfold bL at *;exact h
 |.int _,_,h=>by unfold bL at *;exact h
 |.str _,_,h=>by unfold bL at *;exact h
 |.fn _,_,h=>by unfold bL at *;exact h
 |.ty _,_,h=>by unfold bL at *;exact h
 |.tup xs,_,h=>by
  unfold bL at *
  obtain⟨a,vs,e,s,q⟩:=h
  exact⟨a,vs,e,s,aJ.fr n q⟩
 |.lst xs,_,h=>by
  unfold bL at *
  obtain⟨a,vs,e,k,s,q⟩:=h
  have z:∀z,(a∈M'\/a∈G')=z -> ¬z:=λ_ e z=>by subst e;rcases n a z with z|z|z;exact k.1 z;exact k.2 z;rw[z] at s;cases s
  exact⟨a,vs,e,⟨λy=>z _ rfl (.inl y),λy=>z _ rfl (.inr y)⟩,s,aJ.fr n q⟩
 |.scr xs,_,h=>by
  unfold bL at *
  obtain⟨a,vs,e,s,q⟩:=h
  rcases s with ⟨k,s⟩|s
  ·have z:∀z,(a∈M'\/a∈G')=z -> ¬z:=λ_ e z=>by subst e;rcases n a z with z|z|z;exact k.1 z;exact k.2 z;rcases s with s|⟨_,s⟩<;>rw[z] at s<;>cases s
   exact⟨a,vs,e,.inl ⟨⟨λy=>z _ rfl (.inl y),λy=>z _ rfl (.inr y)⟩,s⟩,aJ.fr n q⟩
  ·exact⟨a,vs,e,.inr s,aJ.fr n q⟩
 |.dct ks us,_,h=>by
  unfold bL at *
  obtain⟨a,kvs,e,k,s,q,q'⟩:=h
  have z:∀z,(a∈M'\/a∈G')=z -> ¬z:=λ_ e z=>by subst e;rcases n a z with z|z|z;exact k.1 z;exact k.2 z;rw[z] at s;cases s
  exact⟨a,kvs,e,⟨λy=>z _ rfl (.inl y),λy=>z _ rfl (.inr y)⟩,s,aJ.fr n q,aJ.fr n q'⟩
 |.obj C fs,_,h=>by
  unfold bL at *
  obtain⟨a,dx,fv,e,k,s,l,q⟩:=h
  have z:∀z,(a∈M'\/a∈G')=z -> ¬z:=λ_ e z=>by subst e;rcases n a z with z|z|z;exact k.1 z;exact k.2 z;rw[z] at s;cases s
  exact⟨a,dx,fv,e,⟨λy=>z _ rfl (.inl y),λy=>z _ rfl (.inr y)⟩,s,l,aJ.fr n q⟩
theorem aJ.fr{G' M':List Addr}(n:∀a,a∈M'\/a∈G'->a∈M\/a∈G\/H a=none):∀{xs:List Pv}{vs:List V},aJ (Y.z G) M H xs vs->aJ (Y.z G') M' H xs vs
 | [],[],h=>by unfold aJ at *;trivial
 | [],_::_,h=>by unfold aJ at *;exact h
 |_::_,[],h=>by unfold aJ at *;exact h
 |x::xs,v::vs,h=>by
  unfold aJ at *
  exact⟨bL.fr n h.1,aJ.fr n h.2⟩
end
theorem bL.up(n:∀a,a∉M'->a∉G'->a∉M/\a∉G)(h:bL (Y.z G') M' H x v):bL (Y.z G) M H x v:=bL.fr (λa ha=>by
 by_cases z:a∈M'
 ·exact .inl z
 ·by_cases y:a∈G'
  ·exact .inr (.inl y)
  ·obtain⟨p,q⟩:=n a z y
   exact(ha.elim p q).elim) h
theorem aJ.up(n:∀a,a∉M'->a∉G'->a∉M/\a∉G){x:List Pv}{v:List V}(h:aJ (Y.z G') M' H x v):aJ (Y.z G) M H x v:=aJ.fr (λa ha=>by
 by_cases z:a∈M'
 ·exact .inl z
 ·by_cases y:a∈G'
  ·exact .inr (.inl y)
  ·obtain⟨p,q⟩:=n a z y
   exact(ha.elim p q).elim) h
def gL(ρ:List Nat)(M G:List Addr):List Addr:=G++M.filter λa=>!(mL ρ M).contains a
theorem nH:a∈gL ρ M G↔a∈G\/(a∈M/\a∉mL ρ M):=by
 unfold gL
 rw[bu,Fb]
 simp
theorem BO:∀a,a∈mL ρ M\/a∈gL ρ M G->a∈M\/a∈G\/H a=none:=λa h=>h.elim (λz=>.inl (wQ z)) λz=>(nH.mp z).elim (λz=>.inr (.inl z)) λz=>.inl z.1
theorem cQ.dn(en:∀i∈ρ,i<M.length)(hd:inD ρ d=true)(q:cQ (Y.z G) M H d v):cQ (Y.z (gL ρ M G)) (mL ρ M) H (Ya ρ d) v:=by
 cases d with
 |p x=>exact bL.fr BO q
 |r i=>
  obtain⟨a,h1,h2⟩:=q
  have hi:=dM.mp hd
  refine⟨a,?_,h2⟩
  rw[(tQ en).2,B6 hi];exact h1
theorem cC.dn(en:∀i∈ρ,i<M.length):∀{ds:List Dv}{vs:List V},DU ρ ds=true->cC (Y.z G) M H ds vs->cC (Y.z (gL ρ M G)) (mL ρ M) H (ds.map (Ya ρ)) vs
 | [],[],_,_=>trivial
 | [],_::_,_,q=>q
 |_::_,[],_,q=>q
 |_::_,_::_,hd,q=>by
  simp only[DU,ay] at hd
  exact⟨q.1.dn en hd.1,cC.dn en hd.2 q.2⟩
theorem bj.dn(r:bj (Y.z G) M H h)(hρ:ρ.Nodup)(e:lh ρ h ρ=some l):bj (Y.z (gL ρ M G)) (mL ρ M) H l/\∀i∈ρ,i<M.length:=by
 obtain⟨hl,hk⟩:=G3 e
 have en:∀i∈ρ,i<M.length:=λi hi=>by
  obtain⟨k,e⟩:=uw hi
  obtain⟨o,ho,_⟩:=hk k i e
  rw[r.ln];exact(aw.mp ho).1
 refine⟨⟨Xp r.nd hρ,λa ha z=>(nH.mp z).elim (r.dj a (wQ ha)) λz=>z.2 ha,by rw[(tQ en).1,hl],λb hb=>?_,λk a o h1 h2=>?_⟩,en⟩
 ·rcases nH.mp hb with z|z
  ·exact r.gs b z
  ·obtain⟨o,e,_⟩:=r.there z.1;exact⟨o,e⟩
 ·rw[(tQ en).2] at h1
  cases hi:ρ[k]? with
  |none=>rw[hi] at h1;cases h1
  |some i=>
   rw[hi] at h1
   obtain⟨o',ho,hin,hl'⟩:=hk k i hi
   rw[hl'] at h2;cases h2
   have q:=r.ob i a o' h1 ho
   cases o' with
   |lst xs=>obtain⟨vs,e,q⟩:=q;exact⟨vs,e,aJ.fr BO q⟩
   |vj xs=>obtain⟨vs,e,q⟩:=q;exact⟨vs,e,q.dn en hin⟩
   |dct ks us=>obtain⟨kvs,e,q,q'⟩:=q;exact⟨kvs,e,aJ.fr BO q,aJ.fr BO q'⟩
   |ins C fs=>obtain⟨dx,fv,e,n,lq,q⟩:=q;exact⟨dx,fv,e,n,by rw[ah];exact lq,q.dn en hin⟩
theorem CW:∀a,a∉mL ρ M++L->a∉gL ρ M G->a∉M++L/\a∉G:=λa h1 h2=>
 ⟨λz=>(bu.mp z).elim (λz=>h2 (nH.mpr (.inr ⟨z,λy=>h1 (dO _ y)⟩))) λz=>h1 (aM _ z),λz=>h2 (nH.mpr (.inl z))⟩
theorem cQ.up(en:∀i∈ρ,i<M.length)(q:cQ (Y.z (gL ρ M G)) (mL ρ M++L) H d v):cQ (Y.z G) (M++L) H (UY ρ M.length d) v:=by
 cases d with
 |p x=>exact bL.up CW q
 |r k=>
  obtain⟨a,h1,h2⟩:=q
  have ml:=tQ en
  have eb:UY ρ M.length (.r k)=(match ρ[k]? with
   |some i=>.r i
   |none=>.r (M.length+(k-ρ.length))):=rfl
  rw[eb]
  by_cases hk:k<ρ.length
  ·rw[aV (by rw[ml.1];exact hk),ml.2] at h1
   cases hi:ρ[k]? with
   |none=>rw[hi] at h1;cases h1
   |some i=>
    rw[hi] at h1
    exact⟨a,by rw[aV (aw.mp h1).1];exact h1,h2⟩
  ·rw[bg (by rw[ml.1];lia),ml.1] at h1
   rw[jY (l:=ρ) (by lia)]
   refine⟨a,?_,h2⟩
   rw[bg (by lia),show M.length+(k-ρ.length)-M.length=k-ρ.length by lia]
   exact h1
theorem cC.up{L:List Addr}(en:∀i∈ρ,i<M.length):∀{ds:List Dv}{vs:List V},cC (Y.z (gL ρ M G)) (mL ρ M++L) H ds vs->cC (Y.z G) (M++L) H (ds.map (UY ρ M.length)) vs
 | [],[],_=>trivial
 | [],_::_,q=>q
 |_::_,[],q=>q
 |_::_,_::_,q=>⟨q.1.up en,cC.up en q.2⟩
theorem vL.up(en:∀i∈ρ,i<M.length){o:Ob}(q:vL (Y.z (gL ρ M G)) (mL ρ M++L) H a o):vL (Y.z G) (M++L) H a (Qv ρ M.length o):=by
 cases o with
 |lst xs=>obtain⟨vs,e,q⟩:=q;exact⟨vs,e,aJ.up CW q⟩
 |vj xs=>obtain⟨vs,e,q⟩:=q;exact⟨vs,e,q.up en⟩
 |dct ks us=>obtain⟨kvs,e,q,q'⟩:=q;exact⟨kvs,e,aJ.up CW q,aJ.up CW q'⟩
 |ins C fs=>obtain⟨dx,fv,e,n,lq,q⟩:=q;exact⟨dx,fv,e,n,by rw[ah];exact lq,q.up en⟩
theorem Ce{ρ0:List Nat}{n:Nat}:∀{ρ:List Nat}{os h:Hs},ρ.Nodup->ρ.length<=os.length->(∀i∈ρ,i<h.length) ->
  (OZ ρ0 n ρ os h).length=h.length+(os.length-ρ.length)/\∀(j:Nat) o,(OZ ρ0 n ρ os h)[j]?=some o ->
   (∃(k:Nat) (o':Ob),ρ[k]?=some j/\os[k]?=some o'/\o=Qv ρ0 n o')\/(j∉ρ/\h[j]?=some o)\/∃o':Ob,h.length<=j/\os[ρ.length+(j-h.length)]?=some o'/\o=Qv ρ0 n o'
 | [],os,h,_,_,_=>by
  have hm:OZ ρ0 n [] os h=h++os.map (Qv ρ0 n):=by cases os with
   |nil=>rw[eR,bS];rfl
   |cons _ _=>rfl
  rw[hm]
  refine⟨by rw[ai,ah];rfl,λj o e=>?_⟩
  by_cases hj:j<h.length
  ·rw[aV hj] at e
   exact .inr (.inl ⟨by simp,e⟩)
  ·rw[bg (by lia),bP] at e
   cases hq:os[j-h.length]? with
   |none=>rw[hq] at e;cases e
   |some o'=>
    rw[hq] at e;cases e
    exact .inr (.inr ⟨o',by lia,by rw[E9,Vn];exact hq,rfl⟩)
 |i::r,[],h,_,hl,_=>by simp at hl
 |i::r,o1::os,h,hn,hl,en=>by
  unfold OZ
  rw[cA] at hn
  obtain⟨a,b⟩:=Ce (ρ0:=ρ0) (n:=n) (ρ:=r) (os:=os) (h:=h.set i (Qv ρ0 n o1)) hn.2 (by simpa using hl) (λj hj=>by rw[c8];exact en j (ax _ hj))
  rw[c8] at a
  refine⟨by rw[a,aF,aF];lia,λj o e=>?_⟩
  rcases b j o e with ⟨k,o',h1,h2,h3⟩|⟨h1,h2⟩|⟨o',h1,h2,h3⟩
  ·exact .inl ⟨k+1,o',h1,h2,h3⟩
  ·by_cases hj:j=i
   ·subst hj
    rw[cx (en j aL)] at h2
    cases h2
    exact .inl ⟨0,o1,rfl,rfl,rfl⟩
   ·rw[dc (cR hj)] at h2
    exact .inr (.inl ⟨λz=>(aN.mp z).elim hj h1,h2⟩)
  ·rw[c8] at h1 h2
   refine .inr (.inr ⟨o',h1,?_,h3⟩)
   rw[aF,show r.length+1+(j-h.length)=(r.length+(j-h.length))+1 by lia,dS]
   exact h2
theorem bj.up(r:bj (Y.z G) M H h)(hρ:ρ.Nodup)(en:∀i∈ρ,i<M.length)(e:Ext (mL ρ M) H (mL ρ M++L) H')(r':bj (Y.z (gL ρ M G)) (mL ρ M++L) H' l'):Ext M H (M++L) H'/\bj (Y.z G) (M++L) H' (OZ ρ M.length ρ l' h):=by
 have ml:=tQ en
 have hl':(mL ρ M++L).length=l'.length:=r'.ln
 rw[ai,ml.1] at hl'
 have ex:Ext M H (M++L) H':=by
  refine⟨⟨L,rfl⟩,λb o n hb=>e.keep b o (λz=>n (wQ z)) hb,λb hb n=>?_⟩
  rcases bu.mp hb with z|z
  ·exact absurd z n
  ·exact e.new b (aM _ z) λz=>n (wQ z)
 have ndL:∀a∈L,a∉M:=λa ha hM=>by
  by_cases z:a∈mL ρ M
  ·exact(dW.mp r'.nd).2.2 a z a ha rfl
  ·have h1:=e.new a (aM _ ha) z
   obtain⟨o,h2,_⟩:=r.there hM
   rw[h1] at h2;cases h2
 obtain⟨a,b⟩:=Ce (ρ0:=ρ) (n:=M.length) (ρ:=ρ) (os:=l') (h:=h) hρ (by lia) (λi hi=>by rw[<-r.ln];exact en i hi)
 refine⟨ex,⟨dW.mpr ⟨r.nd,(dW.mp r'.nd).2.1,λx hx y hy z=>ndL y hy (z▸hx)⟩,λx hx=>(bu.mp hx).elim (r.dj x) λy z=>r'.dj x (aM _ y) (nH.mpr (.inl z)),by rw[a,ai,<-r.ln];lia,λx hx=>r'.gs x (nH.mpr (.inl hx)),λj c o h1 h2=>?_⟩⟩
 rcases b j o h2 with ⟨k,o',k1,k2,rfl⟩|⟨k1,k2⟩|⟨o',k1,k2,rfl⟩
 ·have hj:=en j (aS k1)
  rw[aV hj] at h1
  have hk:k<(mL ρ M).length:=by rw[ml.1];exact(aw.mp k1).1
  exact(r'.ob k c o' (by rw[aV hk,ml.2,k1];exact h1) k2).up en
 ·have hj:j<M.length:=by rw[r.ln];exact(aw.mp k2).1
  rw[aV hj] at h1
  have q:=r.ob j c o h1 k2
  have hc:c∉mL ρ M:=λz=>by
   obtain⟨i,hi,e2⟩:=mQ.mp z
   obtain⟨l1,e1⟩:=aw.mp h1
   obtain⟨l2,e2⟩:=aw.mp e2
   have:=(g5 r.nd).mp (e1.trans e2.symm)
   exact k1 (this▸hi)
  exact vL.mv (ex.mv r) (λ_ _=>ex.at) (λu hu=>e.keep c u hc hu) (λdx hd=>ex.keep dx _ (r.no hd rfl) hd) q
 ·rw[bg (by rw[r.ln];exact k1)] at h1
  refine(r'.ob (ρ.length+(j-h.length)) c o' ?_ k2).up en
  rw[bg (by rw[ml.1];lia),ml.1,show ρ.length+(j-h.length)-ρ.length=j-M.length by rw[r.ln];lia]
  exact h1
end
theorem vC{ds:List Dv}{Q:Dv->Hs->Prop}{EV:XK}(r:bj (Y.z G) M H h)(i:cC (Y.z G) M H ds vs)(q:R0 ρ C ds h Q xc)
  (out:∀d h' M' H' v,Ext M H M' H'->bj (Y.z G) M' H' h'->cQ (Y.z G) M' H' d v->Q d h'->QV v H') (exc:∀c h' M' H',Ext M H M' H'->bj (Y.z G) M' H' h'->xc c h'->EV (.ref (Y.t.ca c)) none H'):lL Y C vs H QV EV:=by
 obtain⟨c,q⟩:=bt q
 rw[ay] at c
 have hρ:=Cf c.1
 split at q
 ·exact q.elim
 ·rename_i l hl
  obtain⟨rl,en⟩:=r.dn hρ hl
  refine⟨gL ρ M G,mL ρ M,l,_,_,_,rl,i.dn en c.2,q,λd h' M' H' v e r' i' q'=>?_,λc h' M' H' e r' q'=>?_⟩
  ·obtain⟨L,rfl⟩:=e.pre
   obtain⟨e2,r2⟩:=r.up hρ en e r'
   rw[r.ln] at r2
   have i2:=i'.up en
   rw[r.ln] at i2
   exact out _ _ _ _ v e2 r2 i2 q'
  ·obtain⟨L,rfl⟩:=e.pre
   obtain⟨e2,r2⟩:=r.up hρ en e r'
   rw[r.ln] at r2
   exact exc _ _ _ _ e2 r2 q'
def IT(ρ:List Nat)(C:Ct)(A:Sm):Sm:=λxc σ h Q=>A xc σ h λds h1=>R0 ρ C ds h1 (λd h2=>Q [d] h2) xc
section
variable {a:Expr}{B:Sm}{x:Str}{ps:lS7}
theorem Jk(h:cV (yx t X) E (IT ρ C A) τ H QV):gK (yx t X) E A τ H λvs H1=>lL (yx t X) C vs H1 QV E:=by
 obtain⟨G,M,σ,hs,xc,Q,k,q⟩:=h
 refine⟨G,M,σ,hs,xc,_,⟨k.rel,k.env,λd h' M' H' v e r' i q'=>?_,k.exc⟩,q⟩
 exact vC r' i q' (λd2 h2 M2 H2 w e2 r2 i2 q2=>k.out d2 h2 M2 H2 w (e.trans e2) r2 i2 q2) (λc h2 M2 H2 e2 r2 q2=>k.exc c h2 M2 H2 (e.trans e2) r2 q2)
theorem MW(D:oy X.prog X.w X.K X.mg X.base k x ps (lL (yx t X) C))(hr:fi k X.A)(hp:g8 (zr X.prog X.w) X E)(hg:Gl X x)(ha:PA X (a::rest) (gK (yx t X) E A))(jT:(x == ("__debug__":Str))=false)(eo:(a::rest).all bY=true) :
  PE X (.Call (.Name x p) (a::rest) [] pos) (cV (yx t X) E (IT ρ C A)):=(Cp D hr hp hg ha jT eo).imp λ_ _ _=>Jk
end
def sNx:Ss:=λN σ h=>N.nx σ h
def TQ(m n:Ss):Ss:=λN σ h=>m {N with nx:=λσ' h'=>n N σ' h'} σ h
def Pr(m n:Ss):Ss:=λN σ h=>∃R:Es->Hs->Prop,m {N with nx:=R} σ h/\∀σ' h',R σ' h'->n N σ' h'
def sBk:Ss:=λN σ h=>N.bk σ h
def sCt:Ss:=λN σ h=>N.ct σ h
def sEx(A:Sm):Ss:=λN σ h=>A N.xc σ h λ_ h1=>N.nx σ h1
def Yh(A:Sm):Ss:=λN σ h=>A N.xc σ h λxs h1=>match xs with
 | [d]=>N.rt d h1
 |_=>False
def sIf(T:Sm)(m n:Ss):Ss:=λN σ h=>T N.xc σ h λxs h1=>match xs with
 | [.p (.bl b)]=>br b (m N σ h1) (n N σ h1)
 |_=>False
def NF(i:Nat)(A:Sm):Ss:=λN σ h=>A N.xc σ h λxs h1=>match xs with
 | [d]=>N.nx (σ.set i (some d)) h1
 |_=>False
noncomputable def qt:List Nat->List Pv->Es->Option Es
 | [],[],σ=>some σ
 |i::is,x::xs,σ=>qt is xs (σ.set i (some (.p x)))
 |_,_,_=>none
def Yi(is:List Nat)(A:Sm):Ss:=λN σ h=>A N.xc σ h λxs h1=>match xs with
 | [.p (.tup ys)]=>match qt is ys σ with
  |some σ'=>N.nx σ' h1
  |none=>False
 |_=>False
def IZ(C:Nat)(A:Sm):Ss:=λN σ h=>A N.xc σ h λ_ h1=>N.xc C h1
section
variable {st:Stmt}{rest sa sb:List Stmt}{a:Expr}{B:Sm}{m n:Ss}
theorem Qi.QX(k:Qi Z E τ H D M σ h N)(e:Ext M H M' H'):∀C h1 M1 H1,Ext M' H' M1 H1->bj Z M1 H1 h1->N.xc C h1->E (.ref (Z.ca C)) none H1:=λC h1 M1 H1 x r q=>k.exc C h1 M1 H1 (e.trans x) r q
theorem Qi.go{τ':L2.St}(k:Qi Z E τ H D M σ h N)(e:Ext M H M' H')(r:bj Z M' H' h')(v:d8 Z M' H' σ' τ'):Qi Z E τ' H' D M' σ' h' N:=
 ⟨r,v,λ_ _ _ _ _ x=>k.nx _ _ _ _ _ (e.trans x),λ_ _ _ _ _ x=>k.rt _ _ _ _ _ (e.trans x),λ_ _ _ _ _ x=>k.bk _ _ _ _ _ (e.trans x),λ_ _ _ _ _ x=>k.ct _ _ _ _ _ (e.trans x),k.QX e⟩
theorem Nc:nj X [] (fO (yx t X) E sNx):=Cw.imp λD τ H ⟨G,M,σ,h,N,k,q⟩=>k.nx σ h M H τ Ext.refl k.rel k.env q
theorem TV(h:fO (yx t X) E (TQ m n) D τ H):YG (fO (yx t X) E m) (fO (yx t X) E n) D τ H:=by
 obtain⟨G,M,σ,h,N,k,q⟩:=h
 exact⟨G,M,σ,h,{N with nx:=λσ' h'=>n N σ' h'},⟨k.rel,k.env,λσ' h' M' H' τ' e r v q=>⟨G,M',σ',h',N,k.go e r v,q⟩,k.rt,k.bk,k.ct,k.exc⟩,q⟩
theorem Ic(h1:PS X st (fO (yx t X) E m))(h2:nj X rest (fO (yx t X) E n)):nj X (st::rest) (fO (yx t X) E (TQ m n)):=(jr h1 h2).imp λ_ _ _=>TV
theorem Nb(h1:PS X st (fO (yx t X) E m))(h2:nj X rest (fO (yx t X) E n)):nj X (st::rest) (fO (yx t X) E (Pr m n)):=(jr h1 h2).imp λD τ H ⟨G,M,σ,h,N,k,R,q,i⟩=>
 ⟨G,M,σ,h,{N with nx:=R},⟨k.rel,k.env,λσ' h' M' H' τ' e r v q=>⟨G,M',σ',h',N,k.go e r v,i _ _ q⟩,k.rt,k.bk,k.ct,k.exc⟩,q⟩
theorem Nd(h1:PS X st (fO (yx t X) E m)):nj X [st] (fO (yx t X) E m):=jN h1
theorem S9:PS X (.Break pos) (fO (yx t X) E sBk):=Iv.imp λD τ H ⟨G,M,σ,h,N,k,q⟩=>k.bk σ h M H τ Ext.refl k.rel k.env q
theorem Ta:PS X (.Continue pos) (fO (yx t X) E sCt):=yF.imp λD τ H ⟨G,M,σ,h,N,k,q⟩=>k.ct σ h M H τ Ext.refl k.rel k.env q
theorem Td(he:PE X e (cV (yx t X) E A))(hs:ac2 e none pos.line X.env=pure false):PS X (.Expr e pos) (fO (yx t X) E (sEx A)):=(rP he hs).imp λD τ H ⟨G,M,σ,h,N,k,q⟩=>
 ⟨G,M,σ,h,N.xc,_,⟨k.rel,k.env,λd h' M' H' v e r i q=>k.nx σ h' M' H' τ e r (k.env.ext k.rel e) q,k.exc⟩,q⟩
theorem Nf(he:PE X e (cV (yx t X) E A)):PS X (.Return (some e) pos) (fO (yx t X) E (Yh A)):=(tX he).imp λD τ H ⟨G,M,σ,h,N,k,q⟩=>
 ⟨G,M,σ,h,N.xc,_,⟨k.rel,k.env,λd h' M' H' v e r i q=>k.rt d h' M' H' v e r i q,k.exc⟩,q⟩
theorem Te(hc:PT X c (kU (yx t X) E T))(ha:nj X sa (fO (yx t X) E m))(hb:nj X sb (fO (yx t X) E n)):PS X (.If c sa sb pos) (fO (yx t X) E (sIf T m n)):=(Pg hc ha hb).imp λD τ H ⟨G,M,σ,h,N,k,q⟩=>by
 refine⟨G,M,σ,h,N.xc,_,⟨k.rel,k.env,λd h' M' H' e r' q'=>?_,k.exc⟩,q⟩
 split at q'
 ·rename_i b he
  injection he with he
  refine⟨b,he,?_⟩
  cases b with
  |true=>exact⟨G,M',σ,h',N,k.go e r' (k.env.ext k.rel e),q'⟩
  |false=>exact⟨G,M',σ,h',N,k.go e r' (k.env.ext k.rel e),q'⟩
 ·exact q'.elim
theorem Ng(hs:∀te,PE X e te->PS X st (yN te (lW i)))(he:PE X e (cV (yx t X) E A)):PS X st (fO (yx t X) E (NF i A)):=(hs _ he).imp λD τ H ⟨G,M,σ,h,N,k,q⟩=>
 ⟨G,M,σ,h,N.xc,_,⟨k.rel,k.env,λd h' M' H' v e r i q=>k.nx _ h' M' H' _ e r ((k.env.ext k.rel e).set i) q,k.exc⟩,q⟩
def Gb:List Nat->Oz
 | []=>Wh
 |i::is=>OO (lW i) (Gb is)
theorem zx{Z:Tx}{M:List Addr}{H:Hp}{R:L2.St->Hp->Prop}:∀{is:List Nat}{ys:List Pv}{vs:List V}{σ σ':Es}{τ:L2.St},qt is ys σ=some σ'->aJ Z M H ys vs->d8 Z M H σ τ->(∀τ',d8 Z M H σ' τ'->R τ' H)->Gb is vs τ H R
 | [],[],[],σ,σ',τ,e,_,v,q=>by cases e;exact⟨rfl,q τ v⟩
 | [],[],_::_,_,_,_,_,h,_,_=>by unfold aJ at h;exact h.elim
 | [],_::_,_,_,_,_,e,_,_,_=>by cases e
 |_::_,[],_,_,_,_,e,_,_,_=>by cases e
 |_::_,_::_,[],_,_,_,_,h,_,_=>by unfold aJ at h;exact h.elim
 |i::is,y::ys,w::vs,σ,σ',τ,e,h,v,q=>by
  unfold aJ at h
  exact⟨w,vs,rfl,zx (is:=is) (ys:=ys) e h.2 (v.set (i:=i) (d:=.p y) h.1) q⟩
theorem aJ.len{Z:Tx}{M:List Addr}{H:Hp}:∀{ys:List Pv}{vs:List V},aJ Z M H ys vs->ys.length=vs.length
 | [],[],_=>rfl
 | [],_::_,h=>by unfold aJ at h;exact h.elim
 |_::_,[],h=>by unfold aJ at h;exact h.elim
 |_::_,_::_,h=>by
  unfold aJ at h
  rw[aF,aF,aJ.len h.2]
theorem nY:∀{is:List Nat}{ys:List Pv}{σ σ':Es},qt is ys σ=some σ'->ys.length=is.length
 | [],[],_,_,_=>rfl
 | [],_::_,_,_,e=>by cases e
 |_::_,[],_,_,e=>by cases e
 |_::is,_::ys,_,_,e=>by rw[aF,aF,nY (is:=is) (ys:=ys) e]
theorem Nh{is:List Nat}(hs:∀te,PE X e te->PS X st (yN te (Q6 X.K is.length (Gb is))))(he:PE X e (cV (yx t X) E A)):PS X st (fO (yx t X) E (Yi is A)):=(hs _ he).imp λD τ H ⟨G,M,σ,h,N,k,q⟩=>by
 refine⟨G,M,σ,h,N.xc,_,⟨k.rel,k.env,λd h' M' H' v e r i q=>?_,k.exc⟩,q⟩
 split at q
 ·rename_i ys hd
  injection hd with hd
  subst hd
  split at q
  ·rename_i σ' hσ
   unfold cQ bL at i
   obtain⟨a,vs,rfl,s,i⟩:=i
   refine⟨a,vs,rfl,s,by rw[<-i.len];exact nY hσ,?_⟩
   exact zx hσ i (k.env.ext k.rel e) λτ' v=>k.nx σ' h' M' H' τ' e r v q
  ·exact q.elim
 ·exact q.elim
theorem Eu{C:Nat}(hs:∀te,PE X e te->PS X st (Jq E (t.ca C) te))(he:PE X e (cV (yx t X) E A)):PS X st (fO (yx t X) E (IZ C A)):=(hs _ he).imp λD τ H ⟨G,M,σ,h,N,k,q⟩=>
 ⟨G,M,σ,h,N.xc,_,⟨k.rel,k.env,λd h' M' H' v e r i q=>k.exc C h' M' H' e r q,k.exc⟩,q⟩
end
abbrev Im:=XP->Es->Hs->(List Pv->Hs->Prop)->Prop
inductive Tg where
 |one (i:Nat)|many (is:List Nat)
def Zg:Tg->Pv->Es->Option Es
 |.one i,x,σ=>some (σ.set i (some (.p x)))
 |.many is,.tup ys,σ=>qt is ys σ
 |.many _,_,_=>none
def Wi(K:Frag):Tg->TG
 |.one i=>lW i
 |.many is=>Q6 K is.length (Gb is)
theorem Wk{R:L2.St->Hp->Prop}(e:Zg tg x σ=some σ')(i:bL Z M H x v)(r:d8 Z M H σ τ)(q:∀τ',d8 Z M H σ' τ'->R τ' H):Wi Z.K tg v τ H R:=by
 cases tg with
 |one j=>
  cases e
  exact q _ (r.set (d:=.p x) i)
 |many is=>
  cases x with
  |tup ys=>
   unfold bL at i
   obtain⟨a,vs,rfl,s,i⟩:=i
   exact⟨a,vs,rfl,s,by rw[<-i.len];exact nY e,zx e i r q⟩
  |_=>cases e
def Qh(Y:T0)(G:List Addr)(M:List Addr)(H:Hp)(J:It)(xs:List Pv):Prop:=∀G' M' H' h',(∀b∈G',b∈G\/H b=none)->Ext M H M' H'->bj (Y.z G') M' H' h' ->
 (∀(i:Nat) x,xs[i]?=some x->J.go i H'/\∀v yW,J.Vi i H' v yW->Ext M' H' M' yW/\bj (Y.z G') M' yW h'/\bL (Y.z G') M' yW x v)/\J.stop xs.length H'
structure KnI (Y:T0) (G:List Addr) (E:XK) (τ:L2.St) (H:Hp) (R:It->Hp->Prop) (M:List Addr) (σ:Es) (h:Hs) (xc:XP) (Q:List Pv->Hs->Prop):Prop where
 rel:bj (Y.z G) M H h
 env:d8 (Y.z G) M H σ τ
 out:∀xs h' M' H' J,Ext M H M' H'->bj (Y.z G) M' H' h'->Qh Y G M' H' J xs->xs.length<=sizeLine->Q xs h'->R J H'
 exc:∀C h' M' H',Ext M H M' H'->bj (Y.z G) M' H' h'->xc C h'->E (.ref (Y.t.ca C)) none H'
inductive uO (Y:T0) (E:XK) (m:Im) (τ:L2.St) (H:Hp) (R:It->Hp->Prop):Prop
 |mk (G M:List Addr) (σ:Es) (h:Hs) (xc:XP) (Q:_) (k:KnI Y G E τ H R M σ h xc Q) (q:m xc σ h Q):uO Y E m τ H R
def zL(k:Nat)(R:Es->Hs->Prop):Es->Hs->Prop:=λσ h=>gd (bH k (h.take k)) (R (KG k σ) (h.take k))
@[irreducible] def Lf (k:Nat) (xs:List Pv) (a:Pv->Es->Option Es) (b:Ss) (N:En) (σ:Es) (h:Hs):Prop:=∃W:Nat->Es->Hs->Prop,W 0 σ h /\
 (∀(i:Nat) x σ' h',xs[i]?=some x->W i σ' h'->match a x σ' with
  |some σ2=>b {N with nx:=zL k (W (i+1)),ct:=zL k (W (i+1)),bk:=zL k N.nx} σ2 h'
  |none=>False)/\∀σ' h',W xs.length σ' h'->N.nx σ' h'
def Ye(tg:Tg)(I:Im)(b:Ss):Ss:=λN σ h=>I N.xc σ h λxs h1=>Lf h1.length xs (Zg tg) b N σ h1
section
variable {st:Stmt}{I:Im}{b:Ss}
theorem zN{R:Es->Hs->Prop}(r0:bj Z M H h)(e:Ext M H M' H')(r:bj Z M' H' h')(v:d8 Z M' H' σ τ)(q:zL h.length R σ h') :
  ∃h2 σ2,Ext M H M H'/\bj Z M H' h2/\d8 Z M H' σ2 τ/\R σ2 h2:=by
 obtain⟨c,q⟩:=bt q
 have hM:M'.take h.length=M:=by
  obtain⟨l,rfl⟩:=e.pre
  rw[<-r0.ln,J9]
 have e2:=e.cut (k:=h.length) (by rw[r0.ln];exact au _)
 have r2:=r.cut h.length c
 have v2:=v.cut r h.length
 rw[hM] at e2 r2 v2
 exact⟨_,_,e2,r2,v2,q⟩
theorem Q0(h:fO (yx t X) E (Ye tg I b) D τ H):Ui (uO (yx t X) E I) (Wi X.K tg) (fO (yx t X) E b) D τ H:=by
 obtain⟨G,M,σ,h0,N,k,q⟩:=h
 refine⟨G,M,σ,h0,N.xc,_,⟨k.rel,k.env,λxs h1 M1 H1 J e1 r1 jo hz q=>?_,k.exc⟩,q⟩
 unfold Lf at q
 obtain⟨W,w0,turn,fin⟩:=q
 refine⟨λi m τ' H'=>m=xs.length-i/\i<=xs.length/\∃σ' h',Ext M1 H1 M1 H'/\bj ((yx t X).z G) M1 H' h'/\d8 ((yx t X).z G) M1 H' σ' τ'/\W i σ' h',⟨_,rfl,cI _,σ,h1,Ext.refl,r1,k.env.ext k.rel e1,w0⟩,?_⟩
 rintro i _ τ' H' ⟨rfl,hi,σ',h',e2,r2,v2,w⟩
 obtain⟨ja,jb⟩:=jo G M1 H' h' (λ_ z=>.inl z) e2 r2
 by_cases qd:i<xs.length
 ·obtain⟨g,y⟩:=ja i xs[i] (aK qd)
  refine .inr ⟨g,λτ2 H2=>∃m',m'<xs.length-i/\m'=xs.length-(i+1)/\i+1<=xs.length/\∃σ' h',Ext M1 H1 M1 H2/\bj ((yx t X).z G) M1 H2 h'/\d8 ((yx t X).z G) M1 H2 σ' τ2/\W (i+1) σ' h',λτ2 H2 ⟨m',hm,z⟩=>⟨m',hm,z⟩,λv yW yl=>?_⟩
  obtain⟨e3,r3,ip⟩:=y v yW yl
  have q:=turn i xs[i] σ' h' (aK qd) w
  split at q
  ·rename_i σ2 hσ
   refine Wk hσ ip (v2.ext r2 e3) λτ2 v4=>?_
   have Wa:=e2.trans e3
   refine⟨G,M1,σ2,h',_,⟨r3,v4,?_,?_,?_,?_,?_⟩,q⟩
   ·intro σ5 h5 M5 H5 τ5 e5 r5 v5 q5
    obtain⟨h6,σ6,e6,r6,v6,q6⟩:=zN r1 (Wa.trans e5) r5 v5 q5
    exact⟨_,by lia,rfl,by lia,σ6,h6,e6,r6,v6,q6⟩
   ·exact λd h5 M5 H5 v e5 r5 i5 q5=>k.rt d h5 M5 H5 v (e1.trans (Wa.trans e5)) r5 i5 q5
   ·intro σ5 h5 M5 H5 τ5 e5 r5 v5 q5
    obtain⟨h6,σ6,e6,r6,v6,q6⟩:=zN r1 (Wa.trans e5) r5 v5 q5
    exact k.nx σ6 h6 M1 H5 τ5 (e1.trans e6) r6 v6 q6
   ·intro σ5 h5 M5 H5 τ5 e5 r5 v5 q5
    obtain⟨h6,σ6,e6,r6,v6,q6⟩:=zN r1 (Wa.trans e5) r5 v5 q5
    exact⟨_,by lia,rfl,by lia,σ6,h6,e6,r6,v6,q6⟩
   ·exact λC h5 M5 H5 e5 r5 q5=>k.exc C h5 M5 H5 (e1.trans (Wa.trans e5)) r5 q5
  ·exact q.elim
 ·have hx:i=xs.length:=by lia
  subst hx
  exact .inl ⟨jb,k.nx σ' h' M1 H' τ' (e1.trans e2) r2 v2 (fin σ' h' w)⟩
theorem aJ.get:∀{xs:List Pv}{vs:List V}{i:Nat}{x:Pv},aJ Z M H xs vs->xs[i]?=some x->∃v,vs[i]?=some v/\bL Z M H x v
 | [],_,_,_,_,e=>by simp at e
 |_::_,[],_,_,h,_=>by unfold aJ at h;exact h.elim
 |_::_,v::_,0,_,h,e=>by
  unfold aJ at h
  cases e;exact⟨v,rfl,h.1⟩
 |_::_,_::_,i+1,_,h,e=>by
  unfold aJ at h
  obtain⟨w,h1,h2⟩:=aJ.get (i:=i) h.2 (by simpa using e)
  exact⟨w,by simpa using h1,h2⟩
theorem PV(hg:∀b∈G',b∈G\/H b=none):∀a,a∈M\/a∈G'->a∈M\/a∈G\/H a=none:=λa h=>h.elim .inl λz=>.inr (hg a z)
theorem bL.wk(hg:∀b∈G',b∈G\/H b=none)(h:bL (Y.z G) M H x v):bL (Y.z G') M H x v:=bL.fr (PV hg) h
theorem aJ.wk(hg:∀b∈G',b∈G\/H b=none){x:List Pv}{v:List V}(h:aJ (Y.z G) M H x v):aJ (Y.z G') M H x v:=aJ.fr (PV hg) h
theorem Xc(r:bj (Y.z G) M H h)(na:a∉M)(s:Rd H a (.lst vs))(q:aJ (Y.z G) M H xs vs):Qh Y G M H (x_ Y.K a) xs:=λG' M' H' h' hg e r'=>by
 have s':gq Y.K H' a vs:=.inl ((e.mv r).rd na s)
 have q':=aJ.mv (e.mv r) (aJ.wk hg q)
 refine⟨λi x hx=>?_,⟨vs,s',by rw[q.len];exact au _⟩⟩
 obtain⟨v,hv,hi⟩:=q'.get hx
 refine⟨⟨vs,v,s',hv⟩,λw yW ⟨e2,y⟩=>?_⟩
 subst e2
 have hw:=y vs s'
 rw[hv] at hw;cases hw
 exact⟨Ext.refl,r',hi⟩
theorem Xf(r:bj (Y.z G) M H h)(s:el Y.K H a vs)(q:aJ (Y.z G) M H xs vs):Qh Y G M H (JT Y.K a) xs:=λG' M' H' h' hg e r'=>by
 have s':el Y.K H' a vs:=(e.mv r).Yp s
 have q':=aJ.mv (e.mv r) (aJ.wk hg q)
 refine⟨λi x hx=>?_,⟨vs,s',by rw[q.len];exact au _⟩⟩
 obtain⟨v,hv,hi⟩:=q'.get hx
 refine⟨⟨vs,v,s',hv⟩,λw yW ⟨e2,y⟩=>?_⟩
 subst e2
 have hw:=y vs s'
 rw[hv] at hw;cases hw
 exact⟨Ext.refl,r',hi⟩
noncomputable def kP(lo:Int)(n:Nat):List Pv:=(List.range n).map λ(i:Nat)=>.int (lo+i)
theorem Xd{lo:Int}:Qh Y G M H (Zc lo n) (kP lo n):=λG' M' H' h' hg e r'=>by
 refine⟨λi x hx=>?_,show n<=(kP lo n).length by unfold kP;rw[ah,dU];exact au _⟩
 unfold kP at hx
 rw[bP] at hx
 by_cases hi:i<n
 ·rw[abN hi] at hx
  cases hx
  refine⟨hi,λw yW ⟨e2,y⟩=>?_⟩
  subst e2 y
  exact⟨Ext.refl,r',by unfold bL;rfl⟩
 ·rw[jY (by rw[dU];lia)] at hx;cases hx
noncomputable def kg(n:Nat)(js:List Nat)(σ:Es):Es:=List.replicate n none++js.map λj=>(σ[j]?).join
def KR(k:Nat)(R:Hs->Prop):Hs->Prop:=λh=>gd (bH k (h.take k)) (R (h.take k))
def N2(n:Nat):Tg->Bool
 |.one i=>decide (i<n)
 |.many is=>is.all λi=>decide (i<n)
@[irreducible] def uE (h1:Hs) (xs:List Pv) (e:Pv->Option Es) (T A:Es->Hs->KP->Prop) (Q:List Pv->Hs->Prop):Prop:=∃W:Nat->List Pv->Hs->Prop,W 0 [] h1 /\
 (∀(i:Nat) y acc h',xs[i]?=some y->W i acc h'->match e y with
  |some σ2=>T σ2 h' λbs h2=>match bs with
   | [.p (.bl b)]=>br b (A σ2 h2 λys h3=>match ys with
    | [.p y]=>KR h1.length (W (i+1) (acc ++ [y])) h3
    |_=>False) (KR h1.length (W (i+1) acc) h2)
   |_=>False
  |none=>False)/\∀acc h',W xs.length acc h'->Q acc h'
def IV(n:Nat)(js:List Nat)(tg:Tg)(I:Im)(T A:Sm)(x:Bool):Sm:=λxc σ h Q=>I xc σ h λxs h1=>uE h1 xs (λy=>Zg tg y (kg n js σ)) (T λc h=>x=true/\xc c h) (A λc h=>x=true/\xc c h) λacc h'=>Q [.p (.lst acc)] h'
theorem vB{n:Nat}:∀{is:List Nat}{ys:List Pv}{σ σ':Es},(is.all λi=>decide (i<n))=true->qt is ys σ=some σ'->σ'.length=σ.length/\∀i,n<=i->σ'[i]?=σ[i]?
 | [],[],_,_,_,e=>by cases e;exact⟨rfl,λ_ _=>rfl⟩
 | [],_::_,_,_,_,e=>by cases e
 |_::_,[],_,_,_,e=>by cases e
 |j::is,y::ys,σ,σ',h,e=>by
  rw[aB,ay] at h
  obtain⟨a,b⟩:=vB (is:=is) (ys:=ys) h.2 e
  refine⟨by rw[a,c8],λi hi=>?_⟩
  have hj:j<n:=aX h.1
  rw[b i hi,dc (by lia)]
theorem Qq(h:N2 n tg=true)(e:Zg tg x σ=some σ'):σ'.length=σ.length/\∀i,n<=i->σ'[i]?=σ[i]? :=by
 cases tg with
 |one j=>
  cases e
  have hj:j<n:=aX h
  exact⟨by rw[c8],λi hi=>by rw[dc (by lia)]⟩
 |many is=>
  cases x with
  |tup ys=>exact vB h e
  |_=>cases e
theorem FH(v:d8 Z M H σ τ)(n:Nat)(js:List Nat):d8 Z M H (kg n js σ) (qw n js τ):=by
 refine⟨by unfold kg qw;rw[ai,ai,ah,ah,bV,bV],λi d hd=>?_⟩
 unfold kg at hd
 unfold qw
 by_cases hi:i<n
 ·rw[aV (by rw[bV];exact hi),fE,bF hi] at hd
  cases hd
 ·rw[bg (by rw[bV];lia),bV,bP] at hd⊢
  cases hj:js[i-n]? with
  |none=>rw[hj] at hd;cases hd
  |some j=>
   rw[hj] at hd
   cases hs:σ[j]? with
   |none=>rw[rn,hs] at hd;cases hd
   |some o=>
    rw[rn,hs] at hd
    have ho:o=some d:=by simpa using hd
    subst ho
    obtain⟨w,h1,h2⟩:=v.at' j d hs
    exact⟨w,by rw[rn,h1];rfl,h2⟩
theorem DA(hl:σ2.length=(kg n js σ).length)(hg:∀i,n<=i->σ2[i]?=(kg n js σ)[i]?)(v:d8 Z M H σ2 τ2):d8 Z M H (kg n js σ) τ2:=by
 refine⟨hl▸v.ln,λi d hd=>?_⟩
 by_cases hi:i<n
 ·unfold kg at hd
  rw[aV (by rw[bV];exact hi),fE,bF hi] at hd
  cases hd
 ·exact v.at' i d (by rw[hg i (by lia)];exact hd)
theorem IJ{u:HO}{b:Addr}(ha:H a=some o)(hb:b≠a)(r:Rd H b u):Rd (upd H a o') b u:=by
 rcases r with r|⟨q,r⟩
 ·exact .inl (by rw[bf hb];exact r)
 ·exact .inr ⟨q,by rw[bf hb];exact r⟩
theorem NN{K:Frag}{b:Addr}(ho:wU o=true)(ha:H a=some o)(s:el K H b vs):el K (upd H a o') b vs:=by
 rcases s with r|r
 ·refine .inl (IJ ha (λz=>?_) r)
  subst z
  rcases r with r|⟨o,r⟩<;>rw[ha] at r<;>cases r<;>cases ho
 ·exact .inr r
mutual
theorem bL.chg{o o':HO}(ho:wU o=true)(hG:a∈G)(ha:H a=some o):∀{x:Pv}{v:V},bL (Y.z G) M H x v->bL (Y.z G) M (upd H a o') x v
 |.non,_,h=>by unfold bL at *;exact h
 |.bl _,_,h=>by unfold bL at *;exact h
 |.int _,_,h=>by unfold bL at *;exact h
 |.str _,_,h=>by unfold bL at *;exact h
 |.fn _,_,h=>by unfold bL at *;exact h
 |.ty _,_,h=>by unfold bL at *;exact h
 |.tup xs,_,h=>by
  unfold bL at *
  obtain⟨b,vs,e,s,q⟩:=h
  exact⟨b,vs,e,NN ho ha s,aJ.chg ho hG ha q⟩
 |.lst xs,_,h=>by
  unfold bL at *
  obtain⟨b,vs,e,n,s,q⟩:=h
  exact⟨b,vs,e,n,by rw[bf (λz:b=a=>n.2 (z▸hG))];exact s,aJ.chg ho hG ha q⟩
 |.scr xs,_,h=>by
  unfold bL at *
  obtain⟨b,vs,e,s,q⟩:=h
  rcases s with ⟨n,s⟩|s
  ·exact⟨b,vs,e,.inl ⟨n,IJ ha (λz=>n.2 (z▸hG)) s⟩,aJ.chg ho hG ha q⟩
  ·exact⟨b,vs,e,.inr s,aJ.chg ho hG ha q⟩
 |.dct ks us,_,h=>by
  unfold bL at *
  obtain⟨b,kvs,e,n,s,q,q'⟩:=h
  exact⟨b,kvs,e,n,by rw[bf (λz:b=a=>n.2 (z▸hG))];exact s,aJ.chg ho hG ha q,aJ.chg ho hG ha q'⟩
 |.obj C fs,_,h=>by
  unfold bL at *
  obtain⟨b,dx,fv,e,n,s,l,q⟩:=h
  exact⟨b,dx,fv,e,n,by rw[bf (λz:b=a=>n.2 (z▸hG))];exact s,l,aJ.chg ho hG ha q⟩
theorem aJ.chg{o o':HO}(ho:wU o=true)(hG:a∈G)(ha:H a=some o):∀{xs:List Pv}{vs:List V},aJ (Y.z G) M H xs vs->aJ (Y.z G) M (upd H a o') xs vs
 | [],[],h=>by unfold aJ at *;trivial
 | [],_::_,h=>by unfold aJ at *;exact h
 |_::_,[],h=>by unfold aJ at *;exact h
 |x::xs,v::vs,h=>by
  unfold aJ at *
  exact⟨bL.chg ho hG ha h.1,aJ.chg ho hG ha h.2⟩
end
theorem cQ.chg(ho:wU o=true)(hG:a∈G)(ha:H a=some o)(q:cQ (Y.z G) M H d v):cQ (Y.z G) M (upd H a o') d v:=by
 cases d with
 |p x=>exact bL.chg ho hG ha q
 |r i=>exact q
theorem cC.chg{o o':HO}(ho:wU o=true)(hG:a∈G)(ha:H a=some o):∀{ds:List Dv}{vs:List V},cC (Y.z G) M H ds vs->cC (Y.z G) M (upd H a o') ds vs
 | [],[],_=>trivial
 | [],_::_,q=>q
 |_::_,[],q=>q
 |_::_,_::_,q=>⟨q.1.chg ho hG ha,cC.chg ho hG ha q.2⟩
theorem d8.chg(ho:wU o=true)(hG:a∈G)(ha:H a=some o)(q:d8 (Y.z G) M H σ τ):d8 (Y.z G) M (upd H a o') σ τ:=⟨q.ln,λi d hd=>
 let ⟨v,hv,q⟩:=q.at' i d hd;⟨v,hv,q.chg ho hG ha⟩⟩
theorem bj.chg(ho:wU o=true)(hG:a∈G)(ha:H a=some o)(nM:a∉M)(r:bj (Y.z G) M H h):bj (Y.z G) M (upd H a o') h:=by
 refine⟨r.nd,r.dj,r.ln,λb hb=>pF (r.gs b hb),λi b q0 h1 h2=>?_⟩
 have hb:b≠a:=λz=>nM (z▸aS h1)
 have q:=r.ob i b q0 h1 h2
 cases q0 with
 |lst xs=>obtain⟨vs,e,q⟩:=q;exact⟨vs,by rw[bf hb];exact e,aJ.chg ho hG ha q⟩
 |vj xs=>obtain⟨vs,e,q⟩:=q;exact⟨vs,by rw[bf hb];exact e,q.chg ho hG ha⟩
 |dct ks us=>obtain⟨kvs,e,q,q'⟩:=q;exact⟨kvs,by rw[bf hb];exact e,aJ.chg ho hG ha q,aJ.chg ho hG ha q'⟩
 |ins C fs=>obtain⟨dx,fv,e,n,l,q⟩:=q;exact⟨dx,fv,by rw[bf hb];exact e,by rw[bf (λz=>by rw[z,ha] at n;cases n;cases ho)];exact n,l,q.chg ho hG ha⟩
theorem cQ.wk(hg:∀b∈G',b∈G\/H b=none)(q:cQ (Y.z G) M H d v):cQ (Y.z G') M H d v:=by
 cases d with
 |p x=>exact bL.wk hg q
 |r i=>exact q
theorem cC.wk{G':List Addr}(hg:∀b∈G',b∈G\/H b=none):∀{ds:List Dv}{vs:List V},cC (Y.z G) M H ds vs->cC (Y.z G') M H ds vs
 | [],[],_=>trivial
 | [],_::_,q=>q
 |_::_,[],q=>q
 |_::_,_::_,q=>⟨q.1.wk hg,cC.wk hg q.2⟩
theorem vL.wk(hg:∀b∈G',b∈G\/H b=none){b:Addr}{o:Ob}(z:vL (Y.z G) M H b o):vL (Y.z G') M H b o:=by
 cases o with
 |lst xs=>obtain⟨vs,e,q⟩:=z;exact⟨vs,e,aJ.wk hg q⟩
 |vj xs=>obtain⟨vs,e,q⟩:=z;exact⟨vs,e,q.wk hg⟩
 |dct ks us=>obtain⟨kvs,e,q,q'⟩:=z;exact⟨kvs,e,aJ.wk hg q,aJ.wk hg q'⟩
 |ins C fs=>obtain⟨dx,fv,e,n,l,q⟩:=z;exact⟨dx,fv,e,n,l,q.wk hg⟩
theorem Aq(hn:H a=none):∀b∈a::G,b∈G\/H b=none:=λb hb=>(aN.mp hb).elim (λz=>.inr (z▸hn)) .inl
theorem Gz:∀b∈G,b∈a::G\/H b=none:=λb hb=>.inl (ax _ hb)
theorem d8.L_(hn:H a=none)(r:bj (Y.z G) M H h)(q:d8 (Y.z G) M H σ τ):d8 (Y.z (a::G)) M (upd H a o) σ τ:=⟨q.ln,λi d hd=>
 let ⟨v,hv,q⟩:=q.at' i d hd;⟨v,hv,(q.wk (Aq hn)).mv ((Ext.add hn).mv r) λ_ _ z=>z⟩⟩
theorem bj.L_(hn:H a=none)(r:bj (Y.z G) M H h):bj (Y.z (a::G)) M (upd H a o) h:=by
 have r2:=r.add (o:=o) hn
 refine⟨r.nd,λb hb z=>(aN.mp z).elim (λz=>r.fresh hn (z▸hb)) (r.dj b hb),r.ln,λb hb=>?_,λi b q h1 h2=>?_⟩
 ·rcases aN.mp hb with z|z
  ·subst z;exact⟨o,bE⟩
  ·exact r2.gs b z
 ·have k:∀{b u},H b=some u->upd H a o b=some u:=λe=>by rw[bf (bB e hn)];exact e
  exact vL.mv ((Ext.add (M:=M) (o:=o) hn).mv r) (λ_ _ z=>z) (λ_=>k) (λ_=>k) ((r.ob i b q h1 h2).wk (Aq hn))
theorem bj.dun(r:bj (Y.z (a::G)) M H h):bj (Y.z G) M H h:=⟨r.nd,λb hb z=>r.dj b hb (ax _ z),r.ln,λb hb=>r.gs b (ax _ hb),λi b q h1 h2=>(r.ob i b q h1 h2).wk Gz⟩
theorem aJ.app{Z:Tx}:∀{xs ys:List Pv}{vs ws:List V},aJ Z M H xs vs->aJ Z M H ys ws->aJ Z M H (xs++ys) (vs++ws)
 | [],_,[],_,_,q=>q
 | [],_,_::_,_,h,_=>by unfold aJ at h;exact h.elim
 |_::_,_,[],_,h,_=>by unfold aJ at h;exact h.elim
 |_::_,_,_::_,_,h,q=>by
  unfold aJ at h
  rw[List.cons_append,List.cons_append]
  unfold aJ
  exact⟨h.1,aJ.app h.2 q⟩
theorem aJ.one(h:bL Z M H x v):aJ Z M H [x] [v]:=by
 unfold aJ;exact⟨h,by unfold aJ;trivial⟩
theorem uY{M1 M6:List Addr}{H2 H6:Hp}{h6:Hs}{τ4:L2.St}(v2:d8 Z M1 H2 (kg n js σ) τ2)(v6:d8 Z M6 H6 σ2 τ4)(gl:σ2.length=(kg n js σ).length)(gg:∀i,n<=i->σ2[i]?=(kg n js σ)[i]?)
  (r6:bj Z M6 H6 h6) (hk:k=M1.length) (hM:M6.take k=M1):d8 Z M1 H6 (kg n js σ) τ4:=by
 have v:=DA gl gg v6
 refine⟨v.ln,λi d hd=>?_⟩
 obtain⟨w,h1,h2⟩:=v.at' i d hd
 refine⟨w,h1,?_⟩
 obtain⟨u,_,h3⟩:=v2.at' i d hd
 have z:=h2.cut r6 (k:=k) (by
  cases d with
  |p x=>rfl
  |r j=>
   obtain⟨b,h4,_⟩:=h3
   exact aT (hk▸(aw.mp h4).1))
 rw[hM] at z;exact z
theorem BD{x:Bool}{E1:XK}(hE:∀c H,x=true->E (.ref c) none H->E1 (.ref c) none H)(ht:N2 n tg=true)(h:cV (yx t X) E (IV n js tg I T A x) τ H QV) :
  Jl (uO (yx t X) E I) (Wi X.K tg) (kU (yx t X) E1 T) (cV (yx t X) E1 A) (qw n js) τ H QV:=by
 obtain⟨G,M,σ,h0,xc,Q,k,q⟩:=h
 refine⟨G,M,σ,h0,xc,_,⟨k.rel,k.env,λxs h1 M1 H1 J e1 r1 jo hz q=>?_,k.exc⟩,q⟩
 unfold uE at q
 obtain⟨W,w0,turn,fin⟩:=q
 intro acc yi
 obtain⟨ZO,naG⟩:=r1.nG yi
 have ea:Ext M1 H1 M1 (upd H1 acc (.lst [])):=Ext.add yi
 have v1:=k.env.ext k.rel e1
 let Z:Tx:=(yx t X).z (acc::G)
 have inG:acc∈acc::G:=aL
 refine⟨λi m τ2 ys H2=>m=xs.length-i/\i<=xs.length/\H2 acc=some (.lst ys)/\ys.length<=i/\∃ps h',Ext M1 H1 M1 H2/\bj Z M1 H2 h'/\d8 Z M1 H2 (kg n js σ) τ2/\aJ Z M1 H2 ps ys/\W i ps h',
  ⟨_,rfl,cI _,bE,cI _,[],h1,ea,r1.L_ yi,(FH v1 n js).L_ yi r1,by unfold aJ;trivial,w0⟩,?_⟩
 rintro i _ τ2 ys H2 ⟨rfl,hi,ha,hly,ps,h',e2,r2,v2,p2,w⟩
 refine⟨ha,?_⟩
 obtain⟨ja,jb⟩:=jo (acc::G) M1 H2 h' (Aq yi) e2 r2
 by_cases qd:i<xs.length
 ·obtain⟨g,y⟩:=ja i xs[i] (aK qd)
  refine .inr ⟨g,by lia,λv yW yl=>?_⟩
  obtain⟨e3,r3,ip⟩:=y v yW yl
  have q:=turn i xs[i] ps h' (aK qd) w
  split at q
  ·rename_i σ2 hσ
   obtain⟨gl,gg⟩:=Qq ht hσ
   refine Wk (Z:=Z) hσ ip (v2.ext r2 e3) λτ4 v4=>?_
   have ex:∀{M5 H5},Ext M1 yW M5 H5->∀C y6 Ze VB,Ext M5 H5 Ze VB->bj Z Ze VB y6->(x=true/\xc C y6)->E1 (.ref (t.ca C)) none VB:=λe5 C y6 Ze VB x' r q=>hE _ _ q.1 (k.exc C y6 Ze VB ((e1.trans (e2.trans e3)).trans (e5.trans x')) r.dun q.2)
   have ka:∀{M5 H5},Ext M1 yW M5 H5->H5 acc=some (.lst ys):=λe5=>e5.keep acc _ ZO (e3.keep acc _ ZO ha)
   have p3:=p2.ext r2 e3
   refine⟨acc::G,M1,σ2,h',_,_,⟨r3,v4,λd h5 M5 H5 e5 r5 q5=>?_,ex Ext.refl⟩,q⟩
   split at q5
   ·rename_i b hb
    injection hb with hb
    refine⟨b,hb,?_⟩
    cases b with
    |true=>
     rw[bF rfl]
     refine⟨acc::G,M5,σ2,h5,_,_,⟨r5,v4.ext r3 e5,λd6 h6 M6 H6 v6 e6 r6 i6 q6=>?_,ex e5⟩,q5⟩
     split at q6
     ·rename_i y hy
      injection hy with hy
      subst hy
      have Zo:=e5.trans e6
      have ZJ:=ka Zo
      refine⟨ZJ,xs.length-(i+1),by lia,rfl,by lia,bE,by rw[ai];simp;lia,?_⟩
      have Wb:=(e2.trans e3).trans Zo
      obtain⟨c,q7⟩:=bt q6
      have hM:M6.take h1.length=M1:=by
       obtain⟨l,rfl⟩:=Wb.pre
       rw[<-r1.ln,J9]
      have r7:=r6.cut h1.length c
      have i7:bL Z (M6.take h1.length) H6 y v6:=bL.mv (Mv.cut r6 h1.length) i6
      have v7:=uY v2 (v4.ext r3 Zo) gl gg r6 r1.ln.symm hM
      have p7:aJ Z (M6.take h1.length) H6 ps ys:=aJ.mv (Mv.cut r6 h1.length) (p3.ext r3 Zo)
      rw[hM] at r7 i7 p7
      have e7:=Wb.cut (k:=h1.length) (by rw[r1.ln];exact au _)
      rw[hM] at e7
      refine⟨ps ++ [y],_,⟨⟨[],(bS M1).symm⟩,λb o hb ho=>?_,λb hb hn=>absurd hb hn⟩,r7.chg rfl inG ZJ ZO,?_,(p7.app (aJ.one i7)).chg rfl inG ZJ,q7⟩
      ·rw[bf (bB ho yi)];exact e7.keep b o hb ho
      ·exact v7.chg rfl inG ZJ
     ·exact q6.elim
    |false=>
     rw[bJ aH]
     refine⟨xs.length-(i+1),by lia,rfl,by lia,ka e5,by lia,?_⟩
     have Wb:=(e2.trans e3).trans e5
     obtain⟨c,q7⟩:=bt q5
     have hM:M5.take h1.length=M1:=by
      obtain⟨l,rfl⟩:=Wb.pre
      rw[<-r1.ln,J9]
     have r7:=r5.cut h1.length c
     have v7:=uY v2 (v4.ext r3 e5) gl gg r5 r1.ln.symm hM
     have p7:aJ Z (M5.take h1.length) H5 ps ys:=aJ.mv (Mv.cut r5 h1.length) (p3.ext r3 e5)
     have e7:=Wb.cut (k:=h1.length) (by rw[r1.ln];exact au _)
     rw[hM] at r7 p7 e7
     exact⟨ps,_,e7,r7,v7,p7,q7⟩
   ·exact q5.elim
  ·exact q.elim
 ·have hx:i=xs.length:=by lia
  subst hx
  refine .inl ⟨jb,k.out _ h' M1 H2 (.ref acc) (e1.trans e2) r2.dun ?_ (fin ps h' w)⟩
  unfold cQ bL;exact⟨acc,ys,rfl,⟨ZO,naG⟩,ha,aJ.wk Gz p2⟩
end
end F
namespace F
open PySem PySem.Spec PyProof.Rows L2 PySem.SeqAt
variable{X:Cx}{pins:aP7}{σ:L2.St}{s:aa1}{Y:T0}{G M:List Addr}{H:Hp}{i j:Int}{vs ws:List V}{xs ys:List Pv}{A:ab4}{p q:Pv}{v:V}{v' u':Value}
noncomputable def nS:List Nat->List Nat->Bool
 | [],[]=>true
 |a::x,b::y=>Nat.beq a b&&nS x y
 |_,_=>false
def aR(a b:Str):Bool:=nS a.cps.toList b.cps.toList
theorem tR:∀{x y:List Nat},nS x y=true↔x=y
 | [],[]=>by simp[nS]
 | [],_::_=>by simp[nS]
 |_::_,[]=>by simp[nS]
 |a::x,b::y=>by
  simp only[nS,ay,Nat.beq_eq,tR (x:=x) (y:=y),List.cons.injEq]
theorem aZ{a b:Str}:aR a b=true↔a=b:=by
 unfold aR
 rw[tR]
 constructor
 ·intro h
  cases a with
  |mk a=>cases b with
   |mk b=>exact eB Str.mk (Array.toList_inj.mp h)
 ·intro h;rw[h]
theorem mK(a b:Str):(a == b)=aR a b:=by
 by_cases h:a=b
 ·rw[aZ.mpr h,h];exact fH b
 ·have h1:aR a b=false:=bG.mpr λz=>h (aZ.mp z)
  rw[h1];exact cP.mpr h
def AI(neg b:Bool):Bool:=match neg with
 |true=>!b
 |false=>b
theorem AJ(neg b:Bool):AI neg b=(neg != b):=by cases neg<;>cases b<;>rfl
def lj:Int->Int->Bool
 |.ofNat a,.ofNat b=>Nat.beq a b
 |.negSucc a,.negSucc b=>Nat.beq a b
 |_,_=>false
noncomputable def hV:Int->Int->Bool
 |.ofNat a,.ofNat b=>Nat.ble a b
 |.negSucc _,.ofNat _=>true
 |.negSucc a,.negSucc b=>Nat.ble b a
 |.ofNat _,.negSucc _=>false
noncomputable def qm:Int->Int->Bool
 |.ofNat a,.ofNat b=>Nat.ble (a+1) b
 |.negSucc _,.ofNat _=>true
 |.negSucc a,.negSucc b=>Nat.ble (b+1) a
 |.ofNat _,.negSucc _=>false
theorem ble_iff{a b:Nat}:Nat.ble a b=true↔a<=b:=⟨aU,j3⟩
theorem cK:lj i j=true↔i=j:=by
 cases i<;>cases j
 ·exact⟨λh=>by rw[ao h],λh=>by injection h with h;rw[h];exact lP _⟩
 ·exact⟨λh=>(by cases h),λh=>(by cases h)⟩
 ·exact⟨λh=>(by cases h),λh=>(by cases h)⟩
 ·exact⟨λh=>by rw[ao h],λh=>by injection h with h;rw[h];exact lP _⟩
theorem bN:hV i j=true↔i<=j:=by
 cases i<;>cases j
 ·exact ble_iff.trans (by simp only[eP];lia)
 ·exact⟨λh=>(by cases h),λh=>(by simp only[eP] at h;lia)⟩
 ·exact⟨λ_=>by simp only[eP];lia,λ_=>rfl⟩
 ·exact ble_iff.trans (by lia)
theorem dN:qm i j=true↔i<j:=by
 cases i<;>cases j
 ·exact ble_iff.trans (by simp only[eP];lia)
 ·exact⟨λh=>(by cases h),λh=>(by simp only[eP] at h;lia)⟩
 ·exact⟨λ_=>by simp only[eP];lia,λ_=>rfl⟩
 ·exact ble_iff.trans (by lia)
theorem p6(i j:Int):lj i j=decide (i=j):=cq.mpr (by rw[eS];exact cK)
theorem RZ(i j:Int):hV i j=decide (i<=j):=cq.mpr (by rw[eS];exact bN)
theorem G6(i j:Int):qm i j=decide (i<j):=cq.mpr (by rw[eS];exact dN)
def b2(b:Bool):Int:=match b with
 |true=>1
 |false=>0
mutual
def iZ:Pv->Pv->Bool
 |.non,.non=>true
 |.bl a,.bl b=>a == b
 |.bl a,.int b=>lj (b2 a) b
 |.int a,.bl b=>lj a (b2 b)
 |.int a,.int b=>lj a b
 |.str a,.str b=>aR a b
 |.tup a,.tup b=>iJ a b
 |.lst a,.lst b=>iJ a b
 |_,_=>false
def iJ:List Pv->List Pv->Bool
 | [],[]=>true
 |a::x,b::y=>iZ a b&&iJ x y
 |_,_=>false
end
noncomputable def jx:Nat->Pv->Bool
 |0,_=>false
 |n+1,.tup xs=>xs.all (jx n)
 |n+1,.lst xs=>xs.all (jx n)
 |_+1,.non=>true
 |_+1,.bl _=>true
 |_+1,.int _=>true
 |_+1,.str _=>true
 |_+1,_=>false
def u7(xs ys:List Pv)(j:Nat):Bool:=match xs[j]?,ys[j]? with
 |some a,some b=>iZ a b
 |_,_=>true
theorem kH:∀{xs ys:List Pv},xs.length=ys.length->iJ xs ys=(List.range xs.length).all (u7 xs ys)
 | [],[],_=>by unfold iJ;rfl
 |a::x,b::y,h=>by
  have ih:=kH (xs:=x) (ys:=y) (by simpa using h)
  unfold iJ
  rw[ih,aF,List.range_succ_eq_map,aB,gZ]
  rfl
 | [],_::_,h=>by simp at h
 |_::_,[],h=>by simp at h
theorem oU:∀{xs ys:List Pv},iJ xs ys=true->xs.length=ys.length
 | [],[],_=>rfl
 |a::x,b::y,h=>by
  unfold iJ at h
  rw[ay] at h
  rw[aF,aF,oU h.2]
 | [],_::_,h=>by unfold iJ at h;cases h
 |_::_,[],h=>by unfold iJ at h;cases h
mutual
theorem FZ:∀{n:Nat}{x:Pv},jx n x=true->iZ x x=true
 |0,_,h=>by unfold jx at h;cases h
 |n+1,.non,_=>by unfold iZ;rfl
 |n+1,.bl b,_=>by unfold iZ;exact fH b
 |n+1,.int i,_=>by unfold iZ;rw[p6];exact aT rfl
 |n+1,.str x,_=>by unfold iZ;exact aZ.mpr rfl
 |n+1,.tup xs,h=>by unfold iZ;unfold jx at h;exact mE h
 |n+1,.lst xs,h=>by unfold iZ;unfold jx at h;exact mE h
 |n+1,.dct _ _,h=>by unfold jx at h;cases h
 |n+1,.scr _,h=>by unfold jx at h;cases h
 |n+1,.obj _ _,h=>by unfold jx at h;cases h
 |n+1,.fn _,h=>by unfold jx at h;cases h
 |n+1,.ty _,h=>by unfold jx at h;cases h
theorem mE:∀{n:Nat}{xs:List Pv},xs.all (jx n)=true->iJ xs xs=true
 |_,[],_=>by unfold iJ;rfl
 |n,x::xs,h=>by
  rw[aB,ay] at h
  unfold iJ
  rw[FZ h.1,mE h.2];rfl
end
theorem CH(hK:Y.K=X.K)(I:Inv X pins σ H s):∀(n:Nat) {p q:Pv}{v:V},jx n p=true->jx n q=true->bL (Y.z G) M H p v->bL (Y.z G) M H q v->p=q
 |0,_,_,_,h,_,_,_=>by unfold jx at h;cases h
 |n+1,p,q,v,h1,h2,h3,h4=>by
  have ps:∀{ps qs:List Pv}{vs:List V},ps.all (jx n)=true->qs.all (jx n)=true->aJ (Y.z G) M H ps vs->aJ (Y.z G) M H qs vs->ps=qs:=by
   intro ps
   induction ps with
   |nil=>
    intro qs vs _ _ a b
    have l:=a.len.trans b.len.symm
    cases qs with
    |nil=>rfl
    |cons _ _=>simp at l
   |cons p ps ih=>
    intro qs vs k1 k2 a b
    have l:=a.len.trans b.len.symm
    cases qs with
    |nil=>simp at l
    |cons q qs=>
     cases vs with
     |nil=>unfold aJ at a;exact a.elim
     |cons w vs=>
      unfold aJ at a b
      rw[aB,ay] at k1 k2
      rw[CH hK I n k1.1 k2.1 a.1 b.1,ih k1.2 k2.2 a.2 b.2]
  cases p with
  |tup xs=>
   unfold bL at h3
   obtain⟨a,vs,rfl,sa,ia⟩:=h3
   cases q with
   |tup ys=>
    unfold bL at h4
    obtain⟨b,ws,e,sb,ib⟩:=h4
    cases e
    rw[I.jc (show el X.K H a ws from hK▸sb) (show el X.K H a vs from hK▸sa)] at ib
    unfold jx at h1 h2
    rw[ps h1 h2 ia ib]
   |lst ys=>
    unfold bL at h4
    obtain⟨b,ws,e,_,sb,ib⟩:=h4
    cases e
    exfalso
    obtain⟨its,_,⟨o1,g1,c1,_⟩,_⟩:=I.tuple (show el X.K H a vs from hK▸sa)
    obtain⟨qh,_,⟨o2,n2,g2,c2,_⟩,_⟩:=I.list (show gq X.K H a ws from .inl (.inl sb))
    rw[g1] at g2;cases g2
    rw[c1] at c2;injection c2 with c2;exact absurd c2 (by decide)
   |_=>first
    |(unfold bL at h4;cases h4;done)
    |(unfold jx at h2;cases h2;done)
  |lst xs=>
   unfold bL at h3
   obtain⟨a,vs,rfl,_,sa,ia⟩:=h3
   cases q with
   |tup ys=>
    unfold bL at h4
    obtain⟨b,ws,e,sb,ib⟩:=h4
    cases e
    exfalso
    obtain⟨its,_,⟨o1,g1,c1,_⟩,_⟩:=I.tuple (show el X.K H a ws from hK▸sb)
    obtain⟨qh,_,⟨o2,n2,g2,c2,_⟩,_⟩:=I.list (show gq X.K H a vs from .inl (.inl sa))
    rw[g1] at g2;cases g2
    rw[c1] at c2;injection c2 with c2;exact absurd c2 (by decide)
   |lst ys=>
    unfold bL at h4
    obtain⟨b,ws,e,_,sb,ib⟩:=h4
    cases e
    rw[I.yu (show gq X.K H a ws from .inl (.inl sb)) (show gq X.K H a vs from .inl (.inl sa))] at ib
    unfold jx at h1 h2
    rw[ps h1 h2 ia ib]
   |_=>first
    |(unfold bL at h4;cases h4;done)
    |(unfold jx at h2;cases h2;done)
  |dct _ _=>unfold jx at h1;cases h1
  |scr _=>unfold jx at h1;cases h1
  |obj _ _=>unfold jx at h1;cases h1
  |fn _=>unfold jx at h1;cases h1
  |ty _=>unfold jx at h1;cases h1
  |_=>
   unfold bL at h3;subst h3
   cases q<;>first
    |(unfold bL at h4;cases h4;rfl)
    |(unfold bL at h4;cases h4;done)
    |(unfold bL at h4;obtain⟨_,_,e,_⟩:=h4;cases e;done)
    |(unfold jx at h2;cases h2;done)
theorem o7{us zs:List Value}(ru:Vals vs us)(rz:Vals ws zs)(ix:aJ (Y.z G) M H xs vs)(iy:aJ (Y.z G) M H ys ws)
  (ih:∀{p q:Pv}{v u:V}{v' u':Value},p∈xs->q∈ys->bL (Y.z G) M H p v->bL (Y.z G) M H q u->RelV v v'->RelV u u'->EqAt A s v' u' (iZ p q)) :
  ∀j (h1:j<us.toArray.size) (h2:j<zs.toArray.size),EqAt A s us.toArray[j] zs.toArray[j] (u7 xs ys j):=by
 intro j h1 h2
 have l1:=ru.length
 have l2:=rz.length
 have l3:=ix.len
 have l4:=iy.len
 simp only[aD] at h1 h2
 have e1:xs[j]?=some (xs[j]'(by lia)):=aK _
 have e2:ys[j]?=some (ys[j]'(by lia)):=aK _
 obtain⟨v,hv,pv⟩:=ix.get e1
 obtain⟨w,hw,pw⟩:=iy.get e2
 obtain⟨u,hu,rv⟩:=ru.get hv
 obtain⟨z,hz,ED⟩:=rz.get hw
 have e3:us.toArray[j]=u:=by
  rw[aK h1] at hu
  simpa using hu
 have e4:zs.toArray[j]=z:=by
  rw[aK h2] at hz
  simpa using hz
 rw[e3,e4]
 unfold u7
 rw[e1,e2]
 exact ih (j6 _) (j6 _) pv pw rv ED
theorem CJ{a b:Addr}(I:Inv X pins σ H s)(sa:el X.K H a vs)(sb:el X.K H b ws)(ix:aJ (Y.z G) M H xs vs)(iy:aJ (Y.z G) M H ys ws)
  (ih:∀{p q:Pv}{v u:V}{v' u':Value},p∈xs->q∈ys->bL (Y.z G) M H p v->bL (Y.z G) M H q u->RelV v v'->RelV u u'->EqAt A.in1 s v' u' (iZ p q)) (hu:A.units<cLine) :
  ∃(its qh:Array Value) (e:Nat->Bool),s.heap.IsTuple a its/\s.heap.IsTuple b qh/\(∀j (h1:j<its.size) (h2:j<qh.size),EqAt A.in1 s its[j] qh[j] (e j))/\((List.range (min its.size qh.size)).all e&&its.size == qh.size)=iJ xs ys:=by
 obtain⟨its,r1,t1,_⟩:=I.tuple sa
 obtain⟨qh,r2,t2,_⟩:=I.tuple sb
 refine⟨its.toArray,qh.toArray,u7 xs ys,t1,t2,o7 r1 r2 ix iy ih,?_⟩
 rw[aD,aD,<-r1.length,<-r2.length,<-ix.len,<-iy.len]
 by_cases hl:xs.length=ys.length
 ·rw[<-hl,Nat.min_self,kH hl,fH,cZ]
 ·rw[cP.mpr hl,mO]
  cases hq:iJ xs ys with
  |false=>rfl
  |true=>exact absurd (oU hq) hl
inductive Kd (X:Cx) (Y:T0) (G M:List Addr) (H:Hp) (s:aa1) (n:Nat):Pv->V->Value->Prop
 |tup (xs:List Pv) (a:Addr) (vs:List V) (its:List Value) (k:xs.all (jx n)=true) (sa:el X.K H a vs) (ia:aJ (Y.z G) M H xs vs) (T:s.heap.IsTuple a its.toArray):Kd X Y G M H s n (.tup xs) (.ref a) (.ref a)
 |lst (xs:List Pv) (a:Addr) (vs:List V) (its:List Value) (k:xs.all (jx n)=true) (ia:aJ (Y.z G) M H xs vs) (T:PlainL s.heap a its.toArray) (r:Vals vs its):Kd X Y G M H s n (.lst xs) (.ref a) (.ref a)
 |non:Kd X Y G M H s n .non .non .none
 |bl (b:Bool):Kd X Y G M H s n (.bl b) (.bl b) (.bool b)
 |int (i:Int) (t:Tok):Kd X Y G M H s n (.int i) (.int i) (.int i t)
 |str (z:Str) (t:Tok):Kd X Y G M H s n (.str z) (.str z) (.str z t)
theorem tO(hK:Y.K=X.K)(I:Inv X pins σ H s){n:Nat}(k:jx (n+1) p=true)(h:bL (Y.z G) M H p v)(r:RelV v v'):Kd X Y G M H s n p v v':=by
 unfold jx at k
 unfold bL at h
 cases p with
 |tup xs=>
  obtain⟨a,vs,rfl,sa,ia⟩:=h
  cases r
  obtain⟨its,_,T,_⟩:=I.tuple (show el X.K H a vs from hK▸sa)
  exact .tup xs a vs its k (hK▸sa) ia T
 |lst xs=>
  obtain⟨a,vs,rfl,_,sa,ia⟩:=h
  cases r
  obtain⟨its,r,T,_⟩:=I.list (show gq X.K H a vs from .inl (.inl sa))
  exact .lst xs a vs its k ia T r
 |non=>subst h;cases r;exact .non
 |bl b=>subst h;cases r;exact .bl b
 |int i=>subst h;obtain⟨t,rfl⟩:=r;exact .int i t
 |str z=>subst h;obtain⟨t,rfl⟩:=r;exact .str z t
 |_=>cases k
theorem Fi(hK:Y.K=X.K)(I:Inv X pins σ H s):∀(n:Nat) {p q:Pv}{v u:V}{v' u':Value}{A:ab4},jx n p=true->jx n q=true->bL (Y.z G) M H p v->bL (Y.z G) M H q u->RelV v v'->RelV u u'->A.units+n<cLine->RcAt A s v' u' (iZ p q)/\RcNeAt A s v' u' (!iZ p q)/\EqAt A s v' u' (iZ p q)
 |0,_,_,_,_,_,_,_,h,_,_,_,_,_,_=>by unfold jx at h;cases h
 |n+1,p,q,v,u,v',u',A,k1,k2,h1,h2,r1,r2,hu=>by
  have fP:A.units<cLine:=by lia
  have sub:∀{xs ys:List Pv},xs.all (jx n)=true->ys.all (jx n)=true->∀{p q:Pv}{v u:V}{v' u':Value},p∈xs->q∈ys->bL (Y.z G) M H p v->bL (Y.z G) M H q u->RelV v v'->RelV u u'->EqAt A.in1 s v' u' (iZ p q):=
   λ{xs ys} a b {p q v u v' u'} hp hq i j r1 r2=>(Fi hK I n (aj.mp a p hp) (aj.mp b q hq) i j r1 r2 (by show A.units+1+n<cLine;lia)).2.2
  have same:v=u->p=q:=λz=>by subst z;exact CH hK I (n+1) k1 k2 h1 h2
  have rf:∀{a b:Addr}{xs ys:List Pv},xs.all (jx n)=true->(a=b->xs=ys)->RcAt A s (.ref a) (.ref b) (iJ xs ys)->EqAt A s (.ref a) (.ref b) (iJ xs ys):=λ{a b xs ys} k e r=>by
   by_cases hab:a=b
   ·subst hab
    rw[<-e rfl,mE k];exact EqAt.same _
   ·exact EqAt.of_refs hab r
  unfold iZ
  cases tO hK I k1 h1 r1 with
  |tup xs a vs its ka sa ia T1=>cases tO hK I k2 h2 r2 with
   |tup ys b ws qh kb sb ib T2=>
    obtain⟨i1,j1,e,t1,t2,hj,he⟩:=CJ (A:=A) I sa sb ia ib (sub ka kb) fP
    have R:=RcAt.tuples t1 t2 fP hj
    have N:=RcNeAt.tuples t1 t2 fP hj
    rw[he] at R N
    exact⟨R,N,rf ka (λz=>by subst z;injection same rfl) R⟩
   |lst ys b ws qh kb ib T2 rb=>exact⟨RcAt.tuple_list T1 T2.isList fP,RcNeAt.tuple_list T1 T2.isList fP,EqAt.tuple_list T1 T2.isList fP⟩
   |non=>exact⟨RcAt.tuple_none T1 fP,RcNeAt.tuple_none T1 fP,EqAt.tuple_none T1 fP⟩
   |bl d=>exact⟨RcAt.tuple_bool d T1 fP,RcNeAt.tuple_bool d T1 fP,EqAt.tuple_bool d T1 fP⟩
   |int d t1=>exact⟨RcAt.tuple_int d t1 T1 fP,RcNeAt.tuple_int d t1 T1 fP,EqAt.tuple_int d t1 T1 fP⟩
   |str d t1=>exact⟨RcAt.tuple_str d t1 T1 fP,RcNeAt.tuple_str d t1 T1 fP,EqAt.tuple_str d t1 T1 fP⟩
  |lst xs a vs its ka ia T1 ra=>cases tO hK I k2 h2 r2 with
   |tup ys b ws qh kb sb ib T2=>exact⟨RcAt.list_tuple T1.isList T2 fP,RcNeAt.list_tuple T1.isList T2 fP,EqAt.list_tuple T1.isList T2 fP⟩
   |lst ys b ws qh kb ib T2 rb=>
    have lz:its.toArray.size=xs.length/\qh.toArray.size=ys.length:=⟨by rw[aD,<-ra.length,<-ia.len],by rw[aD,<-rb.length,<-ib.len]⟩
    have R:RcAt A s (.ref a) (.ref b) (iJ xs ys)/\RcNeAt A s (.ref a) (.ref b) (!iJ xs ys):=by
     by_cases hl:xs.length=ys.length
     ·have l:its.toArray.size=qh.toArray.size:=by rw[lz.1,lz.2,hl]
      have e:(List.range its.toArray.size).all (u7 xs ys)=iJ xs ys:=by rw[lz.1,<-kH hl]
      rw[<-e]
      exact⟨RcAt.lists T1.isList T2.isList l fP (o7 ra rb ia ib (sub ka kb)),RcNeAt.lists T1.isList T2.isList l fP (o7 ra rb ia ib (sub ka kb))⟩
     ·have l:(its.toArray.size != qh.toArray.size)=true:=by rw[lz.1,lz.2];exact bne_iff_ne.mpr hl
      rw[show iJ xs ys=false from bG.mpr λz=>hl (oU z)]
      exact⟨RcAt.lists_lengths T1.isList T2.isList l fP,RcNeAt.lists_lengths T1.isList T2.isList l fP⟩
    exact⟨R.1,R.2,rf ka (λz=>by subst z;injection same rfl) R.1⟩
   |non=>exact⟨RcAt.list_none T1.isList fP,RcNeAt.list_none T1.isList fP,EqAt.list_none T1.isList fP⟩
   |bl d=>exact⟨RcAt.list_bool d T1.isList fP,RcNeAt.list_bool d T1.isList fP,EqAt.list_bool d T1.isList fP⟩
   |int d t1=>exact⟨RcAt.list_int d t1 T1.isList fP,RcNeAt.list_int d t1 T1.isList fP,EqAt.list_int d t1 T1.isList fP⟩
   |str d t1=>exact⟨RcAt.list_str d t1 T1.isList fP,RcNeAt.list_str d t1 T1.isList fP,EqAt.list_str d t1 T1.isList fP⟩
  |non=>cases tO hK I k2 h2 r2 with
   |tup ys b ws qh kb sb ib T2=>exact⟨RcAt.none_tuple T2 fP,RcNeAt.none_tuple T2 fP,EqAt.none_tuple T2 fP⟩
   |lst ys b ws qh kb ib T2 rb=>exact⟨RcAt.none_list T2.isList fP,RcNeAt.none_list T2.isList fP,EqAt.none_list T2.isList fP⟩
   |non=>exact⟨RcAt.none_none,RcNeAt.none_none,EqAt.same _⟩
   |bl d=>exact⟨RcAt.none_bool d,RcNeAt.none_bool d,EqAt.none_bool d⟩
   |int d t1=>exact⟨RcAt.none_int d t1,RcNeAt.none_int d t1,EqAt.none_int d t1⟩
   |str d t1=>exact⟨RcAt.none_str d t1,RcNeAt.none_str d t1,EqAt.none_str d t1⟩
  |bl c=>cases tO hK I k2 h2 r2 with
   |tup ys b ws qh kb sb ib T2=>exact⟨RcAt.bool_tuple c T2 fP,RcNeAt.bool_tuple c T2 fP,EqAt.bool_tuple c T2 fP⟩
   |lst ys b ws qh kb ib T2 rb=>exact⟨RcAt.bool_list c T2.isList fP,RcNeAt.bool_list c T2.isList fP,EqAt.bool_list c T2.isList fP⟩
   |non=>exact⟨RcAt.bool_none c,RcNeAt.bool_none c,EqAt.bool_none c⟩
   |bl d=>exact⟨RcAt.bool_bool c d,RcNeAt.bool_bool c d,EqAt.bool_bool c d⟩
   |int d t1=>dsimp only;rw[p6];have z:=RcAt.bool_int (A:=A) (s:=s) c d t1;have z2:=RcNeAt.bool_int (A:=A) (s:=s) c d t1;have z3:=EqAt.bool_int (A:=A) (s:=s) c d t1;rw[jW] at z z2 z3;cases c<;>exact⟨z,z2,z3⟩
   |str d t1=>exact⟨RcAt.bool_str c d t1,RcNeAt.bool_str c d t1,EqAt.bool_str c d t1⟩
  |int c t0=>cases tO hK I k2 h2 r2 with
   |tup ys b ws qh kb sb ib T2=>exact⟨RcAt.int_tuple c t0 T2 fP,RcNeAt.int_tuple c t0 T2 fP,EqAt.int_tuple c t0 T2 fP⟩
   |lst ys b ws qh kb ib T2 rb=>exact⟨RcAt.int_list c t0 T2.isList fP,RcNeAt.int_list c t0 T2.isList fP,EqAt.int_list c t0 T2.isList fP⟩
   |non=>exact⟨RcAt.int_none c t0,RcNeAt.int_none c t0,EqAt.int_none c t0⟩
   |bl d=>dsimp only;rw[p6];have z:=RcAt.int_bool (A:=A) (s:=s) c t0 d;have z2:=RcNeAt.int_bool (A:=A) (s:=s) c t0 d;have z3:=EqAt.int_bool (A:=A) (s:=s) c t0 d;rw[jW] at z z2 z3;cases d<;>exact⟨z,z2,z3⟩
   |int d t1=>dsimp only;rw[p6,<-jW];exact⟨RcAt.int_int c t0 d t1,RcNeAt.int_int c t0 d t1,EqAt.int_int c t0 d t1⟩
   |str d t1=>exact⟨RcAt.int_str c t0 d t1,RcNeAt.int_str c t0 d t1,EqAt.int_str c t0 d t1⟩
  |str c t0=>cases tO hK I k2 h2 r2 with
   |tup ys b ws qh kb sb ib T2=>exact⟨RcAt.str_tuple c t0 T2 fP,RcNeAt.str_tuple c t0 T2 fP,EqAt.str_tuple c t0 T2 fP⟩
   |lst ys b ws qh kb ib T2 rb=>exact⟨RcAt.str_list c t0 T2.isList fP,RcNeAt.str_list c t0 T2.isList fP,EqAt.str_list c t0 T2.isList fP⟩
   |non=>exact⟨RcAt.str_none c t0,RcNeAt.str_none c t0,EqAt.str_none c t0⟩
   |bl d=>exact⟨RcAt.str_bool c t0 d,RcNeAt.str_bool c t0 d,EqAt.str_bool c t0 d⟩
   |int d t1=>exact⟨RcAt.str_int c t0 d t1,RcNeAt.str_int c t0 d t1,EqAt.str_int c t0 d t1⟩
   |str d t1=>dsimp only;rw[<-mK];exact⟨RcAt.str_str c t0 d t1,RcNeAt.str_str c t0 d t1,EqAt.str_str c t0 d t1⟩
def JB:Pv->Pv->Bool
 |.tup _,.tup []=>true
 |.lst _,.lst []=>true
 |_,_=>false
theorem TC(hK:Y.K=X.K)(I:Inv X pins σ H s){u:V}(k:JB p q=true)(h1:bL (Y.z G) M H p v)(h2:bL (Y.z G) M H q u)(r1:RelV v v')(r2:RelV u u')(hu:A.units<cLine):RcAt A s v' u' (iZ p q)/\RcNeAt A s v' u' (!iZ p q):=by
 unfold JB at k
 split at k
 ·rename_i xs
  unfold bL at h1 h2
  obtain⟨a,vs,rfl,sa,ia⟩:=h1
  obtain⟨b,ws,rfl,sb,ib⟩:=h2
  cases r1;cases r2
  obtain⟨i1,j1,e,t1,t2,hj,he⟩:=CJ (A:=A) I (show el X.K H a vs from hK▸sa) (show el X.K H b ws from hK▸sb) ia ib (λ_ hq=>by cases hq) hu
  unfold iZ
  rw[<-he]
  exact⟨RcAt.tuples t1 t2 hu hj,RcNeAt.tuples t1 t2 hu hj⟩
 ·rename_i xs
  unfold bL at h1 h2
  obtain⟨a,vs,rfl,_,sa,ia⟩:=h1
  obtain⟨b,ws,rfl,_,sb,ib⟩:=h2
  cases r1;cases r2
  obtain⟨its,Nw,T1,_⟩:=I.list (show gq X.K H a vs from .inl (.inl sa))
  obtain⟨qh,TH,T2,_⟩:=I.list (show gq X.K H b ws from .inl (.inl sb))
  unfold iZ
  by_cases hl:xs.length=([]:List Pv).length
  ·have l:its.toArray.size=qh.toArray.size:=by rw[aD,aD,<-Nw.length,<-TH.length,<-ia.len,<-ib.len,hl]
   have e:(List.range its.toArray.size).all (u7 xs [])=iJ xs []:=by rw[aD,<-Nw.length,<-ia.len,<-kH hl]
   rw[<-e]
   have z:=o7 (s:=s) (A:=A.in1) Nw TH ia ib (λ_ hq=>by cases hq)
   exact⟨RcAt.lists T1.isList T2.isList l hu z,RcNeAt.lists T1.isList T2.isList l hu z⟩
  ·have l:(its.toArray.size != qh.toArray.size)=true:=by rw[aD,aD,<-Nw.length,<-TH.length,<-ia.len,<-ib.len];exact bne_iff_ne.mpr hl
   have e:iJ xs []=false:=bG.mpr λz=>hl (oU z)
   rw[e]
   exact⟨RcAt.lists_lengths T1.isList T2.isList l hu,RcNeAt.lists_lengths T1.isList T2.isList l hu⟩
 ·cases k
section
variable {t:Tb}
def O8(p q:Pv):Bool:=JB p q||(jx 60 p&&jx 60 q)
def Nv(Y:T0)(ne:Bool):R2:=λv u H Q=>∃G M p q,bL (Y.z G) M H p v/\bL (Y.z G) M H q u/\O8 p q=true/\Q (.bl (ne != iZ p q)) H
theorem II(hK:Y.K=X.K)(I:Inv X pins σ H s){u:V}(k:O8 p q=true)(h1:bL (Y.z G) M H p v)(h2:bL (Y.z G) M H q u)(r1:RelV v v')(r2:RelV u u')(hu:A.units+64<cLine):RcAt A s v' u' (iZ p q)/\RcNeAt A s v' u' (!iZ p q):=by
 rcases (dX _ _).mp k with k|k
 ·exact TC hK I k h1 h2 r1 r2 (by lia)
 ·rw[ay] at k
  exact(λz=>⟨z.1,z.2.1⟩) (Fi hK I _ k.1 k.2 h1 h2 r1 r2 (by lia))
theorem SA(hu:X.A.units+64<cLine):iX X (compareOp .Eq) (Nv (yx t X) false):=by
 intro pins s σ H x y v u Q I rx ry h
 obtain⟨G,M,p,q,h1,h2,k1,h⟩:=h
 refine(II (Y:=yx t X) rfl I k1 h1 h2 rx ry hu).1 X.prog X.w _ _ ⟨.bl _,H,I,rfl,?_⟩
 rw[jy] at h;exact h
theorem SH(hu:X.A.units+64<cLine):iX X (compareOp .NotEq) (Nv (yx t X) true):=by
 intro pins s σ H x y v u Q I rx ry h
 obtain⟨G,M,p,q,h1,h2,k1,h⟩:=h
 refine(II (Y:=yx t X) rfl I k1 h1 h2 rx ry hu).2 X.prog X.w _ _ ⟨.bl _,H,I,rfl,?_⟩
 rw[kx] at h;exact h
end
def oEq:O2:=λx y h Q=>match x,y with
 |.p a,.p b=>gd (O8 a b) (Q (.p (.bl (iZ a b))) h)
 |_,_=>False
def oNe:O2:=λx y h Q=>match x,y with
 |.p a,.p b=>gd (O8 a b) (Q (.p (.bl (!iZ a b))) h)
 |_,_=>False
theorem RC:iQ Y (Nv Y false) oEq:=λG M h H x y v u Q QV r i j q out=>by
 cases x with
 |r _=>exact q.elim
 |p a=>cases y with
  |r _=>exact q.elim
  |p b=>
   obtain⟨c,q⟩:=bt q
   exact⟨G,M,a,b,i,j,c,by rw[jy];exact out _ h M H _ Ext.refl r (by unfold cQ bL;rfl) q⟩
theorem RH:iQ Y (Nv Y true) oNe:=λG M h H x y v u Q QV r i j q out=>by
 cases x with
 |r _=>exact q.elim
 |p a=>cases y with
  |r _=>exact q.elim
  |p b=>
   obtain⟨c,q⟩:=bt q
   exact⟨G,M,a,b,i,j,c,by rw[kx];exact out _ h M H _ Ext.refl r (by unfold cQ bL;rfl) q⟩
end F
namespace F
open PySem PySem.Spec PyProof.Rows L2
variable{Y:T0}{G M:List Addr}{H H':Hp}{h:Hs}{x e a b tg:Expr}{v:V}{X:Cx}{E:XK}{c j k0:Nat}{rest es:List Expr}{A B T:Sm}{pos p2 rh:Pos}{p t2:Addr}{k:Pv}{Z:Tx}{i:Int}{xs ks us ys:List Pv}{vs ws:List V}{z n name f:Str}{neg:Bool}{α:Type}{QV:VK}{τ:L2.St}{d:Dv}{κ:Key}{kvs:List (Key×V)}{op:CmpOp}{r:V->List V->Hp->VK->Prop}{oo:OM}{D:Ends}{env:Env}{tab:Str->Option (lS7)}{P:Expr->Prop}{sc:Scope}
section
variable {x y:Dv}{u:V}
noncomputable def qY (h:Hs):Dv->Option (List Pv)
 |.p (.lst xs)=>some xs
 |.r i=>match h[i]? with
  |some (.lst xs)=>some xs
  |_=>none
 |_=>none
theorem bj.at'(r:bj Z M H h){i:Nat}{a:Addr}{o:Ob}(h1:M[i]?=some a)(h2:h[i]?=some o):vL Z M H a o:=r.ob i a o h1 h2
theorem ig(r:bj (Y.z G) M H h)(i:cQ (Y.z G) M H x v)(e:qY h x=some xs):∃a vs,v=.ref a/\H a=some (.lst vs)/\aJ (Y.z G) M H xs vs:=by
 unfold qY at e
 split at e
 ·cases e
  unfold cQ bL at i
  obtain⟨a,vs,h1,_,h2,h3⟩:=i
  exact⟨a,vs,h1,h2,h3⟩
 ·split at e
  ·rename_i ho
   cases e
   obtain⟨a,h1,h2⟩:=i
   obtain⟨vs,h3,h4⟩:=r.at' h1 ho
   exact⟨a,vs,h2,h3,h4⟩
  ·cases e
 ·cases e
theorem jk(r:bj (Y.z G) M H h)(hp:H p=none)(i:aJ (Y.z G) M H xs vs):cQ (Y.z G) M (upd H p (.lst vs)) (.p (.lst xs)) (.ref p):=by
 unfold cQ bL
 exact⟨p,vs,rfl,r.nG hp,bE,i.ext r (Ext.add hp)⟩
theorem o6(r:bj (Y.z G) M H h)(hp:H p=none)(i:aJ (Y.z G) M H xs vs):cQ (Y.z G) M (upd H p (.tup vs)) (.p (.tup xs)) (.ref p):=by
 unfold cQ bL
 exact⟨p,vs,rfl,el.of bE,i.ext r (Ext.add hp)⟩
theorem ji(s:iI H H'):Ext M H M H':=⟨⟨[],(bS M).symm⟩,λb o _ e=>s b o e,λb h n=>absurd h n⟩
theorem mf(r:bj (Y.z G) M H h)(s:iI H H'):bj (Y.z G) M H' h:=⟨r.nd,r.dj,r.ln,λb hb=>let ⟨o,e⟩:=r.gs b hb;⟨o,s _ _ e⟩,λi a o h1 h2=>
 vL.mv ((ji s).mv r) (λ_ _ z=>z) (λ_ e=>s _ _ e) (λ_ e=>s _ _ e) (r.ob i a o h1 h2)⟩
theorem eZ:cQ (Y.z G) M H (.p (.int i)) (.int i):=by unfold cQ bL;rfl
theorem iK{b:Bool}:cQ (Y.z G) M H (.p (.bl b)) (.bl b):=by unfold cQ bL;rfl
theorem mH:cQ (Y.z G) M H (.p (.str z)) (.str z):=by unfold cQ bL;rfl
theorem o5:cQ (Y.z G) M H (.p .non) .non:=by unfold cQ bL;rfl
theorem eG(q:cQ (Y.z G) M H (.p (.int i)) v):v=.int i:=by unfold cQ bL at q;exact q
theorem Ff{b:Bool}(q:cQ (Y.z G) M H (.p (.bl b)) v):v=.bl b:=by unfold cQ bL at q;exact q
theorem gC(q:cQ (Y.z G) M H (.p (.str z)) v):v=.str z:=by unfold cQ bL at q;exact q
theorem Oy(q:cQ (Y.z G) M H (.p .non) v):v=.non:=by unfold cQ bL at q;exact q
theorem kZ(q:cQ (Y.z G) M H (.p (.tup xs)) v):∃a vs,v=.ref a/\el Y.K H a vs/\aJ (Y.z G) M H xs vs:=by unfold cQ bL at q;exact q
def oI(c:Int->Int->Bool)(g:Int->Int->Int):O2:=λx y h Q=>match x,y with
 |.p (.int i),.p (.int j)=>gd (c i j) (Q (.p (.int (g i j))) h)
 |_,_=>False
def oB(g:Int->Int->Bool):O2:=λx y h Q=>match x,y with
 |.p (.int i),.p (.int j)=>Q (.p (.bl (g i j))) h
 |_,_=>False
theorem GH{C:Int->Int->Prop}{c:Int->Int->Bool}{g:Int->Int->Int}(hc:∀i j,c i j=true->C i j):iQ Y (rI C λi j=>.int (g i j)) (oI c g):=λG M h H x y v u Q QV r i j q out=>by
 unfold oI at q
 split at q
 ·obtain⟨k,q⟩:=bt q
  exact⟨_,_,eG i,eG j,hc _ _ k,out _ h M H _ Ext.refl r eZ q⟩
 ·exact q.elim
theorem OW{g:Int->Int->Bool}:iQ Y (EA λi j=>.bl (g i j)) (oB g):=λG M h H x y v u Q QV r i j q out=>by
 unfold oB at q
 split at q
 ·exact⟨_,_,eG i,eG j,out _ h M H _ Ext.refl r iK q⟩
 ·exact q.elim
def cT:Int->Int->Bool:=λ_ _=>true
def Sq:O2:=oI cT λi j=>i-j
theorem LQ:iQ Y (EA λi j=>.int (i-j)) Sq:=λG M h H x y v u Q QV r i j q out=>by
 unfold Sq oI at q
 split at q
 ·exact⟨_,_,eG i,eG j,out _ h M H _ Ext.refl r eZ q⟩
 ·exact q.elim
def VJ(i:Int):Bool:=decide (-18446744073709551616<i)&&decide (i<18446744073709551616)
def zE(i j:Int):Bool:=VJ j||VJ i
theorem Kw{j:Int}(h:zE i j=true):Fd i j:=by
 unfold zE VJ at h
 simp only[dX,ay,eS] at h
 rcases h with h|h
 ·exact .inr ⟨by lia,by lia⟩
 ·exact .inl ⟨by lia,by lia⟩
def VQ(_ j:Int):Bool:=decide (0<j)&&decide (j<1073741824)
def oDiv:O2:=oI VQ λi j=>i / j
theorem LJ:iQ Y (rI Vu λi j=>.int (i / j)) oDiv:=GH λi j h=>by
 unfold VQ at h
 simp only[ay,eS] at h
 exact h
def N_(_ j:Int):Bool:=decide (0<j)
def oMod:O2:=oI N_ λi j=>i%j
theorem LN:iQ Y (rI (λ_ j=>0<j) λi j=>.int (i%j)) oMod:=GH λi j h=>aX h
def VU(i j:Int):Bool:=decide (0<=j)&&decide (j<=1000000)&&decide (i.natAbs<2 ^ 64)
def XH:O2:=oI VU λi j=>i ^ j.toNat
theorem LP:iQ Y (rI Vv λi j=>.int (i ^ j.toNat)) XH:=GH λi j h=>by
 unfold VU at h
 simp only[ay,eS] at h
 exact⟨h.1.1,h.1.2,h.2⟩
def So:O1:=λx h Q=>match x with
 |.p (.int i)=>Q (.p (.int (-i))) h
 |_=>False
theorem LO:Qf Y (rU λi=>.int (-i)) So:=λG M h H x v Q QV r i q out=>by
 unfold So at q
 split at q
 ·exact⟨_,eG i,out _ h M H _ Ext.refl r eZ q⟩
 ·exact q.elim
def nc(n:Nat):Bool:=Nat.ble n sizeLine
theorem fN{n:Nat}(h:nc n=true):n<=sizeLine:=aU h
theorem Ud{n:Nat}(h:n<=sizeLine):nc n=true:=j3 h
def Se:O2:=λx y h Q=>match x,y with
 |.p (.int i),.p (.int j)=>Q (.p (.int (i+j))) h
 |.p (.str a),.p (.str b)=>gd (nc (a.length+b.length)) (Q (.p (.str (a++b))) h)
 |.p (.tup a),.p (.tup b)=>gd (nc (a.length+b.length)) (Q (.p (.tup (a++b))) h)
 |x,y=>match qY h x,qY h y with
  |some a,some b=>gd (nc (a.length+b.length)) (Q (.p (.lst (a++b))) h)
  |_,_=>False
def Pj(K:Frag):R2:=λx y H Q=>EA (λi j=>.int (i+j)) x y H Q\/(∃i j,x=.str i/\y=.str j/\i.length+j.length<=sizeLine/\Q (.str (i++j)) H)\/IF K x y H Q\/X1 x y H Q
theorem MG:iX X (binaryOp .Add) (Pj X.K):=Sy.or (AR.or (HF.or Sz))
theorem LC:iQ Y (Pj Y.K) Se:=λG M h H x y v u Q QV r i j q out=>by
 unfold Se at q
 split at q
 ·exact .inl ⟨_,_,eG i,eG j,out _ h M H _ Ext.refl r eZ q⟩
 ·obtain⟨k,q⟩:=bt q
  exact .inr (.inl ⟨_,_,gC i,gC j,fN k,out _ h M H _ Ext.refl r mH q⟩)
 ·obtain⟨k,q⟩:=bt q
  obtain⟨a,vs,e1,s1,i1⟩:=kZ i
  obtain⟨b,ws,e2,s2,i2⟩:=kZ j
  refine .inr (.inr (.inl ⟨a,b,vs,ws,e1,e2,s1,s2,by rw[<-i1.len,<-i2.len];exact fN k,λp H' sm sp=>?_⟩))
  refine out _ h M H' _ (ji sm) (mf r sm) ?_ q
  unfold cQ bL
  exact⟨p,_,rfl,sp,(i1.app i2).ext r (ji sm)⟩
 ·split at q
  ·rename_i a b ea eb
   obtain⟨k,q⟩:=bt q
   obtain⟨c,vs,e1,s1,i1⟩:=ig r i ea
   obtain⟨d,ws,e2,s2,i2⟩:=ig r j eb
   refine .inr (.inr (.inr ⟨c,d,vs,ws,e1,e2,s1,s2,by rw[<-i1.len,<-i2.len];exact fN k,λp hp=>?_⟩))
   exact out _ h M _ _ (Ext.add hp) (r.add hp) (jk r hp (i1.app i2)) q
  ·exact q.elim
def oLt:O2:=oB qm
def oGt:O2:=oB λi j=>qm j i
theorem RG:iQ Y (EA λi j=>.bl (decide (i<j))) oLt:=by
 rw[show(λi j:Int=>V.bl (decide (i<j)))=λi j=>.bl (qm i j) by funext i j;rw[G6]]
 exact OW
theorem RD:iQ Y (EA λi j=>.bl (decide (j<i))) oGt:=by
 rw[show(λi j:Int=>V.bl (decide (j<i)))=λi j=>.bl (qm j i) by funext i j;rw[G6]]
 exact OW (g:=λi j=>qm j i)
def oLe:O2:=λx y h Q=>match x,y with
 |.p (.int i),.p (.int j)=>Q (.p (.bl (hV i j))) h
 |.p (.str a),.p (.str b)=>Q (.p (.bl (!decide (b.cps.toList<a.cps.toList)))) h
 |_,_=>False
def X5:R2:=λx y H Q=>EA (λi j=>.bl (decide (i<=j))) x y H Q\/∃i j,x=.str i/\y=.str j/\Q (.bl (!decide (j.cps.toList<i.cps.toList))) H
theorem SE:iX X (compareOp .LtE) X5:=XM.or Ej
theorem RF:iQ Y X5 oLe:=λG M h H x y v u Q QV r i j q out=>by
 unfold oLe at q
 split at q
 ·rw[RZ] at q;exact .inl ⟨_,_,eG i,eG j,out _ h M H _ Ext.refl r iK q⟩
 ·exact .inr ⟨_,_,gC i,gC j,out _ h M H _ Ext.refl r iK q⟩
 ·exact q.elim
def GG:Pv->Bool
 |.non=>true
 |_=>false
def sZ:Pv->Bool
 |.non=>true
 |.bl _=>true
 |.int _=>true
 |.str _=>true
 |_=>false
def gX(x:Pv):List Pv->Bool
 | []=>false
 |y::r=>iZ y x||gX x r
def eY:List Pv->Bool
 | []=>true
 |x::r=>sZ x&&eY r
def A6(h:Hs):Dv->Option (List Pv)
 |.p (.tup xs)=>some xs
 |d=>qY h d
theorem pz{x:Dv}(r:bj (Y.z G) M H h)(i:cQ (Y.z G) M H x v)(e:A6 h x=some xs):∃a vs,v=.ref a/\(gq Y.K H a vs\/el Y.K H a vs)/\aJ (Y.z G) M H xs vs:=by
 unfold A6 at e
 split at e
 ·cases e
  obtain⟨a,vs,e1,s1,i1⟩:=kZ i
  exact⟨a,vs,e1,.inr s1,i1⟩
 ·obtain⟨a,vs,e1,s1,i1⟩:=ig r i e
  exact⟨a,vs,e1,.inl (gq.of s1),i1⟩
theorem Qs(a b:Int):(a == b)=lj a b:=by rw[p6];exact jW ..
theorem zY{p:Pv}(f:sZ p=true)(i:bL (Y.z G) M H p v):nv v=true/\∀{q:Pv}{u:V},sZ q=true->bL (Y.z G) M H q u->F2 u v=iZ q p:=by
 cases p<;>first|(cases f;done)|skip
 all_goals (unfold bL at i;subst i;refine⟨rfl,λ{q u} g j=>?_⟩)
 all_goals (cases q<;>first|(cases g;done)|(unfold bL at j;subst j;unfold iZ F2;first|rfl|exact mK _ _|(exact Qs _ _)|(rename_i b;cases b<;>exact Qs _ _)|(rename_i b _;cases b<;>exact Qs _ _)))
theorem W7{Y:T0}{G M:List Addr}{H:Hp}{p:Pv}{v:V}(f:sZ p=true)(i:bL (Y.z G) M H p v):∀{xs:List Pv}{vs:List V},eY xs=true->aJ (Y.z G) M H xs vs->vs.all nv=true/\ZI v vs=gX p xs
 | [],[],_,_=>⟨rfl,rfl⟩
 | [],_::_,_,h=>by unfold aJ at h;exact h.elim
 |_::_,[],_,h=>by unfold aJ at h;exact h.elim
 |x::xs,w::vs,g,h=>by
  unfold aJ at h
  simp only[eY,ay] at g
  obtain⟨a,b⟩:=W7 f i g.2 h.2
  refine⟨by rw[aB,(zY g.1 h.1).1,a];rfl,?_⟩
  have e:=(zY f i).2 g.1 h.1
  unfold ZI at b⊢
  rw[iA,b,e];rfl
def ZR(neg:Bool):O2:=λx y h Q=>match x with
 |.p a=>match A6 h y with
  |some xs=>gd (sZ a&&eY xs) (Q (.p (.bl (AI neg (gX a xs)))) h)
  |none=>match a,y with
   |.str i,.p (.str j)=>Q (.p (.bl (AI neg !(Builtin.Str.occurrences j i 0 j.length 1).isEmpty))) h
   |_,_=>False
 |_=>False
def Tw(K:Frag)(neg:Bool):R2:=λx y H Q=>rIn K neg x y H Q\/∃i j,x=.str i/\y=.str j/\Q (.bl (neg != !(Builtin.Str.occurrences j i 0 j.length 1).isEmpty)) H
theorem SD:iX X (compareOp .In) (Tw X.K false):=Eh.or λpins s σ H x y v u Q I rx ry ⟨i,j,e1,e2,q⟩=>Ei pins s σ H x y v u Q I rx ry ⟨i,j,e1,e2,by rw[jy] at q;exact q⟩
theorem Ek:iX X (compareOp .NotIn) (Tw X.K true):=w6.or λpins s σ H x y v u Q I rx ry ⟨i,j,e1,e2,q⟩=>w8 pins s σ H x y v u Q I rx ry ⟨i,j,e1,e2,by rw[kx] at q;exact q⟩
theorem GI:iQ Y (Tw Y.K neg) (ZR neg):=λG M h H x y v u Q QV r i j q out=>by
 unfold ZR at q
 simp only[AJ] at q
 split at q
 ·rename_i a
  split at q
  ·rename_i xs e
   obtain⟨k,q⟩:=bt q
   rw[ay] at k
   obtain⟨b,vs,e1,s1,i1⟩:=pz r j e
   obtain⟨k2,k3⟩:=W7 k.1 i k.2 i1
   refine .inl ⟨b,vs,e1,s1,(zY k.1 i).1,k2,?_⟩
   refine out _ h M H _ Ext.refl r ?_ q
   rw[k3];cases neg
   ·rw[jy];exact iK
   ·rw[kx];exact iK
  ·split at q
   ·exact .inr ⟨_,_,gC i,gC j,out _ h M H _ Ext.refl r iK q⟩
   ·exact q.elim
 ·exact q.elim
noncomputable def qR(xs:List α):Int->Option α
 |.ofNat n=>xs[n]?
 |.negSucc n=>match Nat.ble (n+1) xs.length with
  |true=>xs[xs.length-(n+1)]?
  |false=>none
theorem vP(xs:List α)(n:Nat):qR xs (.negSucc n)=(match Nat.ble (n+1) xs.length with
 |true=>xs[xs.length-(n+1)]?
 |false=>none):=rfl
theorem zy(xs:List α)(i:Int):qR xs i=yY xs i:=by
 unfold yY LV
 cases i with
 |ofNat n=>
  show xs[n]?=_
  rw[bF (show(0:Int)<=Int.ofNat n from Int.natCast_nonneg n)]
  by_cases hn:n<xs.length
  ·rw[bF (show Int.ofNat n<(xs.length:Int) by show((n:Nat):Int)<_;lia)];rfl
  ·rw[bJ (show ¬Int.ofNat n<(xs.length:Int) by show ¬ ((n:Nat):Int)<_;lia),jY (by lia)];rfl
 |negSucc n=>
  rw[bJ (by lia),vP]
  by_cases hn:n+1<=xs.length
  ·rw[bF (by lia),j3 hn]
   show xs[xs.length-(n+1)]?=xs[(Int.negSucc n+(xs.length:Int)).toNat]?
   rw[show(Int.negSucc n+(xs.length:Int)).toNat=xs.length-(n+1) by lia]
  ·rw[bJ (by lia),show Nat.ble (n+1) xs.length=false from bG.mpr λz=>hn (aU z)];rfl
def Ay(h:Hs):Dv->Option (List Dv)
 |.r i=>match h[i]? with
  |some (.vj ds)=>some ds
  |_=>none
 |_=>none
def ZS:O2:=λx y h Q=>match y with
 |.p (.int i)=>match A6 h x with
  |some xs=>l9 (qR xs i) (λz=>Q (.p z) h) False
  |none=>match x with
   |.p (.str z)=>gd (nc z.length) (l9 (qR z.cps.toList i) (λc=>Q (.p (.str ⟨#[c]⟩)) h) False)
   |.p (.scr xs)=>l9 (qR xs i) (λz=>Q (.p z) h) False
   |x=>match Ay h x with
    |some ds=>l9 (qR ds i) (λd=>Q d h) False
    |none=>False
 |_=>False
theorem aJ.yY{z:Pv}(q:aJ (Y.z G) M H xs vs)(e:qR xs i=some z):∃v,L2.yY vs i=some v/\bL (Y.z G) M H z v:=by
 rw[<-zy]
 cases i with
 |ofNat n=>exact q.get e
 |negSucc n=>
  rw[vP] at e⊢
  rw[<-q.len]
  split at e
  ·exact q.get e
  ·cases e
theorem cC.len{Z:Tx}{M:List Addr}{H:Hp}:∀{ds:List Dv}{vs:List V},cC Z M H ds vs->ds.length=vs.length
 | [],[],_=>rfl
 | [],_::_,h=>h.elim
 |_::_,[],h=>h.elim
 |_::_,_::_,h=>by rw[aF,aF,cC.len h.2]
theorem cC.get{Z:Tx}{M:List Addr}{H:Hp}:∀{xs:List Dv}{vs:List V}{i:Nat}{x:Dv},cC Z M H xs vs->xs[i]?=some x->∃v,vs[i]?=some v/\cQ Z M H x v
 | [],_,_,_,_,e=>by simp at e
 |_::_,[],_,_,h,_=>h.elim
 |_::_,v::_,0,_,h,e=>by cases e;exact⟨v,rfl,h.1⟩
 |_::_,_::_,i+1,_,h,e=>by
  obtain⟨w,h1,h2⟩:=cC.get (i:=i) h.2 (by simpa using e)
  exact⟨w,by simpa using h1,h2⟩
theorem cC.yY{xs:List Dv}{z:Dv}(q:cC (Y.z G) M H xs vs)(e:qR xs i=some z):∃v,L2.yY vs i=some v/\cQ (Y.z G) M H z v:=by
 rw[<-zy]
 cases i with
 |ofNat n=>exact q.get e
 |negSucc n=>
  rw[vP] at e⊢
  rw[<-q.len]
  split at e
  ·exact q.get e
  ·cases e
theorem RE:iQ Y (rIx Y.K) ZS:=λG M h H x y v u Q QV r i j q out=>by
 unfold ZS l9 at q
 split at q
 ·split at q
  ·rename_i xs e
   split at q
   ·rename_i z ez
    obtain⟨a,vs,e1,s1,i1⟩:=pz r i e
    obtain⟨w,h1,h2⟩:=i1.yY ez
    have o:=out (.p z) h M H w Ext.refl r h2 q
    rcases s1 with s1|s1
    ·exact .inl ⟨a,vs,_,w,e1,eG j,s1,h1,o⟩
    ·exact .inr (.inl ⟨a,vs,_,w,e1,eG j,s1,h1,o⟩)
   ·exact q.elim
  ·split at q
   ·obtain⟨k,q⟩:=bt q
    split at q
    ·rename_i c ec
     rw[zy] at ec
     exact .inr (.inr ⟨_,_,c,gC i,eG j,fN k,ec,out _ h M H _ Ext.refl r mH q⟩)
    ·exact q.elim
   ·split at q
    ·rename_i z ez
     unfold cQ bL at i
     obtain⟨a,vs,e1,s1,i1⟩:=i
     obtain⟨w,h1,h2⟩:=i1.yY ez
     exact .inl ⟨a,vs,_,w,e1,eG j,Jb s1,h1,out (.p z) h M H w Ext.refl r h2 q⟩
    ·exact q.elim
   ·split at q
    ·rename_i ds e
     split at q
     ·rename_i d ed
      unfold Ay at e
      split at e
      ·split at e
       ·rename_i ho
        cases e
        obtain⟨a,h1,h2⟩:=i
        obtain⟨vs,h3,h4⟩:=r.at' h1 ho
        obtain⟨w,h5,h6⟩:=h4.yY ed
        exact .inl ⟨a,vs,_,w,h2,eG j,gq.of h3,h5,out _ h M H w Ext.refl r h6 q⟩
       ·cases e
      ·cases e
     ·exact q.elim
    ·exact q.elim
 ·exact q.elim
noncomputable def ZK (n:Nat):Option Int->Nat
 |none=>0
 |some (.ofNat k)=>k
 |some (.negSucc k)=>n-(k+1)
def g9(xs:List α)(lo hi:Option Int):List α:=match hi with
 |none=>xs.drop (ZK xs.length lo)
 |some (.ofNat k)=>(xs.take k).drop (ZK xs.length lo)
 |some (.negSucc k)=>(xs.take (xs.length-(k+1))).drop (ZK xs.length lo)
theorem vA(n d k:Nat):HT.fQ n d (some (.ofNat k))=min k n:=HT.NC n d k
theorem CG(n d k:Nat):HT.fQ n d (some (.negSucc k))=n-(k+1):=by
 have h:=HT.wb (.negSucc k) n d
 rw[bF (by lia)] at h
 lia
theorem wy(xs:List α)(n:Nat)(hn:xs.length<=n)(lo:Option Int):xs.drop (HT.fQ n 0 lo)=xs.drop (ZK n lo):=by
 cases lo with
 |none=>rw[HT.yK];rfl
 |some i=>
  cases i with
  |ofNat k=>
   rw[vA]
   show xs.drop (min k n)=xs.drop k
   by_cases h:k<=n
   ·rw[Nat.min_eq_left h]
   ·rw[Nat.min_eq_right (by lia),Vj hn,Vj (by lia)]
  |negSucc k=>rw[CG];rfl
theorem KS(xs:List V)(lo hi:Option Int):nF xs lo hi=g9 xs lo hi:=by
 unfold nF
 rw[<-List.drop_take]
 have e:xs.take (HT.fQ xs.length xs.length hi)=(match hi with
  |none=>xs
  |some (.ofNat k)=>xs.take k
  |some (.negSucc k)=>xs.take (xs.length-(k+1))):=by
  cases hi with
  |none=>rw[HT.yK,fG]
  |some i=>
   cases i with
   |ofNat k=>
    rw[vA]
    show xs.take (min k xs.length)=xs.take k
    by_cases h:k<=xs.length
    ·rw[Nat.min_eq_left h]
    ·rw[Nat.min_eq_right (by lia),fG,qI (by lia)]
   |negSucc k=>rw[CG]
 rw[e]
 unfold g9
 cases hi with
 |none=>exact wy xs _ (au _) lo
 |some i=>cases i with
  |ofNat k=>exact wy _ _ (by rw[bQ];exact j7 ..) lo
  |negSucc k=>exact wy _ _ (by rw[bQ];exact j7 ..) lo
theorem aJ.drop{Z:Tx}:∀{xs:List Pv}{vs:List V} (n:Nat),aJ Z M H xs vs->aJ Z M H (xs.drop n) (vs.drop n)
 |_,_,0,q=>q
 | [],[],n+1,q=>q
 | [],_::_,_+1,q=>by unfold aJ at q;exact q.elim
 |_::_,[],_+1,q=>by unfold aJ at q;exact q.elim
 |_::_,_::_,n+1,q=>by unfold aJ at q;exact aJ.drop n q.2
theorem aJ.take{Z:Tx}:∀{xs:List Pv}{vs:List V} (n:Nat),aJ Z M H xs vs->aJ Z M H (xs.take n) (vs.take n)
 |xs,vs,0,q=>by rw[jB,jB];unfold aJ;trivial
 | [],[],n+1,q=>q
 | [],_::_,_+1,q=>by unfold aJ at q;exact q.elim
 |_::_,[],_+1,q=>by unfold aJ at q;exact q.elim
 |_::_,_::_,n+1,q=>by
  unfold aJ at q
  rw[d7,d7]
  unfold aJ
  exact⟨q.1,aJ.take n q.2⟩
theorem aJ.rev{Z:Tx}:∀{xs:List Pv}{vs:List V},aJ Z M H xs vs->aJ Z M H xs.reverse vs.reverse
 | [],[],q=>q
 | [],_::_,q=>by unfold aJ at q;exact q.elim
 |_::_,[],q=>by unfold aJ at q;exact q.elim
 |_::_,_::_,q=>by
  unfold aJ at q
  rw[jA,jA]
  exact(aJ.rev q.2).app (aJ.one q.1)
theorem aJ.nF(q:aJ (Y.z G) M H xs vs)(lo hi:Option Int):aJ (Y.z G) M H (g9 xs lo hi) (L2.nF vs lo hi):=by
 rw[KS]
 unfold g9
 rw[q.len]
 cases hi with
 |none=>exact q.drop _
 |some i=>cases i with
  |ofNat k=>exact(q.take k).drop _
  |negSucc k=>exact(q.take _).drop _
end
def sP(m:Option Sm)(xc:XP)(σ:Es)(h:Hs)(Q:Option Int->Hs->Prop):Prop:=match m with
 |none=>Q none h
 |some L=>L xc σ h λxs h1=>match xs with
  | [.p (.int i)]=>Q (some i) h1
  |_=>False
def oSl(x:Dv)(lo hi:Option Int)(h:Hs)(Q:Dv->Hs->Prop):Prop:=match x with
 |.p (.tup xs)=>Q (.p (.tup (g9 xs lo hi))) h
 |.p (.str z)=>gd (nc z.length) (Q (.p (.str (Txt.slice z lo hi))) h)
 |x=>match qY h x with
  |some xs=>Q (.p (.lst (g9 xs lo hi))) h
  |none=>False
def sSl(A:Sm)(L U:Option Sm):Sm:=λxc σ h Q=>A xc σ h λxs h1=>match xs with
 | [x]=>sP L xc σ h1 λlo h2=>sP U xc σ h2 λhi h3=>oSl x lo hi h3 λd h4=>Q [d] h4
 |_=>False
def X7(K:Frag):V->Option Int->Option Int->Hp->VK->Prop:=λx lo hi H Q=>Po K x lo hi H Q\/(∃z:Str,x=.str z/\z.length<=sizeLine/\Q (.str (Txt.slice z lo hi)) H)\/X8 K x lo hi H Q
theorem abk:EY X (X7 X.K):=NL.or (NK.or NJ)
theorem RI{x:Dv}{lo hi:Option Int}{Q:Dv->Hs->Prop}(r:bj (Y.z G) M H h)(i:cQ (Y.z G) M H x v)(q:oSl x lo hi h Q)
  (out:∀d h' M' H' w,Ext M H M' H'->bj (Y.z G) M' H' h'->cQ (Y.z G) M' H' d w->Q d h'->QV w H'):X7 Y.K v lo hi H QV:=by
 unfold oSl at q
 split at q
 ·obtain⟨a,vs,e1,s1,i1⟩:=kZ i
  refine .inl ⟨a,vs,e1,s1,λp H' sm sp=>?_⟩
  refine out _ h M H' _ (ji sm) (mf r sm) ?_ q
  unfold cQ bL
  exact⟨p,_,rfl,sp,(i1.nF lo hi).ext r (ji sm)⟩
 ·obtain⟨k,q⟩:=bt q
  exact .inr (.inl ⟨_,gC i,fN k,out _ h M H _ Ext.refl r mH q⟩)
 ·split at q
  ·rename_i xs e
   obtain⟨a,vs,e1,s1,i1⟩:=ig r i e
   exact .inr (.inr ⟨a,vs,e1,gq.of s1,λp hp=>out _ h M _ _ (Ext.add hp) (r.add hp) (jk r hp (i1.nF lo hi)) q⟩)
  ·exact q.elim
structure KnO (Z:Tx) (E:XK) (τ:L2.St) (H:Hp) (R:Option Int->Hp->Prop) (M:List Addr) (σ:Es) (h:Hs) (xc:XP) (Q:Option Int->Hs->Prop):Prop where
 rel:bj Z M H h
 env:d8 Z M H σ τ
 out:∀o h' M' H',Ext M H M' H'->bj Z M' H' h'->Q o h'->R o H'
 exc:∀C h' M' H',Ext M H M' H'->bj Z M' H' h'->xc C h'->E (.ref (Z.ca C)) none H'
inductive EK (Y:T0) (E:XK) (m:Option Sm) (τ:L2.St) (H:Hp) (R:Option Int->Hp->Prop):Prop
 |mk (G M:List Addr) (σ:Es) (h:Hs) (xc:XP) (Q:_) (k:KnO (Y.z G) E τ H R M σ h xc Q) (q:sP m xc σ h Q):EK Y E m τ H R
section
variable {t:Tb}{c:Expr}{lo hi:Option Expr}{L U:Option Sm}
theorem _root_.L2.PO.imp{e:Option Expr}{t t':TO}(h:PO X e t')(i:∀σ H Q,t σ H Q->t' σ H Q):PO X e t:=λpins s σ H Q I q=>h pins s σ H Q I (i σ H Q q)
theorem HY:PO X none (EK (yx t X) E none):=Nm.imp λτ H R ⟨G,M,σ,h,xc,Q,k,q⟩=>k.out none h M H Ext.refl k.rel q
theorem HZ(he:PE X e (cV (yx t X) E A)):PO X (some e) (EK (yx t X) E (some A)):=(Nn he).imp λτ H R ⟨G,M,σ,h,xc,Q,k,q⟩=>by
 refine⟨G,M,σ,h,xc,_,⟨k.rel,k.env,λd h1 M1 H1 v e r i q=>?_,k.exc⟩,q⟩
 split at q
 ·rename_i j hd
  injection hd with hd
  subst hd
  exact⟨j,eG i,k.out _ h1 M1 H1 e r q⟩
 ·exact q.elim
theorem XX(he:PE X e (cV (yx t X) E A))(hl:PO X lo (EK (yx t X) E L))(hu:PO X hi (EK (yx t X) E U)):PE X (.Subscript e (.Slice lo hi none p2) pos) (cV (yx t X) E (sSl A L U)):=
 (HQ abk he hl hu).imp λτ H QV ⟨G,M,σ,h,xc,Q,k,q⟩=>by
  refine⟨G,M,σ,h,xc,_,⟨k.rel,k.env,λd h1 M1 H1 v e1 r1 i1 q1=>?_,k.exc⟩,q⟩
  refine⟨G,M1,σ,h1,xc,_,⟨r1,k.env.ext k.rel e1,λol h2 M2 H2 e2 r2 q2=>?_,k.QX e1⟩,q1⟩
  refine⟨G,M2,σ,h2,xc,_,⟨r2,k.env.ext k.rel (e1.trans e2),λou h3 M3 H3 e3 r3 q3=>?_,k.QX (e1.trans e2)⟩,q2⟩
  exact RI (Y:=yx t X) r3 ((i1.ext r1 e2).ext r2 e3) q3 λd4 h4 M4 H4 w e4 r4 i4 q4=>k.out d4 h4 M4 H4 w (e1.trans (e2.trans (e3.trans e4))) r4 i4 q4
def My:O1:=λx h Q=>match x with
 |.p (.tup xs)=>Q (.p (.tup xs.reverse)) h
 |_=>False
theorem S6{st:Expr}(he:PE X e (cV (yx t X) E A))(OV:PE X st (tC (.int (-1)))):PE X (.Subscript e (.Slice none none (some st) p2) pos) (cV (yx t X) E (s1 My A)):=
 (MV he OV).imp λτ H QV ⟨G,M,σ,h,xc,Q,k,q⟩=>by
  refine⟨G,M,σ,h,xc,_,⟨k.rel,k.env,λd h1 M1 H1 v e1 r1 i1 q1=>?_,k.exc⟩,q⟩
  change My d h1 _ at q1
  unfold My at q1
  split at q1
  ·obtain⟨a,vs,e2,s1,i2⟩:=kZ i1
   exact⟨a,vs,e2,s1,λp hp=>k.out _ h1 M1 _ _ (e1.trans (Ext.add hp)) (r1.add hp) (o6 r1 hp i2.rev) q1⟩
  ·exact q1.elim
def Hx:ON:=λds h Q=>match Ez ds with
 |some xs=>gd (nc xs.length) (Q (.p (.tup xs)) h)
 |none=>False
def Ht:ON:=λds h Q=>match Ez ds with
 |some xs=>gd (nc xs.length) (Q (.p (.lst xs)) h)
 |none=>False
def Hr:ON:=λds h Q=>match Ez ds with
 |some xs=>gd (nc xs.length) (Q (.r h.length) (h ++ [.lst xs]))
 |none=>False
theorem qr{Y:T0}{G M:List Addr}{H:Hp}:∀{ds:List Dv}{vs:List V}{xs:List Pv},Ez ds=some xs->cC (Y.z G) M H ds vs->aJ (Y.z G) M H xs vs
 | [],[],_,e,_=>by cases e;unfold aJ;trivial
 | [],_::_,_,_,q=>q.elim
 |_::_,[],_,_,q=>q.elim
 |.r _::_,_::_,_,e,_=>by cases e
 |.p x::ds,v::vs,xs,e,q=>by
  unfold Ez at e
  split at e
  ·rename_i ys ey
   cases e
   unfold aJ
   exact⟨q.1,qr ey q.2⟩
  ·cases e
theorem N1(h:cV (yx t X) E (sN Hx A) τ H QV):YH (gK (yx t X) E A) τ H QV:=by
 obtain⟨G,M,σ,h,xc,Q,k,q⟩:=h
 refine⟨G,M,σ,h,xc,_,⟨k.rel,k.env,λd h1 M1 H1 v e1 r1 i1 q1=>?_,k.exc⟩,q⟩
 change Hx d h1 _ at q1
 unfold Hx at q1
 split at q1
 ·rename_i xs ex
  obtain⟨c,q1⟩:=bt q1
  have i2:=qr ex i1
  exact⟨by rw[<-i2.len];exact fN c,λp hp=>k.out _ h1 M1 _ _ (e1.trans (Ext.add hp)) (r1.add hp) (o6 r1 hp i2) q1⟩
 ·exact q1.elim
theorem S8{k1:Nat}(h:PA X rest (gK (yx t X) E A)):PE X (.Tuple rest k1 pos) (cV (yx t X) E (sN Hx A)):=(AX h).imp λ_ _ _=>N1
theorem NW(h:cV (yx t X) E (sN Ht A) τ H QV):Uj (gK (yx t X) E A) τ H QV:=by
 obtain⟨G,M,σ,h,xc,Q,k,q⟩:=h
 refine⟨G,M,σ,h,xc,_,⟨k.rel,k.env,λd h1 M1 H1 v e1 r1 i1 q1=>?_,k.exc⟩,q⟩
 change Ht d h1 _ at q1
 unfold Ht at q1
 split at q1
 ·rename_i xs ex
  obtain⟨c,q1⟩:=bt q1
  have i2:=qr ex i1
  exact⟨by rw[<-i2.len];exact fN c,λp hp=>k.out _ h1 M1 _ _ (e1.trans (Ext.add hp)) (r1.add hp) (jk r1 hp i2) q1⟩
 ·exact q1.elim
theorem S3(h:PA X rest (gK (yx t X) E A)):PE X (.List rest pos) (cV (yx t X) E (sN Ht A)):=(tV h).imp λ_ _ _=>NW
theorem GD(e:M.length=h.length):cQ Z (M ++ [p]) H (.r h.length) (.ref p):=⟨p,by rw[<-e,bg (au _),Nat.sub_self];rfl,rfl⟩
theorem NV(h:cV (yx t X) E (sN Hr A) τ H QV):Uj (gK (yx t X) E A) τ H QV:=by
 obtain⟨G,M,σ,h,xc,Q,k,q⟩:=h
 refine⟨G,M,σ,h,xc,_,⟨k.rel,k.env,λd h1 M1 H1 v e1 r1 i1 q1=>?_,k.exc⟩,q⟩
 change Hr d h1 _ at q1
 unfold Hr at q1
 split at q1
 ·rename_i xs ex
  obtain⟨c,q1⟩:=bt q1
  have i2:=qr ex i1
  refine⟨by rw[<-i2.len];exact fN c,λp hp=>?_⟩
  exact k.out _ _ (M1 ++ [p]) _ _ (e1.trans (Ext.push r1 hp)) (r1.push (o:=.lst xs) hp ⟨v,bE,i2.ext r1 (Ext.push r1 hp)⟩) (GD r1.ln) q1
 ·exact q1.elim
theorem S2(h:PA X rest (gK (yx t X) E A)):PE X (.List rest pos) (cV (yx t X) E (sN Hr A)):=(tV h).imp λ_ _ _=>NV
end
section
variable {t:Tb}
theorem cC.nV(q:cC Z M H [d] vs):∃v,vs = [v]/\cQ Z M H d v:=by
 cases vs with
 |nil=>exact q.elim
 |cons v r=>cases r with
  |nil=>exact⟨v,rfl,q.1⟩
  |cons _ _=>exact q.2.elim
theorem cC.two'{e:Dv}(q:cC Z M H [d,e] vs):∃v u,vs = [v,u]/\cQ Z M H d v/\cQ Z M H e u:=by
 cases vs with
 |nil=>exact q.elim
 |cons v r=>
  obtain⟨u,rfl,i⟩:=cC.nV q.2
  exact⟨v,u,rfl,q.1,i⟩
def Sl:ON:=λds h Q=>match ds with
 | [x]=>match A6 h x with
  |some xs=>Q (.p (.int xs.length)) h
  |none=>match x with
   |.p (.str z)=>gd (nc z.length) (Q (.p (.int z.length)) h)
   |.p (.scr xs)=>Q (.p (.int xs.length)) h
   |.p (.dct ks _)=>Q (.p (.int ks.length)) h
   |x=>match Ay h x with
    |some ds=>Q (.p (.int ds.length)) h
    |none=>False
 |_=>False
def Pk(K:Frag):List V->Hp->VK->Prop:=λxs H Q=>(∃p ys,xs = [.ref p]/\(gq K H p ys\/el K H p ys)/\Q (.int ys.length) H)\/(∃z,xs = [.str z]/\z.length<=sizeLine/\Q (.int z.length) H)\/∃a kvs,xs = [V.ref a]/\H a=some (.dK kvs)/\Q (.int kvs.length) H
theorem Dx:dQ X (.builtin "len") (Pk X.K):=vV.or (vW.or Dy)
theorem LL:qN Y (Pk Y.K) Sl:=λG M h H xs vs Q QV r i0 q out=>by
 unfold Sl at q
 split at q
 ·obtain⟨v,rfl,i⟩:=i0.nV
  split at q
  ·rename_i ys e
   obtain⟨a,ws,e1,s1,i1⟩:=pz r i e
   exact .inl ⟨a,ws,by rw[e1],s1,out _ h M H _ Ext.refl r (by rw[<-i1.len];exact eZ) q⟩
  ·split at q
   ·obtain⟨k,q⟩:=bt q
    exact .inr (.inl ⟨_,by rw[gC i],fN k,out _ h M H _ Ext.refl r eZ q⟩)
   ·unfold cQ bL at i
    obtain⟨a,ws,e1,s1,i1⟩:=i
    exact .inl ⟨a,ws,by rw[e1],.inl (Jb s1),out _ h M H _ Ext.refl r (by rw[<-i1.len];exact eZ) q⟩
   ·unfold cQ bL at i
    obtain⟨a,kvs,e1,_,s1,i1,_⟩:=i
    exact .inr (.inr ⟨a,kvs,by rw[e1],s1,out _ h M H _ Ext.refl r (by rw[i1.len,ah];exact eZ) q⟩)
   ·split at q
    ·rename_i ds e
     unfold Ay at e
     split at e
     ·split at e
      ·rename_i ho
       cases e
       obtain⟨a,h1,h2⟩:=i
       obtain⟨ws,h3,h4⟩:=r.at' h1 ho
       exact .inl ⟨a,ws,by rw[h2],.inl (gq.of h3),out _ h M H _ Ext.refl r (by rw[<-h4.len];exact eZ) q⟩
      ·cases e
     ·cases e
    ·exact q.elim
 ·exact q.elim
noncomputable def aaz (c:Nat):Pv->Option Bool
 |.str _=>some (Nat.beq c 0)
 |.int _=>some (Nat.beq c 1)
 |.bl _=>some (Nat.beq c 2||Nat.beq c 1)
 |.tup _=>some (Nat.beq c 3)
 |.lst _=>some (Nat.beq c 4)
 |.non=>some false
 |.dct _ _=>some false
 |_=>none
def Sk:ON:=λds h Q=>match ds with
 | [x,.p (.ty c)]=>gd (Nat.ble c 4) (match x with
  |.p a=>match aaz c a with
   |some b=>Q (.p (.bl b)) h
   |none=>False
  |.r i=>match h[i]? with
   |some (.lst _)=>Q (.p (.bl (Nat.beq c 4))) h
   |some (.vj _)=>Q (.p (.bl (Nat.beq c 4))) h
   |_=>False)
 |_=>False
def tyQ(K:Frag)(H:Hp)(x:V)(n:String):Prop:=J3 H x=some n\/(n="tuple"/\∃a xs,x=.ref a/\el K H a xs)
def TB(K:Frag):List V->Hp->VK->Prop:=λxs H Q=>∃x c n,xs = [x,.ty c]/\tyQ K H x n/\c ∈ ["str","int","bool","tuple","list"]/\Q (.bl (LS n c)) H
theorem Dw:dQ X (.builtin "isinstance") (TB X.K):=by
 intro pins s σ H xs us Q I r h
 obtain⟨x,c,n,rfl,ht,hc,q⟩:=h
 rcases ht with ht|⟨rfl,a,ys,rfl,sq⟩
 ·exact FF pins s σ H _ us Q I r ⟨x,c,n,rfl,ht,hc,q⟩
 ·obtain⟨u,v,rfl,ru,rv⟩:=r.two
  obtain rfl:v=Value.type c:=rv
  cases ru
  obtain⟨its,_,⟨o,h1,h2,_⟩,_⟩:=I.tuple sq
  exact cB PySem.W.kitx_tuple I.nO ⟨o,h1,h2⟩ (GZ (by simp) hc) (λz=>nomatch z) λtk=>⟨.bl _,H,I.tok tk,rfl,q⟩
theorem Jy:∀{c:Nat},Nat.ble c 4=true->kq c ∈ ["str","int","bool","tuple","list"]
 |0,_=>by simp[kq]
 |1,_=>by simp[kq]
 |2,_=>by simp[kq]
 |3,_=>by simp[kq]
 |4,_=>by simp[kq]
 |_+5,h=>by simp at h
theorem GU(h:Nat.ble c 4=true){n:String}{b:Bool}(hn:(n,b) ∈ [("str",Nat.beq c 0),("int",Nat.beq c 1),("bool",Nat.beq c 2||Nat.beq c 1),("tuple",Nat.beq c 3),("list",Nat.beq c 4),("NoneType",false),("dict",false)]):LS n (kq c)=b:=by
 have hc:c<=4:=aU h
 have:c=0\/c=1\/c=2\/c=3\/c=4:=by lia
 simp only[aN,ek,pT,Prod.mk.injEq] at hn
 rcases this with rfl|rfl|rfl|rfl|rfl<;>rcases hn with ⟨rfl,rfl⟩|⟨rfl,rfl⟩|⟨rfl,rfl⟩|⟨rfl,rfl⟩|⟨rfl,rfl⟩|⟨rfl,rfl⟩|⟨rfl,rfl⟩<;>rfl
theorem LK:qN Y (TB Y.K) Sk:=λG M h H xs vs Q QV r i0 q out=>by
 unfold Sk at q
 split at q
 ·rename_i x c
  obtain⟨v,u,rfl,i,j⟩:=i0.two'
  have ju:u=.ty (kq c):=by unfold cQ bL at j;exact j
  subst ju
  obtain⟨k,q⟩:=bt q
  have fin:∀{n:String}{b:Bool},tyQ Y.K H v n->(n,b) ∈ [("str",Nat.beq c 0),("int",Nat.beq c 1),("bool",Nat.beq c 2||Nat.beq c 1),("tuple",Nat.beq c 3),("list",Nat.beq c 4),("NoneType",false),("dict",false)]->Q (.p (.bl b)) h->TB Y.K [v,.ty (kq c)] H QV:=λ{n b} ht hn q=>
   ⟨v,kq c,n,rfl,ht,Jy k,by rw[GU k hn];exact out _ h M H _ Ext.refl r iK q⟩
  cases x with
  |p a=>
    cases a with
    |str z=>exact fin (.inl (by rw[gC i];rfl)) (by simp) q
    |int z=>exact fin (.inl (by rw[eG i];rfl)) (by simp) q
    |bl z=>exact fin (.inl (by rw[Ff i];rfl)) (by simp) q
    |non=>exact fin (n:="NoneType") (.inl (by rw[Oy i];rfl)) (by simp) q
    |tup xs=>
     obtain⟨a,ws,e1,s1,i1⟩:=kZ i
     exact fin (.inr ⟨rfl,a,ws,e1,s1⟩) (by simp) q
    |lst xs=>
     unfold cQ bL at i
     obtain⟨a,ws,e1,_,s1,i1⟩:=i
     exact fin (n:="list") (.inl (by rw[e1];simp only[J3,s1])) (by simp) q
    |dct ks us=>
     unfold cQ bL at i
     obtain⟨a,ws,e1,_,s1,i1⟩:=i
     exact fin (n:="dict") (.inl (by rw[e1];simp only[J3,s1])) (by simp) q
    |_=>exact q.elim
  |r n=>
   change (match h[n]? with
    |some (.lst _)=>Q (.p (.bl (Nat.beq c 4))) h
    |some (.vj _)=>Q (.p (.bl (Nat.beq c 4))) h
    |_=>False) at q
   split at q
   ·rename_i ho
    obtain⟨a,h1,h2⟩:=i
    obtain⟨ws,h3,h4⟩:=r.at' h1 ho
    exact fin (n:="list") (.inl (by rw[h2];simp only[J3,h3])) (by simp) q
   ·rename_i ho
    obtain⟨a,h1,h2⟩:=i
    obtain⟨ws,h3,h4⟩:=r.at' h1 ho
    exact fin (n:="list") (.inl (by rw[h2];simp only[J3,h3])) (by simp) q
   ·exact q.elim
 ·exact q.elim
noncomputable def uW:List Pv->Option (List Bool)
 | []=>some []
 |.bl b::r=>match uW r with
  |some bs=>some (b::bs)
  |none=>none
 |_::_=>none
theorem Fp{G M:List Addr}{H:Hp}:∀{xs:List Pv}{bs:List Bool}{vs:List V},uW xs=some bs->aJ (Y.z G) M H xs vs->vs=bs.map V.bl
 | [],_,[],e,_=>by cases e;rfl
 | [],_,_::_,_,q=>by unfold aJ at q;exact q.elim
 |_::_,_,[],_,q=>by unfold aJ at q;exact q.elim
 |.bl b::xs,bs,v::vs,e,q=>by
  unfold aJ at q
  change (match uW xs with
   |some bs=>some (b::bs)
   |none=>none)=some bs at e
  split at e
  ·rename_i ys ey
   cases e
   have h1:v=.bl b:=Ff (show cQ (Y.z G) M H (.p (.bl b)) v from q.1)
   rw[h1,Fp ey q.2];rfl
  ·cases e
 |.non::_,_,_::_,e,_=>by cases e
 |.int _::_,_,_::_,e,_=>by cases e
 |.str _::_,_,_::_,e,_=>by cases e
 |.tup _::_,_,_::_,e,_=>by cases e
 |.lst _::_,_,_::_,e,_=>by cases e
 |.scr _::_,_,_::_,e,_=>by cases e
 |.dct _ _::_,_,_::_,e,_=>by cases e
 |.obj _ _::_,_,_::_,e,_=>by cases e
 |.fn _::_,_,_::_,e,_=>by cases e
 |.ty _::_,_,_::_,e,_=>by cases e
@[irreducible] def Hn:ON:=λds h Q=>match ds with
 | [x]=>match qY h x with
  |some xs=>l9 (uW xs) (λbs=>Q (.p (.bl (bs.all id))) h) False
  |none=>False
 |_=>False
theorem LD:qN Y (λxs H Q=>∃(l:Addr) (bs:List Bool),xs = [.ref l]/\gq Y.K H l (bs.map V.bl)/\Q (.bl (bs.all id)) H) Hn:=λG M h H xs vs Q QV r i0 q out=>by
 unfold Hn l9 at q
 split at q
 ·obtain⟨v,rfl,i⟩:=i0.nV
  split at q
  ·rename_i ys e
   split at q
   ·rename_i bs eb
    obtain⟨a,ws,e1,s1,i1⟩:=ig r i e
    rw[Fp eb i1] at s1
    exact⟨a,bs,by rw[e1],gq.of s1,out _ h M H _ Ext.refl r iK q⟩
   ·exact q.elim
  ·exact q.elim
 ·exact q.elim
def Hy:ON:=λds h Q=>match ds with
 | [x]=>match A6 h x with
  |some xs=>Q (.p (.tup xs)) h
  |none=>False
 |_=>False
theorem GO:qN Y (λxs H Q=>∃p ys,xs = [.ref p]/\((gq Y.K H p ys/\∀l,H l=none->Q (.ref l) (upd H l (.tup ys)))\/(el Y.K H p ys/\Q (.ref p) H))) Hy:=λG M h H xs vs Q QV r i0 q out=>by
 unfold Hy at q
 split at q
 ·obtain⟨v,rfl,i⟩:=i0.nV
  split at q
  ·rename_i ys e
   obtain⟨a,ws,rfl,s1,i1⟩:=pz r i e
   refine⟨a,ws,rfl,?_⟩
   rcases s1 with s1|s1
   ·exact .inl ⟨s1,λp hp=>out _ h M _ _ (Ext.add hp) (r.add hp) (o6 r hp i1) q⟩
   ·exact .inr ⟨s1,out _ h M H _ Ext.refl r (by unfold cQ bL;exact⟨a,ws,rfl,s1,i1⟩) q⟩
  ·exact q.elim
 ·exact q.elim
def Hu:ON:=λds h Q=>match ds with
 | [x]=>match A6 h x with
  |some xs=>Q (.p (.lst xs)) h
  |none=>False
 |_=>False
theorem GK:qN Y (λxs H Q=>∃p ys,xs = [.ref p]/\(gq Y.K H p ys\/el Y.K H p ys)/\∀l,H l=none->Q (.ref l) (upd H l (.lst ys))) Hu:=λG M h H xs vs Q QV r i0 q out=>by
 unfold Hu at q
 split at q
 ·obtain⟨v,rfl,i⟩:=i0.nV
  split at q
  ·rename_i ys e
   obtain⟨a,ws,rfl,s1,i1⟩:=pz r i e
   exact⟨a,ws,rfl,s1,λp hp=>out _ h M _ _ (Ext.add hp) (r.add hp) (jk r hp i1) q⟩
  ·exact q.elim
 ·exact q.elim
def Ho:ON:=λds h Q=>match ds with
 | [.p (.int i)]=>Q (.p (.int i)) h
 | [.p (.bl b)]=>Q (.p (.int (b2 b))) h
 |_=>False
theorem GJ:qN Y (λxs H Q=>(∃i,xs = [.int i]/\Q (.int i) H)\/∃k,xs = [.bl k]/\Q (.int (if k then 1 else 0)) H) Ho:=λG M h H xs vs Q QV r i0 q out=>by
 unfold Ho at q
 split at q
 ·obtain⟨v,rfl,i⟩:=i0.nV
  exact .inl ⟨_,by rw[eG i],out _ h M H _ Ext.refl r eZ q⟩
 ·obtain⟨v,rfl,i⟩:=i0.nV
  rename_i b
  exact .inr ⟨b,by rw[Ff i],out _ h M H _ Ext.refl r (by cases b<;>exact eZ) q⟩
 ·exact q.elim
def Hw:ON:=λds h Q=>match ds with
 | [.p (.str z)]=>Q (.p (.str z)) h
 | [.p (.int i)]=>gd (decide (i.natAbs.log2<1920)) (Q (.p (.str (toString i))) h)
 |_=>False
theorem GN:qN Y (λxs H Q=>(∃z,xs = [.str z]/\Q (.str z) H)\/∃i,xs = [.int i]/\i.natAbs.log2<1920/\Q (.str (toString i)) H) Hw:=λG M h H xs vs Q QV r i0 q out=>by
 unfold Hw at q
 split at q
 ·obtain⟨v,rfl,i⟩:=i0.nV
  exact .inl ⟨_,by rw[gC i],out _ h M H _ Ext.refl r mH q⟩
 ·obtain⟨v,rfl,i⟩:=i0.nV
  obtain⟨k,q⟩:=bt q
  exact .inr ⟨_,by rw[eG i],aX k,out _ h M H _ Ext.refl r mH q⟩
 ·exact q.elim
end
noncomputable def lH:Pv->Option Key
 |.str x=>some (.inr x)
 |.int i=>some (.inl i)
 |_=>none
def Aw:Pv->Pv->Bool
 |.str a,.str b=>aR a b
 |.int a,.int b=>lj a b
 |_,_=>false
def eV(k:Pv):List Pv->List Pv->Option Pv
 |k'::ks,u::us=>match Aw k' k with
  |true=>some u
  |false=>eV k ks us
 |_,_=>none
def ya(k:Pv):List Pv->Bool
 | []=>false
 |k'::ks=>Aw k' k||ya k ks
def FV(k v:Pv):List Pv->List Pv->List Pv
 |k'::ks,u::us=>(match Aw k' k with
  |true=>v
  |false=>u)::FV k v ks us
 |_,us=>us
def jh(k v:Pv)(ks us:List Pv):List Pv:=match ya k ks with
 |true=>FV k v ks us
 |false=>us ++ [v]
def gj(k:Pv)(ks:List Pv):List Pv:=match ya k ks with
 |true=>ks
 |false=>ks ++ [k]
section
theorem L9(e:lH k=some κ)(i:bL (Y.z G) M H k v):v=kV κ:=by
 cases k<;>first|(cases e;done)|skip
 ·cases e;unfold bL at i;exact i
 ·cases e;unfold bL at i;exact i
theorem RW(i:bL (Y.z G) M H k (kV κ)):lH k=some κ:=by
 cases k with
 |str x=>unfold bL at i;cases κ<;>cases i;rfl
 |int x=>unfold bL at i;cases κ<;>cases i;rfl
 |non=>unfold bL at i;cases κ<;>cases i
 |bl _=>unfold bL at i;cases κ<;>cases i
 |ty _=>unfold bL at i;cases κ<;>cases i
 |_=>unfold bL at i;exfalso;cases κ<;>simp[kV] at i
theorem yr{a b:Pv}{κ':Key}(h1:lH a=some κ)(h2:lH b=some κ'):Aw a b=decide (κ=κ'):=by
 cases a<;>first|(cases h1;done)|skip
 all_goals (cases b<;>first|(cases h2;done)|skip)
 all_goals (cases h1;cases h2)
 ·rename_i x y
  show lj x y=_
  rw[p6]
  by_cases e:x=y
  ·rw[aT e,aT (by rw[e])]
  ·rw[aY e,aY (λz=>e (by cases z;rfl))]
 ·rw[aY (λz=>by cases z)];rfl
 ·rw[aY (λz=>by cases z)];rfl
 ·rename_i x y
  show aR x y=_
  by_cases e:x=y
  ·rw[aZ.mpr e,aT (by rw[e])]
  ·rw[bG.mpr λz=>e (aZ.mp z),aY (λz=>e (by cases z;rfl))]
def iG(Y:T0)(G M:List Addr)(H:Hp)(ks us:List Pv)(kvs:List (Key×V)):Prop:=aJ (Y.z G) M H ks (kvs.map λp=>kV p.1)/\aJ (Y.z G) M H us (kvs.map (·.2))
theorem iG.cons{k u:Pv}{ks us:List Pv}{p:Key×V}{kvs:List (Key×V)}:iG Y G M H (k::ks) (u::us) (p::kvs)↔(lH k=some p.1/\bL (Y.z G) M H u p.2)/\iG Y G M H ks us kvs:=by
 unfold iG
 rw[aP,aP]
 constructor
 ·rintro⟨a,b⟩
  unfold aJ at a b
  exact⟨⟨RW a.1,b.1⟩,a.2,b.2⟩
 ·rintro⟨⟨a,b⟩,c,d⟩
  unfold aJ
  refine⟨⟨?_,c⟩,b,d⟩
  cases k<;>first|(cases a;done)|skip
  ·rename_i n
   have:kV p.1=V.int n:=by injection a with a;rw[<-a];rfl
   unfold bL;exact this
  ·rename_i n
   have:kV p.1=V.str n:=by injection a with a;rw[<-a];rfl
   unfold bL;exact this
theorem iG.ind{P:List Pv->List Pv->List (Key×V)->Prop}(h0:P [] [] [])(h1:∀k u ks us p kvs,lH k=some p.1->bL (Y.z G) M H u p.2->iG Y G M H ks us kvs->P ks us kvs->P (k::ks) (u::us) (p::kvs)) :
  ∀{ks us:List Pv}{kvs:List (Key×V)},iG Y G M H ks us kvs->P ks us kvs
 | [],[],[],_=>h0
 |k::ks,u::us,p::kvs,h=>by
  obtain⟨⟨a,b⟩,c⟩:=iG.cons.mp h
  exact h1 k u ks us p kvs a b c (iG.ind h0 h1 c)
 | [],_::_,kvs,h=>by have:=h.1.len.trans (by rw[ah]);have:=h.2.len.trans (by rw[ah]);simp at *;lia
 |_::_,[],kvs,h=>by have:=h.1.len.trans (by rw[ah]);have:=h.2.len.trans (by rw[ah]);simp at *;lia
 | [],[],_::_,h=>by have:=h.1.len;simp at this
 |_::_,_::_,[],h=>by have:=h.1.len;simp at this
theorem BL(hk:lH k=some κ)(d:iG Y G M H ks us kvs):(∃p v,eV k ks us=some p/\mq kvs κ=some v/\bL (Y.z G) M H p v)\/(eV k ks us=none/\mq kvs κ=none):=by
 refine iG.ind (P:=λks us kvs=>(∃p v,eV k ks us=some p/\mq kvs κ=some v/\bL (Y.z G) M H p v)\/(eV k ks us=none/\mq kvs κ=none)) (.inr ⟨rfl,rfl⟩) (λk' u ks us p kvs h1 h2 h3 ih=>?_) d
 have e:=yr h1 hk
 by_cases z:p.1=κ
 ·rw[aT z] at e
  refine .inl ⟨u,p.2,by unfold eV;rw[e],pI z,h2⟩
 ·rw[aY z] at e
  have e2:eV k (k'::ks) (u::us)=eV k ks us:=by
   show(match Aw k' k with|true=>some u|false=>eV k ks us)=_
   rw[e]
  rw[e2,pH z];exact ih
theorem DH{p:Pv}(hk:lH k=some κ)(d:iG Y G M H ks us kvs)(e:eV k ks us=some p):∃v,mq kvs κ=some v/\bL (Y.z G) M H p v:=by
 rcases BL hk d with ⟨q,v,h1,h2,h3⟩|⟨h1,_⟩
 ·rw[e] at h1;cases h1;exact⟨v,h2,h3⟩
 ·rw[e] at h1;cases h1
theorem iG.app{ks' us':List Pv}{Xh:List (Key×V)}(a:iG Y G M H ks us kvs)(b:iG Y G M H ks' us' Xh):iG Y G M H (ks++ks') (us++us') (kvs++Xh):=by
 unfold iG
 rw[bR,bR]
 exact⟨a.1.app b.1,a.2.app b.2⟩
theorem iG.nil:iG Y G M H [] [] []:=by unfold iG;rw[eR,eR];unfold aJ;exact⟨trivial,trivial⟩
theorem BP{w:Pv}(hk:lH k=some κ)(hw:bL (Y.z G) M H w v)(d:iG Y G M H ks us kvs):iG Y G M H (gj k ks) (jh k w ks us) (lJ kvs κ v):=by
 have h:(kvs.any λkv=>decide (kv.1=κ))=ya k ks/\iG Y G M H ks (FV k w ks us) (kvs.map λkv=>if kv.1=κ then(kv.1,v) else kv):=by
  refine iG.ind (P:=λks us kvs=>(kvs.any λkv=>decide (kv.1=κ))=ya k ks/\iG Y G M H ks (FV k w ks us) (kvs.map λkv=>if kv.1=κ then(kv.1,v) else kv)) ⟨rfl,iG.nil⟩ (λk' u ks us p kvs h1 h2 h3 ih=>?_) d
  have e:=yr h1 hk
  refine⟨by rw[iA,ih.1,<-e];rfl,?_⟩
  rw[aP]
  show iG Y G M H (k'::ks) ((match Aw k' k with|true=>w|false=>u)::FV k w ks us) _
  by_cases z:p.1=κ
  ·rw[bF z,e,aT z]
   exact iG.cons.mpr ⟨⟨h1,hw⟩,ih.2⟩
  ·rw[bJ z,e,aY z]
   exact iG.cons.mpr ⟨⟨h1,h2⟩,ih.2⟩
 unfold gj jh lJ
 rw[h.1]
 cases hh:ya k ks with
 |true=>rw[bF rfl];exact h.2
 |false=>rw[bJ aH];exact d.app (iG.cons.mpr ⟨⟨hk,hw⟩,iG.nil⟩)
noncomputable def FT(h:Hs):Dv->Option (List Pv×List Pv)
 |.p (.dct ks us)=>some (ks,us)
 |.r i=>match h[i]? with
  |some (.dct ks us)=>some (ks,us)
  |_=>none
 |_=>none
theorem wt{x:Dv}(r:bj (Y.z G) M H h)(i:cQ (Y.z G) M H x v)(e:FT h x=some (ks,us)):∃a kvs,v=.ref a/\H a=some (.dK kvs)/\iG Y G M H ks us kvs:=by
 unfold FT at e
 split at e
 ·cases e
  unfold cQ bL at i
  obtain⟨a,kvs,h1,_,h2,h3⟩:=i
  exact⟨a,kvs,h1,h2,h3⟩
 ·split at e
  ·rename_i ho
   cases e
   obtain⟨a,h1,h2⟩:=i
   obtain⟨kvs,h3,h4⟩:=r.at' h1 ho
   exact⟨a,kvs,h2,h3,h4⟩
  ·cases e
 ·cases e
def Sj:O2:=λx y h Q=>match y with
 |.p k=>match lH k with
  |some _=>match FT h x with
   |some (ks,us)=>l9 (eV k ks us) (λp=>Q (.p p) h) False
   |none=>False
  |none=>False
 |_=>False
def AN(neg:Bool):O2:=λy x h Q=>match y with
 |.p k=>match lH k with
  |some _=>match FT h x with
   |some (ks,us)=>Q (.p (.bl (AI neg (eV k ks us).isSome))) h
   |none=>False
  |none=>False
 |_=>False
variable {t:Tb}{c:Expr}{C:Sm}{pos':Pos}
theorem SY(hu:X.A.units+1<cLine)(ha:PE X a (cV (yx t X) E A))(hb:PE X b (cV (yx t X) E B))(hs:Ql b):PE X (.Subscript a b pos) (cV (yx t X) E (s2 Sj A B)):=
 (MR hu ha hb hs).imp λτ H QV h=>by
  refine ui (r:=λx y H2 Q=>∃a v,x=.ref a/\pU H2 a y (some v)/\Q v H2) (λG M h H x y v u Q QV r i j q out=>?_) h
  unfold Sj l9 at q
  split at q
  ·split at q
   ·rename_i κ hk
    split at q
    ·rename_i ks us ed
     split at q
     ·rename_i p ep
      obtain⟨a,kvs,e1,s1,d1⟩:=wt r i ed
      obtain⟨w,h1,h2⟩:=DH hk d1 ep
      have g:=pU.k (k:=κ) s1
      rw[h1,<-L9 hk (show bL ((yx t X).z G) M H _ u from j)] at g
      exact⟨a,w,e1,g,out (.p p) h M H w Ext.refl r h2 q⟩
     ·exact q.elim
    ·exact q.elim
   ·exact q.elim
  ·exact q.elim
theorem FU:iQ (yx t X) (λy x H2 Q=>∃a o,x=.ref a/\pU H2 a y o/\Q (.bl (neg != o.isSome)) H2) (AN neg):=λG M h H x y v u Q QV r i j q out=>by
 unfold AN at q
 simp only[AJ] at q
 split at q
 ·rename_i k0
  split at q
  ·rename_i κ hk
   split at q
   ·rename_i ks us ed
    obtain⟨a,kvs,e1,s1,d1⟩:=wt r j ed
    have g:=pU.k (k:=κ) s1
    rw[<-L9 hk (show bL ((yx t X).z G) M H _ v from i)] at g
    refine⟨a,_,e1,g,out _ h M H _ Ext.refl r ?_ q⟩
    have e:(eV k0 ks us).isSome=(mq kvs κ).isSome:=by
     rcases BL hk d1 with ⟨p,w,h1,h2,_⟩|⟨h1,h2⟩<;>rw[h1,h2]<;>rfl
    rw[e];exact iK
   ·exact q.elim
  ·exact q.elim
 ·exact q.elim
theorem MK(hu:X.A.units+1<cLine)(ha:PE X a (cV (yx t X) E A))(hb:PE X b (cV (yx t X) E B)):PC X .In a b (cV (yx t X) E (s2 (AN false) A B)):=λpins s σ H Q I q=>by
 refine w9 hu ha hb pins s σ H Q I ?_
 have z:=ui (FU (neg:=false)) q
 simp only[jy] at z
 exact z
theorem AW(hu:X.A.units+1<cLine)(ha:PE X a (cV (yx t X) E A))(hb:PE X b (cV (yx t X) E B)):PC X .NotIn a b (cV (yx t X) E (s2 (AN true) A B)):=λpins s σ H Q I q=>by
 refine Eo hu ha hb pins s σ H Q I ?_
 have z:=ui (FU (neg:=true)) q
 simp only[kx] at z
 exact z
theorem XW(h:PC X op a b (cV (yx t X) E A))(h1:ab2 op b=false):PE X (.Compare a [op] [b] pos) (cV (yx t X) E A):=SS h h1
theorem Ie(h:PC X op a b (cV (yx t X) E A))(h1:ab2 op b=false):PT X (.Compare a [op] [b] pos) (kU (yx t X) E A):=(Ts h h1).imp λ_ _ _ q=>CV q
def IY:Sm:=λ_ _ h Q=>Q [.p (.dct [] [])] h
theorem HV:PE X (.Dict [] [] pos) (cV (yx t X) E IY):=HL.imp λτ H QV ⟨G,M,σ,h,xc,Q,k,q⟩ p hp=>
 k.out _ h M _ _ (Ext.add hp) (k.rel.add hp) (by unfold cQ bL;exact⟨p,[],rfl,k.rel.nG hp,bE,(iG.nil (Y:=yx t X)).1,(iG.nil (Y:=yx t X)).2⟩) q
end
def uK(A:Sm):Im:=λxc σ h Q=>A xc σ h λds h1=>match ds with
 | [.p (.lst xs)]=>Q xs h1
 |_=>False
def XG:O1:=λx h Q=>match x with
 |.p (.lst xs)=>Q (.p (.lst xs)) h
 |.p (.tup xs)=>Q (.p (.lst xs)) h
 |_=>False
def iS(z:Str):List Pv:=z.cps.toList.map λc=>.str ⟨#[c]⟩
def XF:O1:=λx h Q=>match x with
 |.p (.str z)=>gd (nc z.length) (Q (.p (.lst (iS z))) h)
 |_=>False
def Mu:ON:=λds h Q=>match ds with
 | [.p (.int n)]=>gd (nc n.toNat&&decide (-4611686018427387904<=n)) (Q (.p (.lst (kP 0 n.toNat))) h)
 |_=>False
noncomputable def fh:List Pv->List Pv->List Pv
 |x::xs,y::ys=>.tup [x,y]::fh xs ys
 |_,_=> []
def Mx:ON:=λds h Q=>match ds with
 | [.p (.tup xs),.p (.tup ys)]=>Q (.p (.lst (fh xs ys))) h
 |_=>False
def Mw:ON:=λds h Q=>match ds with
 | [.p (.str z),.p (.tup ys)]=>gd (z.cps.all (·< 128)) (Q (.p (.lst (fh (iS z) ys))) h)
 |_=>False
section
variable {t:Tb}{c:Expr}{p:Pos}
theorem _root_.L2.PI.imp{t t':TI}(h:PI X tg e t')(i:∀σ H Q,t σ H Q->t' σ H Q):PI X tg e t:=λpins s σ H Q I q=>h pins s σ H Q I (i σ H Q q)
def aas(K:Frag)(tl:TE):TI:=λσ H R=>tl σ H λx H1=>∃a,x=.ref a/\(((∃xs,gq K H1 a xs)/\R (x_ K a) H1)\/((∃xs,el K H1 a xs)/\R (JT K a) H1))
theorem Ti{l:Expr}{tl:TE}(hl:PE X l tl):PI X tg l (aas X.K tl):=by
 intro pins s σ H R I h
 refine cM (hl pins s σ H _ I h) λv s1 ⟨x,H1,I1,r1,q1⟩=>?_
 obtain⟨a,e,q⟩:=q1
 subst e
 cases r1
 have fp:∀b ∈ [s1.heap.objs.size],lG X pins H1 b:=λb hb=>by
  have e:b=s1.heap.objs.size:=by simpa using hb
  subst e
  exact I1.Ab (au _) (I1.cN.fresh (au _))
 rcases q with ⟨⟨xs,hq⟩,q⟩|⟨⟨xs,hq⟩,q⟩
 ·obtain⟨its,rv,p,hz⟩:=I1.list hq
  refine oi p.isList ?_
  exact⟨s1.heap.objs.size,[s1.heap.objs.size],_,_,H1,rfl,I1.kept (t':=s1.toks) λb o e=>ae _ e,EM a _,⟨_,aG _ rfl,rfl,rfl⟩,fp,q⟩
 ·obtain⟨its,rv,p,hz⟩:=I1.tuple hq
  refine iP (show s1.heap.IsTuple a its.toArray from p) ?_
  exact⟨s1.heap.objs.size,[s1.heap.objs.size],_,_,H1,rfl,I1.kept (t':=s1.toks) λb o e=>ae _ e,Be a _,⟨_,aG _ rfl,rfl,rfl⟩,fp,q⟩
def Qd(X:Cx)(H:Hp):Prop:=∃pins σ s,Inv X pins σ H s
theorem Qd.len{a:Addr}(I:Qd X H)(h:gq X.K H a vs\/el X.K H a vs):vs.length<=sizeLine:=by
 obtain⟨_,_,_,I⟩:=I
 rcases h with h|h
 ·obtain⟨_,_,_,z⟩:=I.list h;exact z
 ·obtain⟨_,_,_,z⟩:=I.tuple h;exact z
theorem xf{wi:TI}(h:PI X tg e wi):PI X tg e (λσ H R=>wi σ H λJ H1=>Qd X H1->R J H1):=λpins s σ H R I q=>
 cM (h pins s σ H _ I q) λv s1 h1=>cM h1 λXb s2 ⟨it,fp,tn,J,H',e,I',T,st,f,r⟩=>⟨it,fp,tn,J,H',e,I',T,st,f,r ⟨_,_,_,I'⟩⟩
theorem M8(he:PE X e (cV (yx t X) E A)):PI X tg e (uO (yx t X) E (uK (s1 XG A))):=(xf (Ti he)).imp λτ H R ⟨G,M,σ,h,xc,Q,k,q⟩=>by
 refine⟨G,M,σ,h,xc,_,⟨k.rel,k.env,λd h1 M1 H1 v e1 r1 i1 q1=>?_,k.exc⟩,q⟩
 cases d with
 |r _=>exact q1.elim
 |p d=>cases d with
  |lst xs=>
   unfold cQ bL at i1
   obtain⟨a,vs,rfl,na,s1,i2⟩:=i1
   exact⟨a,rfl,.inl ⟨⟨vs,gq.of s1⟩,λhd=>k.out xs h1 M1 H1 _ e1 r1 (Xc (Y:=yx t X) r1 na.1 (.inl s1) i2) (by rw[i2.len];exact hd.len (.inl (gq.of s1))) q1⟩⟩
  |tup xs=>
   obtain⟨a,vs,rfl,s1,i2⟩:=kZ i1
   exact⟨a,rfl,.inr ⟨⟨vs,s1⟩,λhd=>k.out xs h1 M1 H1 _ e1 r1 (Xf (Y:=yx t X) r1 s1 i2) (by rw[i2.len];exact hd.len (.inr s1)) q1⟩⟩
  |_=>exact q1.elim
theorem Xe:Qh Y G M H (y_ z) (iS z):=λG' M' H' h' hg e r'=>by
 refine⟨λi x hx=>?_,show(iS z).length=z.cps.size by unfold iS;rw[ah,bX]⟩
 unfold iS at hx
 rw[bP] at hx
 cases hc:z.cps.toList[i]? with
 |none=>rw[hc] at hx;cases hx
 |some c=>
  rw[hc] at hx
  cases hx
  have wF:z.cps[i]?=some c:=by rw[<-Y3];exact hc
  refine⟨(gP.mp wF).1,λw yW ⟨e2,c',h1,h2⟩=>?_⟩
  subst e2
  rw[wF] at h1;cases h1
  exact⟨Ext.refl,r',by subst h2;unfold bL;rfl⟩
theorem M9{y:Str}{py:Pos}(he:PE X e (cV (yx t X) E A)):PI X (.Name y py) e (uO (yx t X) E (uK (s1 XF A))):=(Tj he).imp λτ H R ⟨G,M,σ,h,xc,Q,k,q⟩=>by
 refine⟨G,M,σ,h,xc,_,⟨k.rel,k.env,λd h1 M1 H1 v e1 r1 i1 q1=>?_,k.exc⟩,q⟩
 cases d with
 |r _=>exact q1.elim
 |p d=>cases d with
  |str z=>
   obtain⟨c,q1⟩:=bt (show gd (nc z.length) _ from q1)
   have hz:(iS z).length<=sizeLine:=by
    unfold iS
    rw[ah,bX];exact fN c
   exact⟨z,gC i1,k.out _ h1 M1 H1 _ e1 r1 Xe hz q1⟩
  |_=>exact q1.elim
theorem M7(hg:Gl X "range")(hm:X.mg "range"=none)(ha:PA X [x] (gK (yx t X) E A))(eo:bY x=true):PI X tg (.Call (.Name "range" p) [x] [] pos) (uO (yx t X) E (uK (sN Mu A))):=
 (Ew hg hm ha (cF eo)).imp λτ H R ⟨G,M,σ,h,xc,Q,k,q⟩=>by
  refine⟨G,M,σ,h,xc,_,⟨k.rel,k.env,λd h1 M1 H1 v e1 r1 i1 q1=>?_,k.exc⟩,q⟩
  change Mu d h1 _ at q1
  unfold Mu at q1
  split at q1
  ·rename_i n
   obtain⟨c,q1⟩:=bt q1
   rw[ay] at c
   obtain⟨w,rfl,i2⟩:=i1.nV
   have hn:=fN c.1
   have l3:sizeLine<2 ^ 62:=by decide
   refine⟨n,by rw[eG i2],(by have:=aX c.2;lia),?_,k.out _ h1 M1 H1 _ e1 r1 Xd (by unfold kP;rw[ah,dU];exact hn) q1⟩
   have:(n.toNat:Int)<2 ^ 62:=by
    have:n.toNat<2 ^ 62:=mS hn l3
    exact_mod_cast this
   lia
  ·exact q1.elim
theorem uu:∀{xs ys:List Pv}{i:Nat}{z:Pv},(fh xs ys)[i]?=some z->∃x y,xs[i]?=some x/\ys[i]?=some y/\z=.tup [x,y]
 | [],_,_,_,e=>by simp[fh] at e
 |_::_,[],_,_,e=>by simp[fh] at e
 |x::_,y::_,0,_,e=>by cases e;exact⟨x,y,rfl,rfl,rfl⟩
 |_::_,_::_,i+1,_,e=>by
  obtain⟨x,y,h1,h2,h3⟩:=uu (i:=i) (by simpa [fh] using e)
  exact⟨x,y,by simpa using h1,by simpa using h2,h3⟩
theorem ku:∀(xs ys:List Pv),(fh xs ys).length=min xs.length ys.length
 | [],_=>by simp[fh]
 |_::_,[]=>by simp[fh]
 |_::xs,_::ys=>by simp[fh,ku xs ys]
theorem yo{x y:Pv}{w:V}{T:Addr}(r:bj (Y.z G) M H h)(hT:H T=none)(i:bL (Y.z G) M H x v)(j:bL (Y.z G) M H y w):bL (Y.z G) M (upd H T (.tup [v,w])) (.tup [x,y]) (.ref T):=
 o6 r hT (show aJ (Y.z G) M H ([x] ++ [y]) ([v] ++ [w]) from(aJ.one i).app (aJ.one j))
theorem Xg{t1:Addr}(r:bj (Y.z G) M H h)(s1:el Y.K H t1 vs)(s2:el Y.K H t2 ws)(i1:aJ (Y.z G) M H xs vs)(i2:aJ (Y.z G) M H ys ws):Qh Y G M H (z_ Y.K t1 t2) (fh xs ys):=λG' M' H' h' hg e r'=>by
 have s1':el Y.K H' t1 vs:=(e.mv r).Yp s1
 have TK:el Y.K H' t2 ws:=(e.mv r).Yp s2
 have ZH:=aJ.mv (e.mv r) (aJ.wk hg i1)
 have i2':=aJ.mv (e.mv r) (aJ.wk hg i2)
 refine⟨λi z hz=>?_,⟨vs,ws,s1',TK,by rw[ku,i1.len,i2.len];lia⟩⟩
 obtain⟨x,y,hx,hy,rfl⟩:=uu hz
 obtain⟨v,hv,pv⟩:=ZH.get hx
 obtain⟨w,hw,pw⟩:=i2'.get hy
 refine⟨⟨vs,ws,v,w,s1',TK,hv,hw⟩,λu yW ⟨T,hT,hu,y2⟩=>?_⟩
 have e2:=y2 vs ws v w s1' TK hv hw
 subst e2 hu
 exact⟨Ext.add hT,r'.add hT,yo r' hT pv pw⟩
theorem Na(hg:Gl X "zip")(hm:X.mg "zip"=none)(ha:PA X [a,b] (gK (yx t X) E A))(h1:bY a=true)(h2:bY b=true):PI X (.Tuple es k0 rh) (.Call (.Name "zip" p) [a,b] [] pos) (uO (yx t X) E (uK (sN Mx A))):=
 (xf (Tn hg hm ha (by rw[cF h1,cF h2];rfl) (by rw[cF h2];rfl))).imp λτ H R ⟨G,M,σ,h,xc,Q,k,q⟩=>by
  refine⟨G,M,σ,h,xc,_,⟨k.rel,k.env,λd h1 M1 H1 v e1 r1 i1 q1=>?_,k.exc⟩,q⟩
  change Mx d h1 _ at q1
  unfold Mx at q1
  split at q1
  ·obtain⟨w,u,rfl,i2,i3⟩:=i1.two'
   obtain⟨a1,vs,rfl,s1,i4⟩:=kZ i2
   obtain⟨a2,ws,rfl,s2,i5⟩:=kZ i3
   refine⟨a1,a2,rfl,⟨vs,s1⟩,⟨ws,s2⟩,λhd=>k.out _ h1 M1 H1 _ e1 r1 (Xg (Y:=yx t X) r1 s1 s2 i4 i5) ?_ q1⟩
   rw[ku,i4.len]
   exact aA (Nat.min_le_left ..) (hd.len (.inr s1))
  ·exact q1.elim
theorem RO(r:bj (Y.z G) M H h)(s2:el Y.K H t2 ws)(i2:aJ (Y.z G) M H ys ws):Qh Y G M H (Qg Y.K z t2) (fh (iS z) ys):=λG' M' H' h' hg e r'=>by
 have TK:el Y.K H' t2 ws:=(e.mv r).Yp s2
 have i2':=aJ.mv (e.mv r) (aJ.wk hg i2)
 have hl:(iS z).length=z.cps.size:=by unfold iS;rw[ah,bX]
 refine⟨λi q hq=>?_,⟨by rw[ku,hl];lia,ws,TK,by rw[ku,hl,i2.len];lia⟩⟩
 obtain⟨x,y,hx,hy,rfl⟩:=uu hq
 obtain⟨w,hw,pw⟩:=i2'.get hy
 unfold iS at hx
 rw[bP] at hx
 cases hc:z.cps.toList[i]? with
 |none=>rw[hc] at hx;cases hx
 |some c=>
  rw[hc] at hx;cases hx
  have wF:z.cps[i]?=some c:=by rw[<-Y3];exact hc
  refine⟨⟨ws,c,w,wF,TK,hw⟩,λu yW ⟨T,hT,hu,y2⟩=>?_⟩
  have e2:=y2 ws c w wF TK hw
  subst e2 hu
  exact⟨Ext.add hT,r'.add hT,yo r' hT (by unfold bL;rfl) pw⟩
theorem HX(hg:Gl X "zip")(hm:X.mg "zip"=none)(ha:PA X [a,b] (gK (yx t X) E A))(h1:bY a=true)(h2:bY b=true):PI X (.Tuple es k0 rh) (.Call (.Name "zip" p) [a,b] [] pos) (uO (yx t X) E (uK (sN Mw A))):=
 (xf (Nl hg hm ha (by rw[cF h1,cF h2];rfl) (by rw[cF h2];rfl))).imp λτ H R ⟨G,M,σ,h,xc,Q,k,q⟩=>by
  refine⟨G,M,σ,h,xc,_,⟨k.rel,k.env,λd h1 M1 H1 v e1 r1 i1 q1=>?_,k.exc⟩,q⟩
  change Mw d h1 _ at q1
  unfold Mw at q1
  split at q1
  ·obtain⟨w,u,rfl,i2,i3⟩:=i1.two'
   obtain⟨a2,ws,rfl,s2,i5⟩:=kZ i3
   obtain⟨c,q1⟩:=bt q1
   refine⟨_,a2,by rw[gC i2],c,⟨ws,s2⟩,λhd=>k.out _ h1 M1 H1 _ e1 r1 (RO (Y:=yx t X) r1 s2 i5) ?_ q1⟩
   rw[ku,i5.len]
   exact aA (j7 ..) (hd.len (.inr s2))
  ·exact q1.elim
end
abbrev OM:=Dv->List Dv->Hs->(Dv->Hs->Prop)->Prop
def Dl(Y:T0)(r:V->List V->Hp->VK->Prop)(o:OM):Prop:=∀G M h H x xs v vs Q QV,bj (Y.z G) M H h->cQ (Y.z G) M H x v->cC (Y.z G) M H xs vs->o x xs h Q->(∀d h' M' H' w,Ext M H M' H'->bj (Y.z G) M' H' h'->cQ (Y.z G) M' H' d w->Q d h'->QV w H')->r v vs H QV
def GY(c:Nat)(h:Hs)(x:Dv):Bool:=match c with
 |0=>match x with
  |.p (.str _)=>true
  |_=>false
 |4=>(qY h x).isSome||(Ay h x).isSome
 |_=>false
def TN(c:Nat)(o:OM)(A R:Sm):Sm:=λxc σ h Q=>A xc σ h λxs h1=>match xs with
 | [x]=>gd (GY c h1 x) (R xc σ h1 λds h2=>o x ds h2 λd h3=>Q [d] h3)
 |_=>False
section
variable {t:Tb}{o:Expr}{C R:Sm}{p apos du:Pos}
theorem Mb{x:Dv}{ds:List Dv}(r:bj (Y.z G) M H h)(i:cQ (Y.z G) M H x v)(e:Ay h x=some ds):∃n a vs,x=.r n/\M[n]?=some a/\v=.ref a/\H a=some (.lst vs)/\cC (Y.z G) M H ds vs:=by
 unfold Ay at e
 split at e
 ·split at e
  ·rename_i ho
   cases e
   obtain⟨a,h1,h2⟩:=i
   obtain⟨vs,h3,h4⟩:=r.at' h1 ho
   exact⟨_,a,vs,rfl,h1,h2,h3,h4⟩
  ·cases e
 ·cases e
theorem OX{x:Dv}(r:bj (Y.z G) M H h)(i:cQ (Y.z G) M H x v)(e:GY c h x=true):Z6 Y.K (kq c) v H:=by
 unfold GY at e
 split at e
 ·split at e
  ·rw[gC i];exact(rfl:"str"="str")
  ·cases e
 ·rw[dX] at e
  rcases e with e|e
  ·obtain⟨xs,ex⟩:=dH.mp e
   obtain⟨a,vs,e1,s1,i1⟩:=ig r i ex
   rw[e1];exact .inl ⟨rfl,vs,gq.of s1⟩
  ·obtain⟨xs,ex⟩:=dH.mp e
   obtain⟨n,a,vs,_,_,e1,s1,i1⟩:=Mb r i ex
   rw[e1];exact .inl ⟨rfl,vs,gq.of s1⟩
 ·cases e
theorem Ue{o:OM}(ho:Dl (yx t X) r o)(h:cV (yx t X) E (TN c o A R) τ H QV):tBM X.K (kq c) r (cV (yx t X) E A) (gK (yx t X) E R) τ H QV:=by
 obtain⟨G,M,σ,h,xc,Q,k,q⟩:=h
 refine⟨G,M,σ,h,xc,_,⟨k.rel,k.env,λd h1 M1 H1 v e1 r1 i1 q1=>?_,k.exc⟩,q⟩
 obtain⟨c1,q1⟩:=bt (show gd (GY c h1 d) _ from q1)
 refine⟨OX r1 i1 c1,G,M1,σ,h1,xc,_,⟨r1,k.env.ext k.rel e1,λds h2 M2 H2 vs e2 r2 i2 q2=>?_,k.QX e1⟩,q1⟩
 exact ho G M2 h2 H2 d ds v vs _ _ r2 (i1.ext r1 e2) i2 q2 λd3 h3 M3 H3 w e3 r3 i3 q3=>k.out d3 h3 M3 H3 w (e1.trans (e2.trans e3)) r3 i3 q3
theorem zX(eo:(e::es).all bY=true)(hl:(e::es).length<30):((ac5 du (aa9 (e::es) X.env)).all (λx=>!x.1)&&(backToKw du (keywordEach [] X.env)).all (λx=>x.1.isSome)
   && decide ((e::es).length+([]:List ac4).length+(if ([]:List ac4).isEmpty then 0 else 1)<30))=true:=by
 have h1:=gJ (env:=X.env) (pos:=du) eo
 have h2:(ac5 du (aa9 (e::es) X.env)).all (λx=>!x.1)=true:=by
  rw[aj]
  intro x hx
  rw[List.any_eq_false] at h1
  have:=h1 x hx
  simpa using this
 rw[h2,f9]
 simp only[ay]
 exact⟨rfl,aT (by simpa using hl)⟩
theorem Pd{id:String}(pa:PlainAttrs (kq c))(slot:Slot (kq c) name id)(W3:typeOf (.builtin id)=pure (.type "method_descriptor"))(hm:Qk X id r)(hom:Dl (yx t X) r oo)(ho:PE X o (cV (yx t X) E A))(ha:PA X (a::rest) (gK (yx t X) E R))
  (tG:ab3 o name X.env (eval o X.env)=eval o X.env) (eo:(a::rest).all bY=true) (hl:(a::rest).length<30) (o4:(apos.endLine == du.line)=true):PE X (.Call (.Attribute o name apos) (a::rest) [] du) (cV (yx t X) E (TN c oo A R)):=by
 have hp:=eo
 rw[aB,ay] at hp
 exact(vp pa slot W3 hm ho ha tG (zX eo hl) o4 (cF hp.1) (gJ hp.2)).imp λ_ _ _=>Ue hom
theorem S4{id:String}(h:PE X (.Call (.Attribute o name apos) [] [] du) (Yv X.K (kq c) r (cV (yx t X) E A)))(hom:Dl (yx t X) r oo):PE X (.Call (.Attribute o name apos) [] [] du) (cV (yx t X) E (TN c oo A EF)):=
 h.imp λτ H QV ⟨G,M,σ,h,xc,Q,k,q⟩=>by
  refine⟨G,M,σ,h,xc,_,⟨k.rel,k.env,λd h1 M1 H1 v e1 r1 i1 q1=>?_,k.exc⟩,q⟩
  obtain⟨c1,q1⟩:=bt (show gd (GY c h1 d) _ from q1)
  exact⟨OX r1 i1 c1,hom G M1 h1 H1 d [] v [] _ _ r1 i1 trivial q1 λd3 h3 M3 H3 w e3 r3 i3 q3=>k.out d3 h3 M3 H3 w (e1.trans e3) r3 i3 q3⟩
def Sf:OM:=λx ds h Q=>match x,ds with
 |.r i,[d]=>match h[i]? with
  |some (.lst xs)=>match d with
   |.p y=>gd (nc (xs.length+1)) (Q (.p .non) (h.set i (.lst (xs ++ [y]))))
   |.r _=>False
  |some (.vj xs)=>gd (nc (xs.length+1)) (Q (.p .non) (h.set i (.vj (xs ++ [d]))))
  |_=>False
 |_,_=>False
theorem cC.app{Z:Tx}:∀{xs ys:List Dv}{vs ws:List V},cC Z M H xs vs->cC Z M H ys ws->cC Z M H (xs++ys) (vs++ws)
 | [],_,[],_,_,q=>q
 | [],_,_::_,_,h,_=>h.elim
 |_::_,_,[],_,h,_=>h.elim
 |_::_,_,_::_,_,h,q=>⟨h.1,cC.app h.2 q⟩
theorem cC.one(h:cQ Z M H d v):cC Z M H [d] [v]:=⟨h,trivial⟩
theorem LF:Dl Y xk Sf:=λG M h H x xs v vs Q QV r i j0 q out=>by
 unfold Sf at q
 split at q
 ·rename_i n d
  obtain⟨w,rfl,j⟩:=j0.nV
  obtain⟨a,h1,h2⟩:=i
  have ha:a∈M:=aS h1
  split at q
  ·rename_i ys ho
   cases d with
   |r _=>exact q.elim
   |p y=>
   obtain⟨c,q⟩:=bt q
   obtain⟨ws,h3,h4⟩:=r.at' h1 ho
   have c2:=fN c
   refine⟨a,ws,w,h2,rfl,h3,by rw[h4.len] at c2;exact c2,?_⟩
   refine out _ _ M _ .non (Ext.put ha) (r.put (o:=.lst (ys ++ [y])) h1 ⟨_,bE,?_⟩) o5 q
   exact(h4.app (aJ.one j)).ext r (Ext.put ha)
  ·rename_i ys ho
   obtain⟨c,q⟩:=bt q
   obtain⟨ws,h3,h4⟩:=r.at' h1 ho
   have c2:=fN c
   refine⟨a,ws,w,h2,rfl,h3,by rw[h4.len] at c2;exact c2,?_⟩
   refine out _ _ M _ .non (Ext.put ha) (r.put (o:=.vj (ys ++ [d])) h1 ⟨_,bE,?_⟩) o5 q
   exact(h4.app (cC.one j)).ext r (Ext.put ha)
  ·exact q.elim
 ·exact q.elim
noncomputable def abj(xs:List Pv)(v:Pv):Int->Option (List Pv)
 |.ofNat n=>match Nat.ble (n+1) xs.length with
  |true=>some (xs.set n v)
  |false=>none
 |_=>none
def Yg(A B C:Sm):Ss:=λN σ h=>A N.xc σ h λvs h1=>match vs with
 | [.p v]=>B N.xc σ h1 λxs h2=>match xs with
  | [.r i]=>C N.xc σ h2 λys h3=>match ys with
   | [.p (.int k)]=>match h3[i]? with
    |some (.lst zs)=>match abj zs v k with
     |some zs'=>N.nx σ (h3.set i (.lst zs'))
     |none=>False
    |_=>False
   |_=>False
  |_=>False
 |_=>False
theorem aJ.set{Z:Tx}{x:Pv}{v:V}(i:bL Z M H x v):∀{xs:List Pv}{vs:List V} (n:Nat),aJ Z M H xs vs->aJ Z M H (xs.set n x) (vs.set n v)
 | [],[],_,q=>q
 | [],_::_,_,q=>by unfold aJ at q;exact q.elim
 |_::_,[],_,q=>by unfold aJ at q;exact q.elim
 |_::_,_::_,0,q=>by
  unfold aJ at q
  rw[List.set_cons_zero,List.set_cons_zero]
  unfold aJ;exact⟨i,q.2⟩
 |_::_,_::_,n+1,q=>by
  unfold aJ at q
  rw[List.set_cons_succ,List.set_cons_succ]
  unfold aJ;exact⟨q.1,aJ.set i n q.2⟩
theorem Tu(h:fO (yx t X) E (Yg A B C) D τ H):yN (cV (yx t X) E A) (Wj (cV (yx t X) E B) (cV (yx t X) E C) Pn) D τ H:=by
 obtain⟨G,M,σ,h,N,k,q⟩:=h
 have ex:∀{M' H'},Ext M H M' H'->∀C h1 M1 H1,Ext M' H' M1 H1->bj ((yx t X).z G) M1 H1 h1->N.xc C h1->E (.ref (t.ca C)) none H1:=λe C h1 M1 H1 x r q=>k.exc C h1 M1 H1 (e.trans x) r q
 refine⟨G,M,σ,h,N.xc,_,⟨k.rel,k.env,λd h1 M1 H1 v e1 r1 i1 q1=>?_,k.exc⟩,q⟩
 cases d with
 |r _=>exact q1.elim
 |p x=>
  refine⟨G,M1,σ,h1,N.xc,_,⟨r1,k.env.ext k.rel e1,λd2 h2 M2 H2 v2 e2 r2 i2 q2=>?_,ex e1⟩,q1⟩
  cases d2 with
  |p _=>exact q2.elim
  |r n=>
   refine⟨G,M2,σ,h2,N.xc,_,⟨r2,k.env.ext k.rel (e1.trans e2),λd3 h3 M3 H3 v3 e3 r3 i3 q3=>?_,ex (e1.trans e2)⟩,q2⟩
   split at q3
   ·rename_i kk Θ
    injection Θ with Θ
    subst Θ
    split at q3
    ·rename_i zs ho
     split at q3
     ·rename_i zs' hz
      obtain⟨a,g1,g2⟩:=i2.ext r2 e3
      obtain⟨ws,g3,g4⟩:=r3.at' g1 ho
      have ha:a∈M3:=aS g1
      cases kk with
      |negSucc m=>cases hz
      |ofNat m=>
       change (match Nat.ble (m+1) zs.length with|true=>some (zs.set m x)|false=>none)=some zs' at hz
       split at hz
       ·rename_i hb
        cases hz
        have hm:m<zs.length:=aU hb
        refine⟨a,ws,(m:Int),m,g2,eG i3,g3,?_,?_⟩
        ·unfold LV
         rw[bF (Int.natCast_nonneg m),bF (by rw[<-g4.len];lia)];rfl
        ·have ix:=((show bL ((yx t X).z G) M1 H1 x v from i1).ext r1 e2).ext r2 e3
         refine k.nx σ _ M3 _ τ ((e1.trans (e2.trans e3)).trans (Ext.put ha)) (r3.put (o:=.lst (zs.set m x)) g1 ⟨_,bE,?_⟩) (k.env.ext k.rel ((e1.trans (e2.trans e3)).trans (Ext.put ha))) q3
         exact(g4.set ix m).ext r3 (Ext.put ha)
       ·cases hz
     ·exact q3.elim
    ·exact q3.elim
   ·exact q3.elim
def Pu(A B C:Sm):Ss:=λN σ h=>A N.xc σ h λvs h1=>match vs with
 | [.p v]=>B N.xc σ h1 λxs h2=>match xs with
  | [.r i]=>C N.xc σ h2 λys h3=>match ys with
   | [.p k]=>match h3[i]?,lH k with
    |some (.dct ks us),some _=>gd (nc (ks.length+1)) (N.nx σ (h3.set i (.dct (gj k ks) (jh k v ks us))))
    |_,_=>False
   |_=>False
  |_=>False
 |_=>False
theorem K8(h:fO (yx t X) E (Pu A B C) D τ H):Pt (cV (yx t X) E B) (cV (yx t X) E C) (cV (yx t X) E A) D τ H:=by
 obtain⟨G,M,σ,h,N,k,q⟩:=h
 have ex:∀{M' H'},Ext M H M' H'->∀C h1 M1 H1,Ext M' H' M1 H1->bj ((yx t X).z G) M1 H1 h1->N.xc C h1->E (.ref (t.ca C)) none H1:=λe C h1 M1 H1 x r q=>k.exc C h1 M1 H1 (e.trans x) r q
 refine⟨G,M,σ,h,N.xc,_,⟨k.rel,k.env,λd h1 M1 H1 v e1 r1 i1 q1=>?_,k.exc⟩,q⟩
 cases d with
 |r _=>exact q1.elim
 |p x=>
  refine⟨G,M1,σ,h1,N.xc,_,⟨r1,k.env.ext k.rel e1,λd2 h2 M2 H2 v2 e2 r2 i2 q2=>?_,ex e1⟩,q1⟩
  cases d2 with
  |p _=>exact q2.elim
  |r n=>
   refine⟨G,M2,σ,h2,N.xc,_,⟨r2,k.env.ext k.rel (e1.trans e2),λd3 h3 M3 H3 v3 e3 r3 i3 q3=>?_,ex (e1.trans e2)⟩,q2⟩
   cases d3 with
   |r _=>exact q3.elim
   |p kk=>
    change (match h3[n]?,lH kk with
     |some (.dct ks us),some _=>gd (nc (ks.length+1)) (N.nx σ (h3.set n (.dct (gj kk ks) (jh kk x ks us))))
     |_,_=>False) at q3
    split at q3
    ·rename_i ks us κ ho hk
     obtain⟨c,q3⟩:=bt q3
     obtain⟨a,g1,g2⟩:=i2.ext r2 e3
     obtain⟨kvs,g3,g4⟩:=r3.at' g1 ho
     have ha:a∈M3:=aS g1
     have ix:=((show bL ((yx t X).z G) M1 H1 x v from i1).ext r1 e2).ext r2 e3
     have hv:=L9 hk (show bL ((yx t X).z G) M3 H3 kk v3 from i3)
     have c2:=fN c
     have hl:kvs.length<sizeLine:=by
      have:=g4.1.len
      rw[ah] at this
      lia
     refine⟨a,_,g2,by rw[hv];exact Fe.k g3 hl,?_⟩
     have d:=BP (Y:=yx t X) hk ix g4
     refine k.nx σ _ M3 _ τ ((e1.trans (e2.trans e3)).trans (Ext.put ha)) (r3.put (o:=.dct (gj kk ks) (jh kk x ks us)) g1 ⟨_,bE,d.1.ext r3 (Ext.put ha),d.2.ext r3 (Ext.put ha)⟩) (k.env.ext k.rel ((e1.trans (e2.trans e3)).trans (Ext.put ha))) q3
    ·exact q3.elim
structure xG (K:Frag) (t:Tb) (c:Nat):Prop where
 cl:Kf K (t.ca c)
 na:∀f∈t.fl c,iH K (t.ca c) f
 nd:(t.fl c).Nodup
noncomputable def We (c j:Nat) (h:Hs):Dv->Option Dv
 |.p (.obj c' fs)=>match Nat.beq c' c with
  |true=>match fs[j]? with
   |some x=>some (.p x)
   |none=>none
  |false=>none
 |.r i=>match h[i]? with
  |some (.ins c' fs)=>match Nat.beq c' c with
   |true=>fs[j]?
   |false=>none
  |_=>none
 |_=>none
def Mr(c j:Nat):O1:=λx h Q=>match We c j h x with
 |some d=>Q d h
 |none=>False
theorem ql{f:Str}:∀{fv:List (Str×V)}{l:lS7}{j:Nat}{v:V},l.Nodup->fv.map (·.1)=l.take fv.length->l[j]?=some f->(fv.map (·.2))[j]?=some v->fv.lookup f=some v
 | [],_,_,_,_,_,_,e=>by simp at e
 |(g,w)::fv,[],_,_,_,e,_,_=>by simp at e
 |(g,w)::fv,x::l,0,v,nd,e,h1,h2=>by
  rw[aP,aF,d7] at e
  injection e with e1 e2
  cases h1;cases h2
  rw[g6,show(f == g)=true from mV.mpr e1.symm]
 |(g,w)::fv,x::l,j+1,v,nd,e,h1,h2=>by
  rw[aP,aF,d7] at e
  injection e with e1 e2
  rw[cA] at nd
  have hf:f∈l:=aS (by simpa using h1)
  rw[g6,show(f == g)=false from cP.mpr λz=>nd.1 (by rw[<-e1,<-z];exact hf)]
  exact ql nd.2 e2 (by simpa using h1) (by simpa using h2)
theorem S1(hc:xG X.K t c)(hj:(t.fl c)[j]?=some f)(ha:PE X a (cV (yx t X) E A))(hb:ab3 a f X.env (eval a X.env)=eval a X.env):PE X (.Attribute a f pos) (cV (yx t X) E (s1 (Mr c j) A)):=
 (SU ha hb).imp λτ H QV ⟨G,M,σ,h,xc,Q,k,q⟩=>by
  refine⟨G,M,σ,h,xc,_,⟨k.rel,k.env,λd h1 M1 H1 v e1 r1 i1 q1=>?_,k.exc⟩,q⟩
  change Mr c j d h1 _ at q1
  unfold Mr at q1
  split at q1
  ·rename_i d2 e2
   cases d with
   |p d=>cases d with
    |obj c' fs=>
     change (match Nat.beq c' c with
      |true=>match fs[j]? with
       |some x=>some (Dv.p x)
       |none=>none
      |false=>none)=some d2 at e2
     split at e2
     ·rename_i ec
      split at e2
      ·rename_i x ex
       cases e2
       obtain rfl:=ao ec
       unfold cQ bL at i1
       obtain⟨a,dx,fv,rfl,_,s1,l1,i2⟩:=i1
       obtain⟨w,g1,g2⟩:=i2.get ex
       have ln:fs.length=fv.length:=by have:=i2.len;rw[ah] at this;exact this
       rw[ln] at l1
       exact⟨a,_,dx,fv,w,rfl,s1,hc.cl,hc.na f (aS hj),ql hc.nd l1 hj g1,k.out (.p x) h1 M1 H1 w e1 r1 g2 q1⟩
      ·cases e2
     ·cases e2
    |_=>cases e2
   |r n=>
    change (match h1[n]? with
     |some (.ins c' fs)=>match Nat.beq c' c with
      |true=>fs[j]?
      |false=>none
     |_=>none)=some d2 at e2
    split at e2
    ·rename_i c' fs ho
     split at e2
     ·rename_i ec
      obtain rfl:=ao ec
      obtain⟨a,g0,rfl⟩:=i1
      obtain⟨dx,fv,s1,_,l1,i2⟩:=r1.at' g0 ho
      obtain⟨w,g1,g2⟩:=i2.get e2
      have ln:fs.length=fv.length:=by have:=i2.len;rw[ah] at this;exact this
      rw[ln] at l1
      exact⟨a,_,dx,fv,w,rfl,s1,hc.cl,hc.na f (aS hj),ql hc.nd l1 hj g1,k.out d2 h1 M1 H1 w e1 r1 g2 q1⟩
     ·cases e2
    ·cases e2
  ·exact q1.elim
noncomputable def TY(j:Nat)(d:Dv)(fs:List Dv):Option (List Dv):=match Nat.beq j fs.length with
 |true=>some (fs ++ [d])
 |false=>match Nat.ble (j+1) fs.length with
  |true=>some (fs.set j d)
  |false=>none
def Pw(c j:Nat)(A B:Sm):Ss:=λN σ h=>A N.xc σ h λvs h1=>match vs with
 | [d]=>B N.xc σ h1 λxs h2=>match xs with
  | [.r i]=>match h2[i]? with
   |some (.ins c' fs)=>gd (Nat.beq c' c&&Nat.ble (fs.length+1) 1000) (match TY j d fs with
    |some Ga=>N.nx σ (h2.set i (.ins c Ga))
    |none=>False)
   |_=>False
  |_=>False
 |_=>False
theorem Cz{f:Str}{v:V}:∀{fv:List (Str×V)}{l:lS7}{j:Nat},l.Nodup->fv.map (·.1)=l.take fv.length->l[j]?=some f->j<fv.length->(iL f v fv).map (·.1)=fv.map (·.1)/\(iL f v fv).map (·.2)=(fv.map (·.2)).set j v/\(iL f v fv).length=fv.length
 | [],_,_,_,_,_,h=>by simp at h
 |(g,w)::fv,[],_,_,e,_,_=>by simp at e
 |(g,w)::fv,x::l,0,nd,e,h1,_=>by
  rw[aP,aF,d7] at e
  injection e with e1 e2
  cases h1
  have:iL f v ((g,w)::fv)=(g,v)::fv:=bF e1
  rw[this];exact⟨rfl,rfl,rfl⟩
 |(g,w)::fv,x::l,j+1,nd,e,h1,hj=>by
  rw[aP,aF,d7] at e
  injection e with e1 e2
  rw[cA] at nd
  have hf:f∈l:=aS (by simpa using h1)
  have:iL f v ((g,w)::fv)=(g,w)::iL f v fv:=bJ λz=>nd.1 (by rw[<-e1];show g∈l;rw[z];exact hf)
  rw[this]
  obtain⟨a,b,c⟩:=Cz (v:=v) (fv:=fv) nd.2 e2 (by simpa using h1) (by simpa using hj)
  exact⟨by rw[aP,a];rfl,by rw[aP,b];rfl,by rw[aF,c];rfl⟩
theorem yG{f:Str}{v:V}:∀{fv:List (Str×V)}{l:lS7},l.Nodup->fv.map (·.1)=l.take fv.length->l[fv.length]?=some f->iL f v fv=fv ++ [(f,v)]
 | [],_,_,_,_=>rfl
 |(g,w)::fv,[],_,e,_=>by simp at e
 |(g,w)::fv,x::l,nd,e,h1=>by
  rw[aP,aF,d7] at e
  injection e with e1 e2
  rw[cA] at nd
  have y6:l[fv.length]?=some f:=by simpa using h1
  have:iL f v ((g,w)::fv)=(g,w)::iL f v fv:=bJ λz=>nd.1 (by rw[<-e1];show g∈l;rw[z];exact aS y6)
  rw[this,yG nd.2 e2 y6];rfl
theorem cC.set{Z:Tx}{x:Dv}{v:V}(i:cQ Z M H x v):∀{xs:List Dv}{vs:List V} (n:Nat),cC Z M H xs vs->cC Z M H (xs.set n x) (vs.set n v)
 | [],[],_,q=>q
 | [],_::_,_,q=>q.elim
 |_::_,[],_,q=>q.elim
 |_::_,_::_,0,q=>⟨i,q.2⟩
 |_::_,_::_,n+1,q=>⟨q.1,cC.set i n q.2⟩
theorem Li(hc:xG X.K t c)(hj:(t.fl c)[j]?=some f)(h:fO (yx t X) E (Pw c j A B) D τ H):Yd X.K (cV (yx t X) E B) (cV (yx t X) E A) f D τ H:=by
 obtain⟨G,M,σ,h,N,k,q⟩:=h
 refine⟨G,M,σ,h,N.xc,_,⟨k.rel,k.env,λd h1 M1 H1 v e1 r1 i1 q1=>?_,k.exc⟩,q⟩
 refine⟨G,M1,σ,h1,N.xc,_,⟨r1,k.env.ext k.rel e1,λd2 h2 M2 H2 v2 e2 r2 i2 q2=>?_,λC h1 M1 H1 x r q=>k.exc C h1 M1 H1 (e1.trans x) r q⟩,q1⟩
 cases d2 with
 |p _=>exact q2.elim
 |r n=>
  change (match h2[n]? with
   |some (.ins c' fs)=>gd (Nat.beq c' c&&Nat.ble (fs.length+1) 1000) (match TY j d fs with
    |some Ga=>N.nx σ (h2.set n (.ins c Ga))
    |none=>False)
   |_=>False) at q2
  split at q2
  ·rename_i c' fs ho
   obtain⟨c1,q2⟩:=bt q2
   rw[ay] at c1
   obtain rfl:=ao c1.1
   have hl:=aU c1.2
   split at q2
   ·rename_i Ga hs
    obtain⟨a,g0,rfl⟩:=i2
    have ha:a∈M2:=aS g0
    obtain⟨dx,fv,s1,s2,l1,i3⟩:=r2.at' g0 ho
    have ln:fs.length=fv.length:=by have:=i3.len;rw[ah] at this;exact this
    rw[ln] at l1
    have ZH:=i1.ext r1 e2
    refine⟨a,_,dx,fv,rfl,s1,hc.cl,hc.na f (aS hj),by lia,?_⟩
    have dxa:dx≠a:=λz=>by rw[z,s1] at s2;cases s2
    have fin:∀Wg,Wg.map (·.1)=(t.fl c').take Ga.length->cC ((yx t X).z G) M2 H2 Ga (Wg.map (·.2))->D.nx τ (upd H2 a (.ins (t.ca c') dx Wg)):=λWg y6 OP=>
     k.nx σ _ M2 _ τ ((e1.trans e2).trans (Ext.put ha)) (r2.put (o:=.ins c' Ga) g0 ⟨dx,Wg,bE,by rw[bf dxa];exact s2,y6,OP.ext r2 (Ext.put ha)⟩) (k.env.ext k.rel ((e1.trans e2).trans (Ext.put ha))) q2
    unfold TY at hs
    split at hs
    ·rename_i ej
     cases hs
     have ej:=ao ej
     subst ej
     rw[ln] at hj
     rw[yG hc.nd l1 hj]
     refine fin _ ?_ ?_
     ·rw[bR,l1,ai,ln]
      show List.take fv.length (t.fl c') ++ [f]=List.take (fv.length+1) (t.fl c')
      rw[List.take_succ,hj];rfl
     ·rw[bR];exact i3.app (cC.one ZH)
    ·split at hs
     ·rename_i eb
      cases hs
      have hjl:j<fv.length:=by rw[<-ln];exact aU eb
      obtain⟨p1,p2,p3⟩:=Cz (v:=v) hc.nd l1 hj hjl
      refine fin _ ?_ ?_
      ·rw[p1,l1,c8,ln]
      ·rw[p2];exact i3.set ZH j
     ·cases hs
   ·exact q2.elim
  ·exact q2.elim
def Xx(c:Nat)(h1:Hs)(Q:KP)(l:Hs):Prop:=match l with
 | [.ins c' fs]=>match Ez fs with
  |some ps=>gd (Nat.beq c' c) (Q [.p (.obj c ps)] h1)
  |none=>False
 |_=>False
def RB:Dv->Bool
 |.p .non=>true
 |_=>false
def Yf(c:Nat)(ct:Ct)(A:Sm):Sm:=λxc σ h Q=>A xc σ h λds h1=>match Ez ds with
 |some _=>ct (.r 0::ds) [.ins c []] (λd l=>gd (RB d) (Xx c h1 Q l)) (λ_ _=>False)
 |none=>False
theorem ID{Z Z':Tx}{M M':List Addr}{H H':Hp}(f:∀{x v},bL Z M H x v->bL Z' M' H' x v):∀{ds:List Dv}{vs:List V}{xs:List Pv},Ez ds=some xs->cC Z M H ds vs->cC Z' M' H' ds vs
 | [],[],_,_,_=>trivial
 | [],_::_,_,_,q=>q
 |_::_,[],_,_,q=>q
 |.r _::_,_::_,_,e,_=>by cases e
 |.p x::ds,v::vs,xs,e,q=>by
  unfold Ez at e
  split at e
  ·rename_i ys ey
   exact⟨f q.1,ID f ey q.2⟩
  ·cases e
theorem CA:∀{ds:List Dv}{xs:List Pv},Ez ds=some xs->ds.length=xs.length
 | [],_,e=>by cases e;rfl
 |.r _::_,_,e=>by cases e
 |.p x::ds,xs,e=>by
  unfold Ez at e
  split at e
  ·rename_i ys ey
   cases e
   rw[aF,aF,CA ey]
  ·cases e
theorem S5{x:Str}{ps:lS7}{ct:Ct}(D:uA X.prog X.w X.K X.mg X.base k0 x (t.ca c) ps (lL (yx t X) ct))(hr:fi (k0+1) X.A)(hg:Gl X x)(ha:PA X (a::rest) (gK (yx t X) E A))(jT:(x == ("__debug__":Str))=false)(eo:(a::rest).all bY=true) :
  PE X (.Call (.Name x p) (a::rest) [] pos) (cV (yx t X) E (Yf c ct A)):=(HM D hr hg ha jT eo).imp λτ H QV ⟨G,M,σ,h,xc,Q,k,q⟩=>by
 refine⟨G,M,σ,h,xc,_,⟨k.rel,k.env,λd h1 M1 H1 v e1 r1 i1 q1=>?_,k.exc⟩,q⟩
 split at q1
 ·rename_i xs ex
  intro x dx nx nd ndx
  have nx2:upd H1 dx (.own x) x=none:=by rw[bf (cR ndx)];exact nx
  have sm:iI H1 (upd (upd H1 dx (.own x)) x (.ins (t.ca c) dx [])):=λb o e=>by rw[bf (bB e nx),bf (bB e nd)];exact e
  have hx:upd (upd H1 dx (.own x)) x (.ins (t.ca c) dx []) x=some (.ins (t.ca c) dx []):=bE
  have hdx:upd (upd H1 dx (.own x)) x (.ins (t.ca c) dx []) dx=some (.own x):=by rw[bf ndx];exact bE
  generalize upd (upd H1 dx (.own x)) x (.ins (t.ca c) dx [])=H2 at sm hx hdx
  have r2:=mf r1 sm
  rw[bS]
  refine⟨G++M1,[x],[.ins c []],.r 0::d,_,_,⟨by simp,λb hb=>?_,rfl,λb hb=>?_,λi a o g1 g2=>?_⟩,⟨⟨x,rfl,rfl⟩,?_⟩,q1,λd h' M' H' v e' r' i' qa=>?_,λc h' M' H' e' r' q'=>q'.elim⟩
  ·rw[aO.mp hb]
   obtain⟨n1,n2⟩:=r1.nG nx
   exact λz=>(bu.mp z).elim n2 n1
  ·rcases bu.mp hb with z|z
   ·exact r2.gs b z
   ·obtain⟨o,e,_⟩:=r2.there z;exact⟨o,e⟩
  ·cases i with
   |zero=>cases g1;cases g2;exact⟨dx,[],hx,hdx,rfl,trivial⟩
   |succ i=>simp at g1
  ·refine ID (λ{y w} iy=>?_) ex i1
   have iy2:=bL.fr (G':=G++M1) (M':= [x]) (λa ha=>?_) iy
   ·exact bL.mv (M':= [x]) (H':=H2) ⟨λb hb vs z=>(by
     rw[aO.mp hb] at z
     rcases z with z|⟨_,z⟩<;>rw[nx] at z<;>cases z),λb o _ e=>sm b o e,λb hb n=>absurd hb n⟩ iy2
   ·rcases ha with z|z
    ·rw[aO.mp z];exact .inr (.inr nx)
    ·exact(bu.mp z).elim (λz=>.inr (.inl z)) .inl
  ·obtain⟨cn,qb⟩:=bt qa
   clear qa
   have dn:d=.p .non:=by
    cases d with
    |r _=>cases cn
    |p d=>cases d<;>first|rfl|cases cn
   subst dn
   refine⟨Oy i',?_⟩
   unfold Xx at qb
   split at qb
   ·rename_i c' fs
    split at qb
    ·rename_i qs eq
     obtain⟨c2,qc⟩:=bt qb
     obtain rfl:=ao c2
     obtain⟨l,hl⟩:=e'.pre
     have hM:M' = [x]:=by
      have:=r'.ln
      rw[hl] at this
      cases l with
      |nil=>exact hl
      |cons _ _=>simp at this
     subst hM
     have sm2:iI H1 H':=λb o e=>e'.keep b o (λz=>by rw[aO.mp z,nx] at e;cases e) (sm b o e)
     obtain⟨dx',fv,s1,s2,l1,i3⟩:=r'.at' (i:=0) (a:=x) rfl rfl
     have i4:=qr (Y:=yx t X) eq i3
     refine k.out _ h1 M1 H' _ (e1.trans (ji sm2)) (mf r1 sm2) ?_ qc
     have fg:=r1.nG nx
     unfold cQ bL
     refine⟨x,dx',fv,rfl,fg,s1,by rw[<-CA eq];exact l1,?_⟩
     exact aJ.up (Y:=yx t X) (λa h1 h2=>⟨λz=>h2 (aM _ z),λz=>h2 (dO _ z)⟩) i4
    ·exact qb.elim
   ·exact qb.elim
 ·exact q1.elim
def NT(P:ab0)(w:ab1)(K:Frag)(mg:mG7)(base:Heap)(k:Nat)(E:XK)(tx:TE)(t:TA):TE:=λσ H Q=>tx σ H λv H1=>∃(f:Addr) (fd:ab5) (ps:lS7) (sp:Sp),
 v=.ref f/\jP P w K mg base (zr P w) k f fd ps sp/\keepIn K (.ref f)=true/\Binds K fd ps []/\t σ H1 λvs H2=>sp vs H2 Q E
theorem Ep{k:Nat}{x:Str}{tx:TE}{p:Pos}{t:TA}(hx:PE X (.Name x p) tx)(hr:fi k X.A)(hp:g8 (zr X.prog X.w) X E)(ha:PA X (e::es) t)(eo:(e::es).all bY=true) :
  PE X (.Call (.Name x p) (e::es) [] pos) (NT X.prog X.w X.K X.mg X.base k E tx t):=by
 intro pins s σ H Q I h
 rw[aB,ay] at eo
 refine fS (cM (hx pins s σ H _ I h) λv s1 ⟨y,H1,I1,r,f,fd,ps,sp,e1,F,hk,hb,q⟩=>?_)
 subst e1
 cases r
 refine mU (h₀:=X.base) I1.ok.mod.LZ hk (cM (ha pos pins s1 σ H1 _ I1 q) λus s2 ⟨vs,H2,I2,r2,q2⟩=>⟨I2.nO,?_⟩) (cF eo.1) (gJ eo.2)
 exact IQ F hr hb .nil hp I2 r2 (by rw[bS];exact q2)
def IU(fn:Nat->Ct)(uv:List Nat)(ρ:List Nat)(A R:Sm):Sm:=λxc σ h Q=>A xc σ h λxs h1=>match xs with
 | [.p (.fn i)]=>gd (hU i uv) (R xc σ h1 λds h2=>R0 ρ (fn i) ds h2 (λd h3=>Q [d] h3) xc)
 |_=>False
theorem HU{k:Nat}{x:Str}{fn:Nat->Ct}{uv ρ:List Nat}(D:∀i∈uv,∃ps,oy X.prog X.w X.K X.mg X.base k (t.oW i) ps (lL (yx t X) (fn i)))(hr:fi k X.A)(hp:g8 (zr X.prog X.w) X E)(hx:PE X (.Name x p) (cV (yx t X) E A))(ha:PA X (a::rest) (gK (yx t X) E R))(eo:(a::rest).all bY=true) :
  PE X (.Call (.Name x p) (a::rest) [] pos) (cV (yx t X) E (IU fn uv ρ A R)):=(Ep hx hr hp ha eo).imp λτ H QV ⟨G,M,σ,h,xc,Q,k,q⟩=>by
 refine⟨G,M,σ,h,xc,_,⟨k.rel,k.env,λd h1 M1 H1 v e1 r1 i1 q1=>?_,k.exc⟩,q⟩
 cases d with
 |r _=>exact q1.elim
 |p d=>cases d with
  |fn i=>
   obtain⟨c,q1⟩:=bt (show gd (hU i uv) _ from q1)
   obtain⟨ps,f,fd,F,hm,hk,hb⟩:=D i (dM.mp c)
   unfold cQ bL at i1
   obtain⟨a,h2,rfl⟩:=i1
   change X.mg (t.oW i)=some (.ref a) at h2
   rw[hm] at h2
   cases h2
   refine⟨f,fd,ps,_,rfl,F,hk,hb,G,M1,σ,h1,xc,_,⟨r1,k.env.ext k.rel e1,λds h2 M2 H2 vs e2 r2 i2 q2=>?_,k.QX e1⟩,q1⟩
   exact vC r2 i2 q2 (λd3 h3 M3 H3 w e3 r3 i3 q3=>k.out d3 h3 M3 H3 w (e1.trans (e2.trans e3)) r3 i3 q3) (λc h3 M3 H3 e3 r3 q3=>k.exc c h3 M3 H3 (e1.trans (e2.trans e3)) r3 q3)
  |_=>exact q1.elim
def Jr(ks:lS7):Pv:=.tup (ks.map .str)
theorem tL:∀{ks:lS7},aJ (Y.z G) M H (ks.map .str) (ks.map V.str)
 | []=>by rw[eR,eR];unfold aJ;trivial
 |k::ks=>by
  rw[aP,aP]
  unfold aJ
  exact⟨by unfold bL;rfl,tL⟩
def Cm(tab:Str->Option (lS7)):O1:=λx h Q=>match x with
 |.p (.str z)=>l9 (tab z) (λks=>Q (.p (Jr ks)) h) (Q (.p .non) h)
 |_=>False
def Mz(tab:Str->Option (lS7)):O1:=λx h Q=>match x with
 |.p (.str z)=>l9 (tab z) (λks=>Q (.p (Jr ks)) h) False
 |_=>False
theorem Jf(h:bY e=true):aa9 [e] env = [(false,eval e env)]:=by rw[cF h];rfl
theorem MY{ad:Addr}(T:qP X.w X.K ad tab)(hg:Gl X n)(hm:X.mg n=some (.ref ad))(he:PE X e (cV (yx t X) E A))(hd:(n == ("__debug__":Str))=false)(eo:bY e=true)(o4:(apos.endLine == du.line)=true) :
  PE X (.Call (.Attribute (.Name n p) "get" apos) [e] [] du) (cV (yx t X) E (s1 (Cm tab) A)):=
 (Et T hg hm he hd rfl (zX (by rw[aB,eo];rfl) (show 1<30 by decide)) o4 (Jf eo)).imp λτ H QV ⟨G,M,σ,h,xc,Q,k,q⟩=>by
  refine⟨G,M,σ,h,xc,_,⟨k.rel,k.env,λd h1 M1 H1 v e1 r1 i1 q1=>?_,k.exc⟩,q⟩
  change Cm tab d h1 _ at q1
  unfold Cm l9 at q1
  split at q1
  ·rename_i z
   refine⟨z,gC i1,?_⟩
   split at q1
   ·rename_i ks hk
    rw[hk]
    exact λb sq=>k.out _ h1 M1 H1 _ e1 r1 (by unfold cQ Jr bL;exact⟨b,_,rfl,sq,tL⟩) q1
   ·rename_i hk
    rw[hk]
    exact k.out _ h1 M1 H1 _ e1 r1 o5 q1
  ·exact q1.elim
theorem S7{ad:Addr}(T:qP X.w X.K ad tab)(hg:Gl X n)(hm:X.mg n=some (.ref ad))(he:PE X e (cV (yx t X) E A))(hd:(n == ("__debug__":Str))=false)(hs:oF e) :
  PE X (.Subscript (.Name n p) e pos) (cV (yx t X) E (s1 (Mz tab) A)):=
 (tU (RN T) (fY (v:=.ref ad) hg hm rfl hd) he hs).imp λτ H QV ⟨G,M,σ,h,xc,Q,k,q⟩=>by
  refine⟨G,M,σ,h,xc,_,⟨k.rel,k.env,λd h1 M1 H1 v e1 r1 i1 q1=>?_,k.exc⟩,q⟩
  change Mz tab d h1 _ at q1
  unfold Mz l9 at q1
  split at q1
  ·rename_i z
   split at q1
   ·rename_i ks hk
    exact⟨rfl,z,ks,gC i1,hk,λb sq=>k.out _ h1 M1 H1 _ e1 r1 (by unfold cQ Jr bL;exact⟨b,_,rfl,sq,tL⟩) q1⟩
   ·exact q1.elim
  ·exact q1.elim
def kS:List Pv->Option (lS7)
 | []=>some []
 |.str x::r=>match kS r with
  |some xs=>some (x::xs)
  |none=>none
 |_::_=>none
theorem rS:∀{xs:List Pv}{ws:lS7}{vs:List V},kS xs=some ws->aJ (Y.z G) M H xs vs->vs=ws.map V.str
 | [],_,[],e,_=>by cases e;rfl
 | [],_,_::_,_,q=>by unfold aJ at q;exact q.elim
 |_::_,_,[],_,q=>by unfold aJ at q;exact q.elim
 |x::xs,ws,v::vs,e,q=>by
  unfold aJ at q
  cases x with
  |str z=>
   change (match kS xs with
    |some ys=>some (z::ys)
    |none=>none)=some ws at e
   split at e
   ·rename_i ys ey
    cases e
    have h1:v=.str z:=gC (show cQ (Y.z G) M H (.p (.str z)) v from q.1)
    rw[h1,rS ey q.2];rfl
   ·cases e
  |_=>cases e
def Ck:O1:=λx h Q=>match qY h x with
 |some xs=>l9 (kS xs) (λws=>gd (Nat.ble ((dJ ws).length+1) 64) (Q (.p (.int (dJ ws).length)) h)) False
 |none=>False
theorem MX{aa2:Pos}(hc:X.calm=true)(hg:Gl X "len")(hm:X.mg "len"=none)(Ω:Gl X "set")(lX:X.mg "set"=none)(he:PE X e (cV (yx t X) E A))(eo:bY e=true) :
  PE X (.Call (.Name "len" p) [.Call (.Name "set" p2) [e] [] aa2] [] pos) (cV (yx t X) E (s1 Ck A)):=
 (lA Dz hg hm Ft (kj (Pa (sJ hc) Ω lX Qy (kj he dA eo) (by decide) (by decide) (by rw[aB,eo];rfl)) dA rfl) (by decide) (by decide) rfl).imp λτ H QV ⟨G,M,σ,h,xc,Q,k,q⟩=>by
  refine⟨G,M,σ,h,xc,_,⟨k.rel,k.env,λd h1 M1 H1 v e1 r1 i1 q1=>?_,k.exc⟩,q⟩
  change Ck d h1 _ at q1
  unfold Ck l9 at q1
  split at q1
  ·rename_i xs ex
   split at q1
   ·rename_i ws ew
    obtain⟨c,q1⟩:=bt q1
    obtain⟨a,vs,rfl,s1,i2⟩:=ig r1 i1 ex
    rw[rS ew i2] at s1
    refine⟨a,ws,rfl,gq.of s1,aU c,λb hb=>?_⟩
    exact⟨b,dJ ws,rfl,bE,k.out _ h1 M1 _ _ (e1.trans (Ext.add hb)) (r1.add hb) eZ q1⟩
   ·exact q1.elim
  ·exact q1.elim
def Sh:OM:=λx ds h Q=>match qY h x,ds with
 |some xs,[.p (.str z)]=>l9 (kS xs) (λws=>Q (.p (.int (ws.count z:Nat))) h) False
 |_,_=>False
theorem LG:Dl Y CB Sh:=λG M h H x xs v vs Q QV r i j0 q out=>by
 unfold Sh l9 at q
 split at q
 ·rename_i xs' z ex
  obtain⟨w,rfl,j⟩:=j0.nV
  split at q
  ·rename_i ws ew
   obtain⟨a,us,e1,s1,i1⟩:=ig r i ex
   rw[rS ew i1] at s1
   exact⟨a,ws,z,e1,by rw[gC j],s1,out _ h M H _ Ext.refl r eZ q⟩
  ·exact q.elim
 ·exact q.elim
def MA:OM:=λx _ h Q=>match x with
 |.p (.str z)=>gd (Nat.ble (3*z.length) 1000) (∀y:Str,y.length<=3*z.length->Q (.p (.str y)) h)
 |_=>False
theorem LR:Dl Y (λx xs H Q=>∃z,x=.str z/\xs = []/\3*z.length<=1000/\∀y:Str,y.length<=3*z.length->Q (.str y) H) (λx ds h Q=>match ds with
 | []=>MA x [] h Q
 |_=>False):=λG M h H x xs v vs Q QV r i j0 q out=>by
 cases xs with
 |cons _ _=>exact q.elim
 |nil=>
  cases vs with
  |cons _ _=>exact j0.elim
  |nil=>
   change MA x [] h Q at q
   unfold MA at q
   split at q
   ·obtain⟨c,q⟩:=bt q
    exact⟨_,gC i,rfl,aU c,λy hy=>out _ h M H _ Ext.refl r mH (q y hy)⟩
   ·exact q.elim
def Hv:O2:=λx y h Q=>match x,y with
 |.p (.int i),.p (.int j)=>gd (zE i j) (Q (.p (.int (i*j))) h)
 |x,.p (.int k)=>match qY h x with
  |some xs=>gd (nc (xs.length*k.toNat)&&decide (-(2 ^ 63)<=k)&&decide (k<2 ^ 63)) (Q (.p (.lst (List.replicate k.toNat xs).flatten)) h)
  |none=>False
 |_,_=>False
def Pl:R2:=λx y H Q=>rI Fd (λi j=>.int (i*j)) x y H Q\/X6 x y H Q
theorem MJ:iX X (binaryOp .Mult) Pl:=SG.or SJ
theorem aJ.rep{xs:List Pv}{vs:List V}(q:aJ (Y.z G) M H xs vs):∀n:Nat,aJ (Y.z G) M H (List.replicate n xs).flatten (List.replicate n vs).flatten
 |0=>by rw[abO,abO,List.flatten_nil,List.flatten_nil];unfold aJ;trivial
 |n+1=>by rw[dZ,dZ,gA,gA];exact q.app (aJ.rep q n)
theorem GL:iQ Y Pl Hv:=λG M h H x y v u Q QV r i j q out=>by
 unfold Hv at q
 split at q
 ·obtain⟨k,q⟩:=bt q
  exact .inl ⟨_,_,eG i,eG j,Kw k,out _ h M H _ Ext.refl r eZ q⟩
 ·split at q
  ·rename_i xs ex
   obtain⟨c,q⟩:=bt q
   simp only[ay,eS] at c
   obtain⟨a,vs,e1,s1,i1⟩:=ig r i ex
   exact .inr ⟨a,_,vs,e1,eG j,s1,c.1.2,c.2,by rw[<-i1.len];exact fN c.1.1,λp hp=>out _ h M _ _ (Ext.add hp) (r.add hp) (jk r hp (i1.rep _)) q⟩
  ·exact q.elim
 ·exact q.elim
def qH:List Pv->Option (List Pv×List Pv)
 | []=>some ([],[])
 |.tup [k,v]::r=>match lH k,qH r with
  |some _,some (ks,vs)=>some (k::ks,v::vs)
  |_,_=>none
 |_::_=>none
def ff:List Pv->List Pv->List Pv×List Pv->List Pv×List Pv
 |k::ks,v::vs,(ks',vs')=>ff ks vs (gj k ks',jh k v ks' vs')
 |_,_,r=>r
def Si:ON:=λds h Q=>match ds with
 | [x]=>match qY h x with
  |some xs=>l9 (qH xs) (λp=>gd (Nat.ble p.1.length 100) (Q (.p (.dct (ff p.1 p.2 ([],[])).1 (ff p.1 p.2 ([],[])).2)) h)) False
  |none=>False
 |_=>False
theorem Iq:∀{xs ks us:List Pv}{vs:List V},qH xs=some (ks,us)->aJ (Y.z G) M H xs vs->∃kvs:List (Key×V),iG Y G M H ks us kvs/\Paired (λt (kv:Key×V)=>∃b,t=V.ref b/\el Y.K H b [kV kv.1,kv.2]) vs kvs
 | [],_,_,[],e,_=>by cases e;exact⟨[],iG.nil,.nil⟩
 | [],_,_,_::_,_,q=>by unfold aJ at q;exact q.elim
 |_::_,_,_,[],_,q=>by unfold aJ at q;exact q.elim
 |x::xs,ks,us,v::vs,e,q=>by
  unfold aJ at q
  unfold qH at e
  split at e
  ·rename_i he;cases he
  ·rename_i k w r he
   cases he
   split at e
   ·rename_i κ ks' us' hk hr
    cases e
    obtain⟨kvs,d,pp⟩:=Iq hr q.2
    obtain⟨b,ws,rfl,sq,i⟩:=kZ (show cQ (Y.z G) M H (.p (.tup [k,w])) v from q.1)
    obtain⟨u1,u2,rfl⟩:∃u1 u2,ws = [u1,u2]:=by
     have:=i.len
     match ws,this with
     | [u1,u2],_=>exact⟨u1,u2,rfl⟩
    unfold aJ at i
    obtain⟨i1,i2⟩:=i
    unfold aJ at i2
    have:=L9 hk i1
    subst this
    exact⟨(κ,u2)::kvs,iG.cons.mpr ⟨⟨hk,i2.1⟩,d⟩,.cons ⟨b,rfl,sq⟩ pp⟩
   ·cases e
  ·cases e
theorem rH:∀{ks us ks' us':List Pv}{more kvs:List (Key×V)},iG Y G M H ks us more->iG Y G M H ks' us' kvs->iG Y G M H (ff ks us (ks',us')).1 (ff ks us (ks',us')).2 (hW kvs more)
 | [],[],_,_,[],_,_,d=>d
 |k::ks,u::us,ks',us',p::more,kvs,d,d2=>by
  obtain⟨⟨a,b⟩,c⟩:=iG.cons.mp d
  show iG Y G M H (ff ks us (gj k ks',jh k u ks' us')).1 (ff ks us (gj k ks',jh k u ks' us')).2 (hW (lJ kvs p.1 p.2) more)
  exact rH c (BP a b d2)
 | [],_::_,_,_,kvs,_,h,_=>by have:=h.1.len;have:=h.2.len;simp at *;lia
 |_::_,[],_,_,kvs,_,h,_=>by have:=h.1.len;have:=h.2.len;simp at *;lia
 | [],[],_,_,_::_,_,h,_=>by have:=h.1.len;simp at this
 |_::_,_::_,_,_,[],_,h,_=>by have:=h.1.len;simp at this
theorem LH:qN Y (λxs H Q=>∃(l:Addr) (ts:List V) (kvs:List (Key×V)),xs = [.ref l]/\gq Y.K H l ts/\kvs.length<=100/\Paired (λt (kv:Key×V)=>∃b,t=V.ref b/\el Y.K H b [kV kv.1,kv.2]) ts kvs/\∀a,H a=none->Q (.ref a) (upd H a (.dK (hW [] kvs)))) Si:=λG M h H xs vs Q QV r i0 q out=>by
 unfold Si l9 at q
 split at q
 ·obtain⟨v,rfl,i⟩:=i0.nV
  split at q
  ·rename_i xs ex
   split at q
   ·rename_i pr ep
    obtain⟨ks,us⟩:=pr
    obtain⟨c,q⟩:=bt q
    obtain⟨a,ws,rfl,s1,i1⟩:=ig r i ex
    obtain⟨kvs,d,pp⟩:=Iq ep i1
    have hl:kvs.length=ks.length:=by have:=d.1.len;rw[ah] at this;exact this.symm
    refine⟨a,ws,kvs,rfl,gq.of s1,by rw[hl];exact aU c,pp,λb hb=>?_⟩
    have d2:=rH d iG.nil
    refine out _ h M _ _ (Ext.add hb) (r.add hb) ?_ q
    unfold cQ bL
    exact⟨b,_,rfl,r.nG hb,bE,d2.1.ext r (Ext.add hb),d2.2.ext r (Ext.add hb)⟩
   ·exact q.elim
  ·exact q.elim
 ·exact q.elim
def Sn:ON:=λds h Q=>match ds with
 | [x]=>match FT h x with
  |some (ks,_)=>l9 (kS ks) (λ_=>Q (.p (.lst ks)) h) False
  |none=>False
 |_=>False
theorem yq:∀{ws:lS7}{kvs:List (Key×V)},kvs.map (λp=>kV p.1)=ws.map V.str->kvs.map (·.1)=ws.map Sum.inr
 | [],[],_=>rfl
 | [],_::_,e=>by simp at e
 |_::_,[],e=>by simp at e
 |w::ws,p::kvs,e=>by
  rw[aP,aP] at e
  injection e with e1 e2
  rw[aP,aP,yq e2]
  cases hp:p.1 with
  |inl i=>rw[hp] at e1;cases e1
  |inr x=>rw[hp] at e1;cases e1;rfl
theorem LM:qN Y (λxs H Q=>∃(a:Addr) (kvs:List (Key×V)) (ws:lS7),xs = [.ref a]/\H a=some (.dK kvs)/\kvs.map (·.1)=ws.map Sum.inr/\∀l,H l=none->Q (.ref l) (upd H l (.lst (ws.map V.str)))) Sn:=λG M h H xs vs Q QV r i0 q out=>by
 unfold Sn l9 at q
 split at q
 ·obtain⟨v,rfl,i⟩:=i0.nV
  split at q
  ·rename_i ks us ed
   split at q
   ·rename_i ws ew
    obtain⟨a,kvs,rfl,s1,d⟩:=wt r i ed
    have e:=rS ew d.1
    refine⟨a,kvs,ws,rfl,s1,yq e,λl hl=>out _ h M _ _ (Ext.add hl) (r.add hl) (jk r hl (by rw[<-e];exact d.1)) q⟩
   ·exact q.elim
  ·exact q.elim
 ·exact q.elim
end
set_option genInjectivity false
structure Gm where
 fn:Nat->Ct
 uv:List Nat
 gl:Nat->Pv
 U3:List Nat
 zc:Nat->Ct
 qA:List Nat
 tab:Nat->Str->Option (lS7)
 tok:List Nat
structure Sx where
 N:lS7
 sc:Scope
 oW:Nat->Str
 Zs:Nat->Str
 YJ:Nat->Str
 JV:Nat->Str
 fl:Nat->lS7
 Kq:lS7
 OJ:List Nat
 Z8:List Nat
 fr:Bool
def UD(sc:Scope)(x:Str):Bool:=match sc.names.lookup x with
 |some .local=>true
 |some .cell=>true
 |some .free=>true
 |_=>false
def Mg(sc:Scope)(x:Str):Bool:=match sc.names.lookup x with
 |some .local=>true
 |some .cell=>true
 |_=>false
noncomputable def AU (sc:Scope) (x:Str):Bool:=match sc.names.lookup x with
 |some .local=>true
 |_=>false
def Q7(sc:Scope)(x:Str):Bool:=match sc.names.lookup x with
 |some .globalImplicit=>true
 |_=>false
def MC(x:Str):Bool:=aR x "__debug__"||aR x "__classdict__"||aR x "__name__"
def iu(x:Str):lS7->Bool
 | []=>false
 |y::r=>aR x y||iu x r
def AM(x:Str):Nat->lS7->Bool
 |0,y::_=>aR x y
 |n+1,_::r=>AM x n r
 |_,[]=>false
theorem jK{x:Str}:∀{l:lS7},iu x l=true->x∈l
 | [],h=>by cases h
 |y::r,h=>by
  rcases (dX _ _).mp h with h|h
  ·rw[aZ.mp h];exact aL
  ·exact ax _ (jK h)
theorem mJ{x:Str}:∀{n:Nat}{l:lS7},AM x n l=true->l[n]?=some x
 |0,y::_,h=>by rw[aZ.mp h];rfl
 |n+1,_::r,h=>by rw[dS];exact mJ (l:=r) h
 |0,[],h=>by cases h
 |_+1,[],h=>by cases h
noncomputable def lM(o:Option α)(f:α->Bool):Bool:=match o with
 |some a=>f a
 |none=>false
theorem cy{o:Option α}{f:α->Bool}(h:lM o f=true):∃a,o=some a/\f a=true:=by
 cases o with
 |none=>cases h
 |some a=>exact⟨a,rfl,h⟩
theorem ag{a b:Bool}(h:(a&&b)=true):a=true/\b=true:=(ay _ _).mp h
theorem gI{a:Bool}(h:(!a)=true):a=false:=by cases a<;>first|rfl|cases h
def l1:List α->Option α
 | [a]=>some a
 |_=>none
theorem fL:∀{l:List α}{a:α},l1 l=some a->l = [a]
 | [],_,h=>by cases h
 | [_],_,h=>by cases h;rfl
 |_::_::_,_,h=>by cases h
def l2:List α->Option (α×α)
 | [a,b]=>some (a,b)
 |_=>none
theorem B9:∀{l:List α}{p:α×α},l2 l=some p->l = [p.1,p.2]
 | [],_,h=>by cases h
 | [_],_,h=>by cases h
 | [_,_],_,h=>by cases h;rfl
 |_::_::_::_,_,h=>by cases h
def lc:List α->Option (α×List α)
 |a::r=>some (a,r)
 | []=>none
theorem vi:∀{l:List α}{p:α×List α},lc l=some p->l=p.1::p.2
 | [],_,h=>by cases h
 |_::_,_,h=>by cases h;rfl
noncomputable def Au:List α->Bool
 | []=>true
 |_=>false
theorem kL{l:List α}(h:Au l=true):l = []:=by cases l<;>first|rfl|cases h
noncomputable def ur(f':Str->Pos->Bool)(x:Expr):Bool:=Nat.beq x.ctorIdx 23&&(match x with
 |.Name x p=>f' x p
 |_=>false)
@[elab_as_elim] theorem jw {f':Str->Pos->Bool} (h:ur f' x=true) (q:∀n p,f' n p=true->P (.Name n p)):P x:=
 Expr.Name.elim (motive_1:=λx=>ur f' x=true->P x) x (ao (ag h).1) (λn p h=>q n p h) h
noncomputable def Ut(f':Expr->Operator->Expr->Pos->Bool)(x:Expr):Bool:=Nat.beq x.ctorIdx 2&&(match x with
 |.BinOp a o b p=>f' a o b p
 |_=>false)
@[elab_as_elim] theorem Oa {f':Expr->Operator->Expr->Pos->Bool} (h:Ut f' x=true) (q:∀a o b p,f' a o b p=true->P (.BinOp a o b p)):P x:=
 Expr.BinOp.elim (motive_1:=λx=>Ut f' x=true->P x) x (ao (ag h).1) (λa o b p h=>q a o b p h) h
noncomputable def Vh (f':UnaryOp->Expr->Pos->Bool) (x:Expr):Bool:=Nat.beq x.ctorIdx 3&&(match x with
 |.UnaryOp o a p=>f' o a p
 |_=>false)
@[elab_as_elim] theorem xv {f':UnaryOp->Expr->Pos->Bool} (h:Vh f' x=true) (q:∀o a p,f' o a p=true->P (.UnaryOp o a p)):P x:=
 Expr.UnaryOp.elim (motive_1:=λx=>Vh f' x=true->P x) x (ao (ag h).1) (λo a p h=>q o a p h) h
def JD(f':Expr->List CmpOp->List Expr->Pos->Bool)(x:Expr):Bool:=Nat.beq x.ctorIdx 15&&(match x with
 |.Compare a o b p=>f' a o b p
 |_=>false)
@[elab_as_elim] theorem xu {f':Expr->List CmpOp->List Expr->Pos->Bool} (h:JD f' x=true) (q:∀a o b p,f' a o b p=true->P (.Compare a o b p)):P x:=
 Expr.Compare.elim (motive_1:=λx=>JD f' x=true->P x) x (ao (ag h).1) (λa o b p h=>q a o b p h) h
noncomputable def CY (f':BoolOp->List Expr->Pos->Bool) (x:Expr):Bool:=Nat.beq x.ctorIdx 0&&(match x with
 |.BoolOp o es p=>f' o es p
 |_=>false)
@[elab_as_elim] theorem yQ {f':BoolOp->List Expr->Pos->Bool} (h:CY f' x=true) (q:∀o es p,f' o es p=true->P (.BoolOp o es p)):P x:=
 Expr.BoolOp.elim (motive_1:=λx=>CY f' x=true->P x) x (ao (ag h).1) (λo es p h=>q o es p h) h
noncomputable def JG(f':List Expr->Nat->Pos->Bool)(x:Expr):Bool:=Nat.beq x.ctorIdx 25&&(match x with
 |.Tuple es k p=>f' es k p
 |_=>false)
@[elab_as_elim] theorem rX {f':List Expr->Nat->Pos->Bool} (h:JG f' x=true) (q:∀es k p,f' es k p=true->P (.Tuple es k p)):P x:=
 Expr.Tuple.elim (motive_1:=λx=>JG f' x=true->P x) x (ao (ag h).1) (λes k p h=>q es k p h) h
noncomputable def Ux(f':List Expr->Pos->Bool)(x:Expr):Bool:=Nat.beq x.ctorIdx 24&&(match x with
 |.List es p=>f' es p
 |_=>false)
@[elab_as_elim] theorem Dd {f':List Expr->Pos->Bool} (h:Ux f' x=true) (q:∀es p,f' es p=true->P (.List es p)):P x:=
 Expr.List.elim (motive_1:=λx=>Ux f' x=true->P x) x (ao (ag h).1) (λes p h=>q es p h) h
noncomputable def Bg (f':Expr->Expr->Pos->Bool) (x:Expr):Bool:=Nat.beq x.ctorIdx 21&&(match x with
 |.Subscript a i p=>f' a i p
 |_=>false)
@[elab_as_elim] theorem pG {f':Expr->Expr->Pos->Bool} (h:Bg f' x=true) (q:∀a i p,f' a i p=true->P (.Subscript a i p)):P x:=
 Expr.Subscript.elim (motive_1:=λx=>Bg f' x=true->P x) x (ao (ag h).1) (λa i p h=>q a i p h) h
def Oi(f':Option Expr->Option Expr->Option Expr->Pos->Bool)(x:Expr):Bool:=Nat.beq x.ctorIdx 26&&(match x with
 |.Slice a b c p=>f' a b c p
 |_=>false)
@[elab_as_elim] theorem De {f':Option Expr->Option Expr->Option Expr->Pos->Bool} (h:Oi f' x=true) (q:∀a b c p,f' a b c p=true->P (.Slice a b c p)):P x:=
 Expr.Slice.elim (motive_1:=λx=>Oi f' x=true->P x) x (ao (ag h).1) (λa b c p h=>q a b c p h) h
def mn(f':Expr->List Expr->List ac4->Pos->Bool)(x:Expr):Bool:=Nat.beq x.ctorIdx 16&&(match x with
 |.Call f es ks p=>f' f es ks p
 |_=>false)
@[elab_as_elim] theorem gM {f':Expr->List Expr->List ac4->Pos->Bool} (h:mn f' x=true) (q:∀f es ks p,f' f es ks p=true->P (.Call f es ks p)):P x:=
 Expr.Call.elim (motive_1:=λx=>mn f' x=true->P x) x (ao (ag h).1) (λf es ks p h=>q f es ks p h) h
def EO(f':Expr->Str->Pos->Bool)(x:Expr):Bool:=Nat.beq x.ctorIdx 20&&(match x with
 |.Attribute o f p=>f' o f p
 |_=>false)
@[elab_as_elim] theorem rV {f':Expr->Str->Pos->Bool} (h:EO f' x=true) (q:∀o f p,f' o f p=true->P (.Attribute o f p)):P x:=
 Expr.Attribute.elim (motive_1:=λx=>EO f' x=true->P x) x (ao (ag h).1) (λo f p h=>q o f p h) h
noncomputable def CZ(f':Expr->List Comprehension->Scope->Pos->Bool)(x:Expr):Bool:=Nat.beq x.ctorIdx 8&&(match x with
 |.ListComp e gs sc p=>f' e gs sc p
 |_=>false)
@[elab_as_elim] theorem JE {f':Expr->List Comprehension->Scope->Pos->Bool} (h:CZ f' x=true) (q:∀e gs sc p,f' e gs sc p=true->P (.ListComp e gs sc p)):P x:=
 Expr.ListComp.elim (motive_1:=λx=>CZ f' x=true->P x) x (ao (ag h).1) (λe gs sc p h=>q e gs sc p h) h
def Oc(f':List (Option Expr)->List Expr->Pos->Bool)(x:Expr):Bool:=Nat.beq x.ctorIdx 6&&(match x with
 |.Dict ks vs p=>f' ks vs p
 |_=>false)
@[elab_as_elim] theorem C0 {f':List (Option Expr)->List Expr->Pos->Bool} (h:Oc f' x=true) (q:∀ks vs p,f' ks vs p=true->P (.Dict ks vs p)):P x:=
 Expr.Dict.elim (motive_1:=λx=>Oc f' x=true->P x) x (ao (ag h).1) (λks vs p h=>q ks vs p h) h
noncomputable def JF (f':PySem.Const->Nat->Pos->Bool) (x:Expr):Bool:=Nat.beq x.ctorIdx 19&&(match x with
 |.Constant c k p=>f' c k p
 |_=>false)
@[elab_as_elim] theorem rW {f':PySem.Const->Nat->Pos->Bool} (h:JF f' x=true) (q:∀c k p,f' c k p=true->P (.Constant c k p)):P x:=
 Expr.Constant.elim (motive_1:=λx=>JF f' x=true->P x) x (ao (ag h).1) (λc k p h=>q c k p h) h
def isV(S:Sx)(i:Nat):Expr->Bool:=ur λx _=>AM x i S.N&&(UD S.sc x && !MC x)
def E8(S:Sx)(n:Str):Expr->Bool:=ur λx _=>aR x n&&(Q7 S.sc x && !MC x)
def VI:Pv->PySem.Const->Bool
 |.int i,c=>match c with
  |.int j=>decide (i=j)
  |_=>false
 |.bl i,c=>match c with
  |.bool j=>i == j
  |_=>false
 |.str i,c=>match c with
  |.str j=>aR i j
  |_=>false
 |.non,c=>match c with
  |.none=>true
  |_=>false
 |_,_=>false
def KL(p:Pv):Expr->Bool:=JF λc _ _=>VI p c
noncomputable def qq:Expr->Bool
 |.Set _ _ _=>false
 |_=>true
def yB:Expr->Bool
 |.Slice _ _ _ _=>false
 |.Tuple _ _ _=>false
 |_=>true
def Cj:Expr->Bool
 |.Call _ [] _ _=>false
 |_=>true
noncomputable def YO:Expr->Bool
 |.BoolOp _ _ _=>false
 |.UnaryOp _ _ _=>false
 |.Compare _ _ _ _=>false
 |.IfExp _ _ _ _=>false
 |_=>true
structure rA (Γ:Gm) (t:Tb) (k:Nat) (S:Sx) (X:Cx) (E:XK):Prop where
 hN:X.N=S.N
 hs:X.env.scope=S.sc
 hc:X.calm=true
 hp:g8 (zr X.prog X.w) X E
 hr:fi (k+1) X.A
 bl:∀x∈S.Kq,X.mg x=none
 oW:S.oW=t.oW
 fn:∀i∈Γ.uv,∃ps,oy X.prog X.w X.K X.mg X.base (k+1) (t.oW i) ps (lL (yx t X) (Γ.fn i))
 gl:∀i∈Γ.U3,∃u v,X.mg (S.Zs i)=some u/\RelV v u/\∀G M H,bL ((yx t X).z G) M H (Γ.gl i) v
 tab:∀i∈Γ.tok,∃ad,X.mg (S.YJ i)=some (.ref ad)/\qP X.w X.K ad (Γ.tab i)
 cls:∀c∈S.OJ,xG X.K t c/\t.fl c=S.fl c
 zc:∀c∈Γ.qA,∃ps,uA X.prog X.w X.K X.mg X.base k (S.JV c) (t.ca c) ps (lL (yx t X) (Γ.zc c))
 fx:S.fr=true->Qc X/\oE X E
section
variable {Γ:Gm}{t:Tb}{k:Nat}{S:Sx}
theorem rA.hu(o:rA Γ t k S X E):X.A.units+64<cLine:=o.hr.units
theorem rA.Vb(o:rA Γ t k S X E):X.A.units+1<cLine:=W4 o.hr
theorem HA{x:Str}(h:MC x=false):(x == ("__debug__":Str))=false/\(x == ("__classdict__":Str))=false/\x≠"__name__":=by
 unfold MC at h
 simp only[h_] at h
 rw[mK,mK]
 exact⟨h.1.1,h.1.2,λz=>by rw[aZ.mpr z] at h;exact Bool.noConfusion h.2⟩
theorem UE{x:Str}(h:UD sc x=true):UX sc x:=by
 unfold UD at h
 unfold UX
 split at h
 ·rename_i e;exact .inl e
 ·rename_i e;exact .inr (.inl e)
 ·rename_i e;exact .inr (.inr e)
 ·cases h
theorem AA{x:Str}(h:Mg sc x=true):L2.Loc sc x:=by
 unfold Mg at h
 unfold L2.Loc
 split at h
 ·rename_i e;exact .inl e
 ·rename_i e;exact .inr e
 ·cases h
theorem AV{x:Str}(h:AU sc x=true):sc.names.lookup x=some .local:=by
 unfold AU at h
 split at h
 ·rename_i e;exact e
 ·cases h
theorem Q8(o:rA Γ t k S X E){x:Str}(h:Q7 S.sc x=true):Gl X x:=by
 unfold Q7 at h
 unfold Gl
 split at h
 ·rename_i e
  show X.env.scope.names.lookup x=_
  rw[o.hs];exact e
 ·cases h
theorem jj(o:rA Γ t k S X E)(h:E8 S n x=true):∃pos,x=.Name n pos/\Gl X n/\(n == ("__debug__":Str))=false/\n≠"__name__":=by
 refine jw h λy p h=>?_
 obtain⟨h1,h⟩:=ag h
 obtain⟨h2,h3⟩:=ag h
 have e1:y=n:=aZ.mp h1
 subst e1
 have z:=HA (gI h3)
 exact⟨p,rfl,Q8 o h2,z.1,z.2.2⟩
theorem GR(o:rA Γ t k S X E){i:Nat}(h:isV S i x=true):PE X x (EL i):=by
 refine jw h λy p h=>?_
 obtain⟨h1,h⟩:=ag h
 obtain⟨h2,h3⟩:=ag h
 have z:=HA (gI h3)
 exact HR (by rw[o.hN];exact mJ h1) (by rw[o.hs];exact UE h2) z.1 z.2.1
theorem QK{p:Pv}(h:KL p x=true):PE X x (cV (yx t X) E (sC p)):=by
 refine rW h λc j q h=>?_
 cases p<;>first|(cases h;done)|skip
 case non=>cases c<;>first|(cases h;done)|exact AY HN λ_ _ _=>by unfold bL;rfl
 case bl=>cases c<;>first|(cases h;done)|(rw[uQ h];exact AY O9 λ_ _ _=>by unfold bL;rfl)
 case int=>cases c<;>first|(cases h;done)|(rw[aX h];exact AY ma λ_ _ _=>by unfold bL;rfl)
 case str=>cases c<;>first|(cases h;done)|(rw[aZ.mp h];exact AY xa λ_ _ _=>by unfold bL;rfl)
theorem wR(h:qq b=true):ab2 op b=false:=by
 cases b<;>first|rfl|cases h
theorem GX(h:yB b=true):oF b:=by
 intro o i
 cases b<;>first|rfl|cases h
theorem rB{w:Sem Value}(h:Cj a=true):ab3 a f env w=w:=by
 cases a<;>first|rfl|skip
 rename_i fn args kw pos
 cases args with
 |nil=>cases h
 |cons _ _=>cases fn<;>rfl
theorem UB(h:YO e=true)(he:PE X e (cV (yx t X) E A)):PT X e (kU (yx t X) E A):=by
 cases e<;>first|exact Nj he λ_=>rfl|cases h
end
variable (Γ:Gm) (t:Tb)
structure Em where
 m:Sm
 ck:Sx->Expr->Bool
 pe:∀{k S X E x},rA Γ t k S X E->ck S x=true->PE X x (cV (yx t X) E m)
structure Tm where
 m:Sm
 ck:Sx->Expr->Bool
 pt:∀{k S X E x},rA Γ t k S X E->ck S x=true->PT X x (kU (yx t X) E m)
structure Bm (op:BoolOp) where
 m:Sm
 ck:Sx->List Expr->Bool
 pe:∀{k S X E xs},rA Γ t k S X E->ck S xs=true->∀pos,PE X (.BoolOp op xs pos) (cV (yx t X) E m)
structure Wm (op:BoolOp) where
 m:Sm
 ck:Sx->List Expr->Bool
 pw:∀{k S X E xs},rA Γ t k S X E->ck S xs=true->∀pos,PW X (.BoolOp op xs pos) (kU (yx t X) E m)
structure Am where
 m:Sm
 ck:Sx->List Expr->Bool
 pa:∀{k S X E xs},rA Γ t k S X E->ck S xs=true->PA X xs (gK (yx t X) E m)/\xs.all bY=true
structure Jm where
 m:Sm
 ck:Sx->Expr->Expr->Bool
 pi:∀{k S X E tx x},rA Γ t k S X E->ck S tx x=true->PI X tx x (uO (yx t X) E (uK m))
end F
namespace F
open PySem PySem.Spec PyProof.Rows L2
variable{S:Sx}{op:BoolOp}{P:Expr->Prop}{x:Expr}{ng:Bool}{X:Cx}{E:XK}{A B:Sm}
def Hq(ng:Bool):O1:=λx h Q=>match x with
 |.p a=>Q (.p (.bl (AI ng (GG a)))) h
 |.r _=>Q (.p (.bl ng)) h
def sCh(o1 o2:O2)(A B C:Sm):Sm:=λxc σ h Q=>A xc σ h λxs h1=>match xs with
 | [x]=>B xc σ h1 λys h2=>match ys with
  | [y]=>o1 x y h2 λd h3=>match d with
   |.p (.bl b)=>br b (C xc σ h3 λzs h4=>match zs with
    | [z]=>o2 y z h4 λd h5=>Q [d] h5
    |_=>False) (Q [.p (.bl false)] h3)
   |_=>False
  |_=>False
 |_=>False
structure Bo where
 o:O2
 op:Operator
 ok:∀t X,∃r,iX X (binaryOp op) r/\iQ (yx t X) r o
def dk:Bo:=⟨Se,.Add,λ_ _=>⟨_,MG,LC⟩⟩
def pX:Bo:=⟨Sq,.Sub,λ_ _=>⟨_,SK,LQ⟩⟩
def zB:Bo:=⟨Hv,.Mult,λ_ _=>⟨_,MJ,GL⟩⟩
def VL:Bo:=⟨oDiv,.FloorDiv,λ_ _=>⟨_,MI,LJ⟩⟩
def zA:Bo:=⟨oMod,.Mod,λ_ _=>⟨_,SF,LN⟩⟩
def K_:Bo:=⟨XH,.Pow,λ_ _=>⟨_,SI,LP⟩⟩
structure Co where
 o:O2
 op:CmpOp
 ok:∀t X,X.A.units+64<cLine->∃r,iX X (ac1 op) r/\iQ (yx t X) r o
def gN:Co:=⟨oEq,.Eq,λ_ _ hu=>⟨_,SA hu,RC⟩⟩
def Kx:Co:=⟨oNe,.NotEq,λ_ _ hu=>⟨_,SH hu,RH⟩⟩
def Fy:Co:=⟨oLt,.Lt,λ_ _ _=>⟨_,XN,RG⟩⟩
def JU:Co:=⟨oLe,.LtE,λ_ _ _=>⟨_,SE,RF⟩⟩
def vR:Co:=⟨oGt,.Gt,λ_ _ _=>⟨_,XJ,RD⟩⟩
def OC:Co:=⟨ZR false,.In,λ_ _ _=>⟨_,SD,GI⟩⟩
def VT:Co:=⟨ZR true,.NotIn,λ_ _ _=>⟨_,Ek,GI⟩⟩
theorem N8{c:Nat}(h:Nat.ble c 4=true):aa6 (kq c)=some (.type (kq c)):=by
 have hc:c<=4:=aU h
 match c,hc with
 |0,_=>exact Fu
 |1,_=>exact Fs
 |2,_=>exact Kt
 |3,_=>exact xQ
 |4,_=>exact vQ
section
variable {Γ:Gm}{t:Tb}
namespace Em
def v(i:Nat):Em Γ t:=⟨sV i,λS x=>isV S i x,λo h=>XZ (GR o h)⟩
def c(p:Pv):Em Γ t:=⟨sC p,λ_ x=>KL p x,λ_ h=>QK h⟩
def g(i:Nat):Em Γ t:=⟨sC (Γ.gl i),λS x=>hU i Γ.U3&&E8 S (S.Zs i) x,λo h=>by
 obtain⟨h1,h⟩:=ag h
 obtain⟨pos,rfl,hg,hd,_⟩:=jj o h
 obtain⟨u,v,hm,rv,ip⟩:=o.gl i (dM.mp h1)
 exact AY (fY hg hm rv hd) ip⟩
def f(i:Nat):Em Γ t:=⟨sC (.fn i),λS x=>hU i Γ.uv&&E8 S (S.oW i) x,λo h=>by
 obtain⟨h1,h⟩:=ag h
 obtain⟨pos,rfl,hg,hd,_⟩:=jj o h
 obtain⟨ps,f,fd,F,hm,hk,hb⟩:=o.fn i (dM.mp h1)
 rw[<-o.oW] at hm
 exact AY (fY (v:=.ref f) hg hm rfl hd) λ_ _ _=>by unfold bL;rw[o.oW] at hm;exact⟨f,hm,rfl⟩⟩
def ty(c:Nat):Em Γ t:=⟨sC (.ty c),λS x=>Nat.ble c 4&&(E8 S (kq c) x&&iu (kq c) S.Kq),λo h=>by
 obtain⟨h1,h⟩:=ag h
 obtain⟨h2,h3⟩:=ag h
 obtain⟨pos,rfl,hg,hd,hn⟩:=jj o h2
 exact AY (Pb (o.bl _ (jK h3)) (N8 h1) hg hn hd) λ_ _ _=>by unfold bL;rfl⟩
def b2(p:Bo)(A B:Em Γ t):Em Γ t:=⟨s2 p.o A.m B.m,λS=>Ut λa o b _=>decide (o=p.op)&&(A.ck S a&&B.ck S b),λ{k S X E x} o h=>by
 refine Oa h λa op b q h=>?_
 obtain⟨h1,h⟩:=ag h
 obtain⟨h2,h3⟩:=ag h
 rw[aX h1]
 obtain⟨r,r1,r2⟩:=p.ok t X
 exact XU r1 r2 (A.pe o h2) (B.pe o h3)⟩
def neg(A:Em Γ t):Em Γ t:=⟨s1 So A.m,λS=>Vh λo a _=>decide (o=.USub)&&A.ck S a,λo h=>by
 refine xv h λop a q h=>?_
 obtain⟨h1,h⟩:=ag h
 rw[aX h1]
 exact XY JA LO (A.pe o h)⟩
end Em
def OI(S:Sx)(op:CmpOp)(A B:Em Γ t):Expr->Bool:=JD λa os bs _=>lM (l1 os) λo=>lM (l1 bs) λb=>decide (o=op)&&(qq b&&(A.ck S a&&B.ck S b))
@[elab_as_elim] theorem wc {op:CmpOp}{A B:Em Γ t} (h:OI S op A B x=true) (k:∀a b p,ab2 op b=false->A.ck S a=true->B.ck S b=true->P (.Compare a [op] [b] p)):P x:=by
 refine xu h λa os bs q h=>?_
 obtain⟨MF,e1,h⟩:=cy h
 obtain⟨b,e2,h⟩:=cy h
 obtain⟨h1,h⟩:=ag h
 obtain⟨h2,h⟩:=ag h
 obtain⟨h3,h4⟩:=ag h
 have e3:=aX h1
 subst e3
 rw[fL e1,fL e2]
 exact k a b q (wR h2) h3 h4
def isB(ng:Bool):CmpOp:=bif ng then .IsNot else .Is
def Xa(S:Sx)(ng:Bool)(A:Em Γ t):Expr->Bool:=JD λa os bs _=>lM (l1 os) λo=>lM (l1 bs) λb=>decide (o=isB ng)&&(JF (λc _ _=>VI .non c) b&&A.ck S a)
theorem Ko{c:PySem.Const}(h:VI .non c=true):c=.none:=by cases c<;>first|rfl|cases h
@[elab_as_elim] theorem LU {A:Em Γ t} (h:Xa S ng A x=true) (k:∀a j p q,A.ck S a=true->P (.Compare a [isB ng] [.Constant .none j p] q)):P x:=by
 refine xu h λa os bs q h=>?_
 obtain⟨MF,e1,h⟩:=cy h
 obtain⟨b,e2,h⟩:=cy h
 obtain⟨h1,h⟩:=ag h
 obtain⟨h2,h3⟩:=ag h
 rw[fL e1,fL e2,aX h1]
 refine rW h2 λc j p h2=>?_
 rw[Ko h2]
 exact k a j p q h3
theorem RA{j:Nat}{p:Pos}(ha:PE X x (cV (yx t X) E A)):PC X (isB ng) x (.Constant .none j p) (cV (yx t X) E (s1 (Hq ng) A)):=by
 have key:∀{τ H QV},cV (yx t X) E (s1 (Hq ng) A) τ H QV->cV (yx t X) E A τ H λv H1=>QV (.bl (ng != decide (v=.non))) H1:=by
  intro τ H QV ⟨G,M,σ,h,xc,Q,k,q⟩
  refine⟨G,M,σ,h,xc,_,⟨k.rel,k.env,λd h1 M1 H1 v e1 r1 i1 q1=>?_,k.exc⟩,q⟩
  cases d with
  |r n=>
   obtain⟨ad,_,rfl⟩:=i1
   refine k.out _ h1 M1 H1 _ e1 r1 ?_ q1
   rw[aY (λz=>by cases z),Bool.bne_false];exact iK
  |p d=>
   have q1:Q [.p (.bl (AI ng (GG d)))] h1:=q1
   rw[AJ] at q1
   refine k.out _ h1 M1 H1 _ e1 r1 ?_ q1
   have:GG d=decide (v=.non):=by
    cases d<;>unfold cQ bL at i1
    case non=>rw[i1];rfl
    case bl=>rw[i1];rfl
    case int=>rw[i1];rfl
    case str=>rw[i1];rfl
    case ty=>rw[i1];rfl
    case tup=>obtain⟨_,_,e,_⟩:=i1;rw[e];rfl
    case lst=>obtain⟨_,_,e,_⟩:=i1;rw[e];rfl
    case scr=>obtain⟨_,_,e,_⟩:=i1;rw[e];rfl
    case dct=>obtain⟨_,_,e,_⟩:=i1;rw[e];rfl
    case obj=>obtain⟨_,_,_,e,_⟩:=i1;rw[e];rfl
    case fn=>obtain⟨_,_,e⟩:=i1;rw[e];rfl
   rw[this];exact iK
 cases ng with
 |true=>exact λpins s σ H Q I q=>ML ha pins s σ H Q I (by have:=key q;simp only[kx] at this;exact this)
 |false=>exact λpins s σ H Q I q=>SO ha pins s σ H Q I (by have:=key q;simp only[jy] at this;exact this)
theorem OH{C:Sm}{r r':R2}{o o':O2}(h1:iQ (yx t X) r o)(h2:iQ (yx t X) r' o'){τ:L2.St}{H:Hp}{QV:VK}(h:cV (yx t X) E (sCh o o' A B C) τ H QV):Ba r r' (cV (yx t X) E A) (cV (yx t X) E B) (cV (yx t X) E C) τ H QV:=by
 obtain⟨G,M,σ,h,xc,Q,k,q⟩:=h
 refine⟨G,M,σ,h,xc,_,⟨k.rel,k.env,λx y6 M1 H1 vx e1 r1 i1 q1=>?_,k.exc⟩,q⟩
 refine⟨G,M1,σ,y6,xc,_,k.on e1 r1 λy OP M2 H2 vy e2 r2 i2 q2=>?_,q1⟩
 refine h1 G M2 OP H2 x y vx vy _ _ r2 (i1.ext r1 e2) i2 q2 λd h3 M3 H3 w e3 r3 i3 q3=>?_
 split at q3
 ·rename_i bb
  refine⟨bb,Ff i3,?_⟩
  cases bb with
  |true=>
   rw[bF rfl]
   refine⟨G,M3,σ,h3,xc,_,k.on (e1.trans (e2.trans e3)) r3 λz h4 M4 H4 vz e4 r4 i4 q4=>?_,q3⟩
   exact h2 G M4 h4 H4 y z vy vz _ _ r4 ((i2.ext r2 e3).ext r3 e4) i4 q4 λd5 h5 M5 H5 w5 e5 r5 i5 q5=>k.out d5 h5 M5 H5 w5 (e1.trans (e2.trans (e3.trans (e4.trans e5)))) r5 i5 q5
  |false=>
   rw[bJ aH]
   exact k.out _ h3 M3 H3 _ (e1.trans (e2.trans e3)) r3 iK q3
 ·exact q3.elim
def S_(S:Sx)(p q:CmpOp)(A B C:Em Γ t):Expr->Bool:=JD λa os bs _=>lM (l2 os) λo=>lM (l2 bs) λb=>(decide (o.1=p)&&decide (o.2=q))&&(qq b.2&&(A.ck S a&&(B.ck S b.1&&C.ck S b.2)))
@[elab_as_elim] theorem FJ {p q:CmpOp}{A B C:Em Γ t} (h:S_ S p q A B C x=true) (k:∀a b c ps,ab2 q c=false->A.ck S a=true->B.ck S b=true->C.ck S c=true->P (.Compare a [p,q] [b,c] ps)):P x:=by
 refine xu h λa os bs ps h=>?_
 obtain⟨o,e1,h⟩:=cy h
 obtain⟨b,e2,h⟩:=cy h
 obtain⟨h1,h⟩:=ag h
 obtain⟨θ,h12⟩:=ag h1
 obtain⟨h2,h⟩:=ag h
 obtain⟨h3,h⟩:=ag h
 obtain⟨h4,h5⟩:=ag h
 rw[B9 e1,B9 e2,aX θ,aX h12]
 exact k a b.1 b.2 ps (wR h2) h3 h4 h5
theorem w9{neg:Bool}{y:Expr}(hu:X.A.units+1<cLine)(ha:PE X x (cV (yx t X) E A))(hb:PE X y (cV (yx t X) E B)):PC X (bif neg then .NotIn else .In) x y (cV (yx t X) E (s2 (AN neg) A B)):=by
 cases neg with
 |true=>exact AW hu ha hb
 |false=>exact MK hu ha hb
namespace Em
def cmp(c:Co)(A B:Em Γ t):Em Γ t:=⟨s2 c.o A.m B.m,λS=>OI S c.op A B,λ{k S X E x} o h=>by
 refine wc h λa b p h1 h2 h3=>?_
 obtain⟨r,r1,r2⟩:=c.ok t X o.hu
 exact SW r1 r2 (A.pe o h2) (B.pe o h3) h1⟩
def F'(ng:Bool)(A B:Em Γ t):Em Γ t:=⟨s2 (AN ng) A.m B.m,λS=>OI S (bif ng then .NotIn else .In) A B,λo h=>by
 refine wc h λa b p h1 h2 h3=>?_
 exact XW (w9 o.Vb (A.pe o h2) (B.pe o h3)) h1⟩
def ch(c d:Co)(A B C:Em Γ t):Em Γ t:=⟨sCh c.o d.o A.m B.m C.m,λS=>S_ S c.op d.op A B C,λ{k S X E x} o h=>by
 refine FJ h λa b c' p h1 h2 h3 h4=>?_
 obtain⟨r,r1,r2⟩:=c.ok t X o.hu
 obtain⟨r',r3,r4⟩:=d.ok t X o.hu
 exact(HJ r1 r3 (A.pe o h2) (B.pe o h3) (C.pe o h4) h1).imp λ_ _ _=>OH r2 r4⟩
end Em
namespace Tm
def val(A:Em Γ t):Tm Γ t:=⟨A.m,λS x=>YO x&&A.ck S x,λo h=>UB (ag h).1 (A.pe o (ag h).2)⟩
def cmp(c:Co)(A B:Em Γ t):Tm Γ t:=⟨s2 c.o A.m B.m,λS=>OI S c.op A B,λ{k S X E x} o h=>by
 refine wc h λa b p h1 h2 h3=>?_
 obtain⟨r,r1,r2⟩:=c.ok t X o.hu
 exact Ni r1 r2 (A.pe o h2) (B.pe o h3) h1⟩
def isN(ng:Bool)(A:Em Γ t):Tm Γ t:=⟨s1 (Hq ng) A.m,λS=>Xa S ng A,λo h=>by
 refine LU h λa j p q h1=>?_
 exact Ie (RA (A.pe o h1)) (wR rfl)⟩
def F'(ng:Bool)(A B:Em Γ t):Tm Γ t:=⟨s2 (AN ng) A.m B.m,λS=>OI S (bif ng then .NotIn else .In) A B,λo h=>by
 refine wc h λa b p h1 h2 h3=>?_
 exact Ie (w9 o.Vb (A.pe o h2) (B.pe o h3)) h1⟩
def ch(c d:Co)(A B C:Em Γ t):Tm Γ t:=⟨sCh c.o d.o A.m B.m C.m,λS=>S_ S c.op d.op A B C,λ{k S X E x} o h=>by
 refine FJ h λa b c' p h1 h2 h3 h4=>?_
 obtain⟨r,r1,r2⟩:=c.ok t X o.hu
 obtain⟨r',r3,r4⟩:=d.ok t X o.hu
 exact(IA r1 r3 (A.pe o h2) (B.pe o h3) (C.pe o h4) h1).imp λ_ _ _ q=>OH r2 r4 (CV q)⟩
def not(A:Tm Γ t):Tm Γ t:=⟨ND A.m,λS=>Vh λo a _=>decide (o=.Not)&&A.ck S a,λo h=>by
 refine xv h λop a q h=>?_
 obtain⟨h1,h⟩:=ag h
 rw[aX h1]
 exact(IB (A.pt o h)).imp λ_ _ _=>Jp⟩
end Tm
namespace Wm
def a1(A:Tm Γ t):Wm Γ t .And:=⟨A.m,λS xs=>lM (l1 xs) (A.ck S),λo h pos=>by
 obtain⟨a,e,h⟩:=cy h
 rw[fL e]
 exact Nu (A.pt o h)⟩
def o1(A:Tm Γ t):Wm Γ t .Or:=⟨A.m,λS xs=>lM (l1 xs) (A.ck S),λo h pos=>by
 obtain⟨a,e,h⟩:=cy h
 rw[fL e]
 exact IE (A.pt o h)⟩
def Xj(xs:List Expr)(f:Expr->List Expr->Bool):Bool:=lM (lc xs) λp=>!Au p.2&&f p.1 p.2
@[elab_as_elim] theorem wK {xs:List Expr}{P:List Expr->Prop}{f:Expr->List Expr->Bool} (h:Xj xs f=true) (k:∀a b r,f a (b::r)=true->P (a::b::r)):P xs:=by
 obtain⟨⟨a,r⟩,e,h⟩:=cy h
 obtain⟨h1,h⟩:=ag h
 rw[vi e]
 cases r with
 |nil=>cases h1
 |cons b r=>exact k a b r h
def ac(A:Tm Γ t)(B:Wm Γ t .And):Wm Γ t .And:=⟨NB A.m B.m,λS xs=>Xj xs λa r=>A.ck S a&&B.ck S r,λo h pos=>by
 refine wK h λa b r h=>?_
 exact(Tv (A.pt o (ag h).1) (B.pw o (ag h).2 pos)).imp λ_ _ _=>Jo⟩
def oc(A:Tm Γ t)(B:Wm Γ t .Or):Wm Γ t .Or:=⟨ZY A.m B.m,λS xs=>Xj xs λa r=>A.ck S a&&B.ck S r,λo h pos=>by
 refine wK h λa b r h=>?_
 exact(Ph (A.pt o (ag h).1) (B.pw o (ag h).2 pos)).imp λ_ _ _=>NY⟩
end Wm
def Tm.bo(B:Wm Γ t op):Tm Γ t:=⟨B.m,λS=>CY λo xs _=>decide (o=op)&&B.ck S xs,λo h=>by
 refine yQ h λo' xs p h=>?_
 obtain⟨h1,h⟩:=ag h
 rw[aX h1]
 exact(B.pw o h p).pt⟩
namespace Bm
def a1(A:Em Γ t):Bm Γ t .And:=⟨A.m,λS xs=>lM (l1 xs) (A.ck S),λo h pos=>by
 obtain⟨a,e,h⟩:=cy h
 rw[fL e]
 exact HP (A.pe o h)⟩
def o1(A:Em Γ t):Bm Γ t .Or:=⟨A.m,λS xs=>lM (l1 xs) (A.ck S),λo h pos=>by
 obtain⟨a,e,h⟩:=cy h
 rw[fL e]
 exact HP (A.pe o h)⟩
def ac(A:Em Γ t)(B:Bm Γ t .And):Bm Γ t .And:=⟨NB A.m B.m,λS xs=>Wm.Xj xs λa r=>A.ck S a&&B.ck S r,λo h pos=>by
 refine Wm.wK h λa b r h=>?_
 exact(SQ (A.pe o (ag h).1) (B.pe o (ag h).2 pos)).imp λ_ _ _=>NZ⟩
def oc(A:Em Γ t)(B:Bm Γ t .Or):Bm Γ t .Or:=⟨ZY A.m B.m,λS xs=>Wm.Xj xs λa r=>A.ck S a&&B.ck S r,λo h pos=>by
 refine Wm.wK h λa b r h=>?_
 exact(XS (A.pe o (ag h).1) (B.pe o (ag h).2 pos)).imp λ_ _ _=>Ul⟩
end Bm
namespace Em
def bo(B:Bm Γ t op):Em Γ t:=⟨B.m,λS=>CY λo xs _=>decide (o=op)&&B.ck S xs,λo h=>by
 refine yQ h λo' xs p h=>?_
 obtain⟨h1,h⟩:=ag h
 rw[aX h1]
 exact B.pe o h p⟩
def not(A:Em Γ t):Em Γ t:=⟨ND A.m,λS=>Vh λo a _=>decide (o=.Not)&&A.ck S a,λo h=>by
 refine xv h λop a q h=>?_
 obtain⟨h1,h⟩:=ag h
 rw[aX h1]
 exact(SV (A.pe o h)).imp λ_ _ _=>N0⟩
end Em
namespace Am
def nil:Am Γ t:=⟨EF,λ_ xs=>Au xs,λ_ h=>by rw[kL h];exact⟨MZ,rfl⟩⟩
def cons(A:Em Γ t)(B:Am Γ t):Am Γ t:=⟨IW A.m B.m,λS xs=>lM (lc xs) λp=>bY p.1&&(A.ck S p.1&&B.ck S p.2),λo h=>by
 obtain⟨⟨a,r⟩,e,h⟩:=cy h
 obtain⟨h1,h⟩:=ag h
 obtain⟨h2,h3⟩:=ag h
 rw[vi e]
 obtain⟨p,q⟩:=B.pa o h3
 exact⟨HW (A.pe o h2) p h1,by rw[aB,h1,q];rfl⟩⟩
end Am
end
end F
namespace F
open PySem PySem.Spec PyProof.Rows L2
variable{X:Cx}{P:Expr->Prop}{S:Sx}
theorem Ku:aa6 "dict"=some (.type "dict"):=by decide +kernel
theorem aaP{j:Nat}{p q:Pos}:PE X (.UnaryOp .USub (.Constant (.int 1) j p) q) (tC (.int (-1))):=(Pc JA ma).imp λ_ _ _ h=>⟨1,rfl,h⟩
structure Bi where
 o:ON
 nm:Str
 ok:∀{t X E A e es p pos},X.calm=true->Gl X nm->X.mg nm=none->PA X (e::es) (gK (yx t X) E A)->nm≠"__name__"->(nm == ("__debug__":Str))=false->(e::es).all bY=true->PE X (.Call (.Name nm p) (e::es) [] pos) (cV (yx t X) E (sN o A))
def dE:Bi:=⟨Sl,"len",λ_ hg hm ha hn jT eo=>HS Dx LL hg hm Ft ha hn jT eo⟩
def fW:Bi:=⟨Sk,"isinstance",λ_ hg hm ha hn jT eo=>HS Dw LK hg hm cH ha hn jT eo⟩
def F6:Bi:=⟨Hn,"all",λhc hg hm ha hn jT eo=>HS (xS hc) LD hg hm Qx ha hn jT eo⟩
def yf:Bi:=⟨Hy,"tuple",λ_ hg hm ha hn jT eo=>vq uD GO hg hm xQ ha hn jT eo⟩
def zW:Bi:=⟨Hu,"list",λ_ hg hm ha hn jT eo=>vq vX GK hg hm vQ ha hn jT eo⟩
def Wc:Bi:=⟨Ho,"int",λ_ hg hm ha hn jT eo=>vq Du GJ hg hm Fs ha hn jT eo⟩
def R':Bi:=⟨Hw,"str",λ_ hg hm ha hn jT eo=>vq vY GN hg hm Fu ha hn jT eo⟩
def QY:Bi:=⟨Si,"dict",λhc hg hm ha hn jT eo=>vq (p0 hc) LH hg hm Ku ha hn jT eo⟩
def P':Bi:=⟨Sn,"list",λhc hg hm ha hn jT eo=>vq (zF hc) LM hg hm vQ ha hn jT eo⟩
structure Mt where
 c:Nat
 o:OM
 nm:Str
 ok:∀{t X E A R ob a rest apos du},PE X ob (cV (yx t X) E A)->PA X (a::rest) (gK (yx t X) E R)->ab3 ob nm X.env (eval ob X.env)=eval ob X.env->(a::rest).all bY=true->(a::rest).length<30->(apos.endLine == du.line)=true->PE X (.Call (.Attribute ob nm apos) (a::rest) [] du) (cV (yx t X) E (TN c o A R))
def uM:Mt:=⟨4,Sf,"append",λho ha hb hp hl hn=>Pd (c:=4) dh iD iE i8 LF ho ha hb hp hl hn⟩
def aaL:Mt:=⟨4,Sh,"count",λho ha hb hp hl hn=>Pd (c:=4) dh iV UQ Ec LG ho ha hb hp hl hn⟩
structure M0 where
 c:Nat
 o:OM
 nm:Str
 ok:∀{t X E A ob apos du},PE X ob (cV (yx t X) E A)->ab3 ob nm X.env (eval ob X.env)=eval ob X.env->(apos.endLine == du.line)=true->PE X (.Call (.Attribute ob nm apos) [] [] du) (cV (yx t X) E (TN c o A EF))
def aaM:M0:=⟨0,λx ds h Q=>match ds with
 | []=>MA x [] h Q
 |_=>False,"upper",λho hb hn=>S4 (c:=0) (id:="str.upper") (SR PySem.F.plainAttrs_str PySem.F.slot_str_upper PySem.F.type_str_upper Hh ho hb hn) LR⟩
section
variable {Γ:Gm}{t:Tb}
theorem XT{E:XK}{x y:Expr}{A B:Sm}{pos:Pos}(ha:PE X x (cV (yx t X) E A))(hb:PE X y (cV (yx t X) E B))(hs:oF y):PE X (.Subscript x y pos) (cV (yx t X) E (s2 ZS A B)):=(tU RL ha hb hs).imp λ_ _ _=>ui RE
structure Pm (Γ:Gm) (t:Tb) where
 m:Option Sm
 ck:Sx->Option Expr->Bool
 po:∀{k S X E x},rA Γ t k S X E->ck S x=true->PO X x (EK (yx t X) E m)
def Pm.no:Pm Γ t:=⟨none,λ_ x=>x.isNone,λ{k S X E x} _ h=>by
 cases x with
 |none=>exact HY
 |some x=>cases h⟩
def Pm.of(A:Em Γ t):Pm Γ t:=⟨some A.m,λS x=>lM x (A.ck S),λo h=>by
 obtain⟨a,e,h⟩:=cy h
 rw[e]
 exact HZ (A.pe o h)⟩
def JY:List ac4->Bool
 | []=>true
 |_=>false
theorem kM{l:List ac4}(h:JY l=true):l = []:=by cases l<;>first|rfl|cases h
def Zl(S:Sx)(n:Str)(A:Am Γ t):Expr->Bool:=mn λf es ks _=>JY ks&&(E8 S n f&&(!Au es&&A.ck S es))
@[elab_as_elim] theorem zG {k S X E}{n:Str}{A:Am Γ t}{x:Expr} (o:rA Γ t k S X E) (h:Zl S n A x=true) (q:∀p pos e es,Gl X n->(n == ("__debug__":Str))=false->n≠"__name__"->PA X (e::es) (gK (yx t X) E A.m)->(e::es).all bY=true->P (.Call (.Name n p) (e::es) [] pos)):P x:=by
 refine gM h λf es ks pos h=>?_
 obtain⟨h1,h⟩:=ag h
 obtain⟨h2,h⟩:=ag h
 obtain⟨h3,h⟩:=ag h
 obtain⟨p,e,hg,hd,hn⟩:=jj o h2
 rw[kM h1,e]
 cases es with
 |nil=>cases h3
 |cons a es=>
  obtain⟨pa,pl⟩:=A.pa o h
  exact q p pos a es hg hd hn pa pl
def dsB(S:Sx)(A:Am Γ t):Expr->Bool:=Ux λes _=>A.ck S es
def sbB(S:Sx)(A B:Em Γ t):Expr->Bool:=Bg λa i _=>yB i&&(A.ck S a&&B.ck S i)
@[elab_as_elim] theorem I0 {A B:Em Γ t}{x:Expr} (h:sbB S A B x=true) (q:∀a i p,oF i->A.ck S a=true->B.ck S i=true->P (.Subscript a i p)):P x:=by
 refine pG h λa i p h=>?_
 obtain⟨h1,h⟩:=ag h
 obtain⟨h2,h3⟩:=ag h
 exact q a i p (GX h1) h2 h3
theorem Km{i:Int}{c:PySem.Const}(h:VI (.int i) c=true):c=.int i:=by cases c<;>first|(rw[aX h];done)|cases h
def Xw:Expr->Bool:=Vh λo a _=>decide (o=.USub)&&JF (λc _ _=>VI (.int 1) c) a
@[elab_as_elim] theorem Mj {x:Expr} (h:Xw x=true) (q:∀j p r,P (.UnaryOp .USub (.Constant (.int 1) j p) r)):P x:=by
 refine xv h λo a r h=>?_
 obtain⟨h1,h⟩:=ag h
 rw[aX h1]
 refine rW h λc j p h=>?_
 rw[Km h]
 exact q j p r
def ZM(S:Sx)(nm:Str)(O:Em Γ t)(f:List Expr->Bool):Expr->Bool:=mn λg es ks q=>JY ks&&(f es&&EO (λob m p=>aR m nm&&((p.endLine == q.line)&&(Cj ob&&O.ck S ob))) g)
@[elab_as_elim] theorem AH {nm:Str}{O:Em Γ t}{f:List Expr->Bool}{x:Expr} (h:ZM S nm O f x=true) (q:∀ob es apos du,f es=true->O.ck S ob=true->Cj ob=true->(apos.endLine == du.line)=true->P (.Call (.Attribute ob nm apos) es [] du)):P x:=by
 refine gM h λg es ks r h=>?_
 obtain⟨h1,h⟩:=ag h
 obtain⟨h2,h⟩:=ag h
 rw[kM h1]
 refine rV h λob m p h=>?_
 obtain⟨h3,h⟩:=ag h
 obtain⟨h4,h⟩:=ag h
 obtain⟨h5,h6⟩:=ag h
 rw[aZ.mp h3]
 exact q ob es p r h2 h6 h5 h4
namespace Em
def tup(A:Am Γ t):Em Γ t:=⟨sN Hx A.m,λS=>JG λes _ _=>A.ck S es,λo h=>rX h λ_ _ _ h=>S8 (A.pa o h).1⟩
def lst(A:Am Γ t):Em Γ t:=⟨sN Ht A.m,λS=>dsB S A,λo h=>Dd h λ_ _ h=>S3 (A.pa o h).1⟩
def R4(A:Am Γ t):Em Γ t:=⟨sN Hr A.m,λS=>dsB S A,λo h=>Dd h λ_ _ h=>S2 (A.pa o h).1⟩
def ix(A B:Em Γ t):Em Γ t:=⟨s2 ZS A.m B.m,λS=>sbB S A B,λo h=>I0 h λ_ _ _ h1 h2 h3=>XT (A.pe o h2) (B.pe o h3) h1⟩
def BN(A B:Em Γ t):Em Γ t:=⟨s2 Sj A.m B.m,λS=>sbB S A B,λo h=>I0 h λ_ _ _ h1 h2 h3=>SY o.Vb (A.pe o h2) (B.pe o h3) h1⟩
def sl(A:Em Γ t)(L U:Pm Γ t):Em Γ t:=⟨sSl A.m L.m U.m,λS=>Bg λa i _=>A.ck S a&&Oi (λl u s _=>s.isNone&&(L.ck S l&&U.ck S u)) i,λo h=>by
 refine pG h λa i p h=>?_
 obtain⟨h1,h⟩:=ag h
 refine De h λl u s q h=>?_
 obtain⟨h2,h⟩:=ag h
 obtain⟨h3,h4⟩:=ag h
 cases s with
 |none=>exact XX (A.pe o h1) (L.po o h3) (U.po o h4)
 |some s=>cases h2⟩
def rev(A:Em Γ t):Em Γ t:=⟨s1 My A.m,λS=>Bg λa i _=>A.ck S a&&Oi (λl u s _=>l.isNone&&(u.isNone&&lM s Xw)) i,λo h=>by
 refine pG h λa i p h=>?_
 obtain⟨h1,h⟩:=ag h
 refine De h λl u s q h=>?_
 obtain⟨h2,h⟩:=ag h
 obtain⟨h3,h4⟩:=ag h
 obtain⟨s',e,h4⟩:=cy h4
 rw[e]
 cases l with
 |some _=>cases h2
 |none=>cases u with
  |some _=>cases h3
  |none=>exact Mj h4 λ_ _ _=>S6 (A.pe o h1) aaP⟩
def bi(b:Bi)(A:Am Γ t):Em Γ t:=⟨sN b.o A.m,λS x=>iu b.nm S.Kq&&Zl S b.nm A x,λo h=>zG o (ag h).2 λ_ _ _ _ hg hd hn pa pl=>b.ok o.hc hg (o.bl _ (jK (ag h).1)) pa hn hd pl⟩
def aaH(A:Em Γ t):Em Γ t:=⟨s1 Ck A.m,λS=>mn λf es ks _=>JY ks&&(E8 S "len" f&&(iu "len" S.Kq&&(iu "set" S.Kq&&lM (l1 es) (mn λg xs ls _=>JY ls&&(E8 S "set" g&&lM (l1 xs) λe=>bY e&&A.ck S e))))),λo h=>by
 refine gM h λf es ks p h=>?_
 obtain⟨h1,h⟩:=ag h
 obtain⟨h2,h⟩:=ag h
 obtain⟨h3,h⟩:=ag h
 obtain⟨h4,h⟩:=ag h
 obtain⟨x,e1,h⟩:=cy h
 obtain⟨p1,e2,hg,hd,hn⟩:=jj o h2
 rw[kM h1,fL e1,e2]
 refine gM h λg xs ls q h=>?_
 obtain⟨h5,h⟩:=ag h
 obtain⟨h6,h⟩:=ag h
 obtain⟨x,e3,h⟩:=cy h
 obtain⟨p2,e4,Ω,hd2,Lu⟩:=jj o h6
 rw[kM h5,fL e3,e4]
 exact MX o.hc hg (o.bl _ (jK h3)) Ω (o.bl _ (jK h4)) (A.pe o (ag h).2) (ag h).1⟩
def mt(m:Mt)(O:Em Γ t)(A:Am Γ t):Em Γ t:=⟨TN m.c m.o O.m A.m,λS=>ZM S m.nm O λes=>Nat.blt es.length 30&&(!Au es&&A.ck S es),λo h=>AH h λob es apos du h1 h2 h3 h4=>by
 obtain⟨g1,g⟩:=ag h1
 obtain⟨g2,g⟩:=ag g
 cases es with
 |nil=>cases g2
 |cons a es=>
  obtain⟨pa,pl⟩:=A.pa o g
  exact m.ok (O.pe o h2) pa (rB h3) pl (aU g1) h4⟩
def m0(m:M0)(O:Em Γ t):Em Γ t:=⟨TN m.c m.o O.m EF,λS=>ZM S m.nm O Au,λo h=>AH h λob es apos du h1 h2 h3 h4=>by
 rw[kL h1]
 exact m.ok (O.pe o h2) (rB h3) h4⟩
def cl(i:Nat)(ρ:List Nat)(A:Am Γ t):Em Γ t:=⟨IT ρ (Γ.fn i) A.m,λS x=>hU i Γ.uv&&Zl S (S.oW i) A x,λ{k S X E x} o h=>by
 obtain⟨ps,D⟩:=o.fn i (dM.mp (ag h).1)
 rw[<-o.oW] at D
 exact zG o (ag h).2 λ_ _ _ _ hg hd hn pa pl=>MW D o.hr o.hp hg pa hd pl⟩
def clv(ρ:List Nat)(i:Nat)(A:Am Γ t):Em Γ t:=⟨IU Γ.fn Γ.uv ρ (sV i) A.m,λS=>mn λf es ks _=>JY ks&&(isV S i f&&(!Au es&&A.ck S es)),λo h=>by
 refine gM h λf es ks p h=>?_
 obtain⟨h1,h⟩:=ag h
 obtain⟨h2,h⟩:=ag h
 obtain⟨h3,h⟩:=ag h
 rw[kM h1]
 cases es with
 |nil=>cases h3
 |cons a es=>
  obtain⟨pa,pl⟩:=A.pa o h
  have z:=GR o h2
  revert z
  refine jw h2 λx q _=>λz=>?_
  exact HU o.fn o.hr o.hp (XZ z) pa pl⟩
def tg(i:Nat)(A:Em Γ t):Em Γ t:=⟨s1 (Cm (Γ.tab i)) A.m,λS=>mn λg es ks q=>JY ks&&(hU i Γ.tok&&EO (λf m p=>E8 S (S.YJ i) f&&(aR m "get"&&((p.endLine == q.line)&&lM (l1 es) λe=>bY e&&A.ck S e))) g),λo h=>by
 refine gM h λg es ks q h=>?_
 obtain⟨h1,h⟩:=ag h
 obtain⟨h2,h⟩:=ag h
 rw[kM h1]
 refine rV h λf m p h=>?_
 obtain⟨h3,h⟩:=ag h
 obtain⟨h4,h⟩:=ag h
 obtain⟨h5,h⟩:=ag h
 obtain⟨e,e1,h⟩:=cy h
 obtain⟨p1,e2,hg,hd,hn⟩:=jj o h3
 obtain⟨ad,hm,T⟩:=o.tab i (dM.mp h2)
 rw[aZ.mp h4,fL e1,e2]
 exact MY T hg hm (A.pe o (ag h).2) hd (ag h).1 h5⟩
def ti(i:Nat)(A:Em Γ t):Em Γ t:=⟨s1 (Mz (Γ.tab i)) A.m,λS=>Bg λf e _=>hU i Γ.tok&&(E8 S (S.YJ i) f&&(yB e&&A.ck S e)),λo h=>by
 refine pG h λf e p h=>?_
 obtain⟨h1,h⟩:=ag h
 obtain⟨h2,h⟩:=ag h
 obtain⟨h3,h⟩:=ag h
 obtain⟨p1,e2,hg,hd,hn⟩:=jj o h2
 obtain⟨ad,hm,T⟩:=o.tab i (dM.mp h1)
 rw[e2]
 exact S7 T hg hm (A.pe o h) hd (GX h3)⟩
def fld(c j:Nat)(A:Em Γ t):Em Γ t:=⟨s1 (Mr c j) A.m,λS=>EO λa f _=>hU c S.OJ&&(AM f j (S.fl c)&&(Cj a&&A.ck S a)),λo h=>by
 refine rV h λa f p h=>?_
 obtain⟨h1,h⟩:=ag h
 obtain⟨h2,h⟩:=ag h
 obtain⟨h3,h⟩:=ag h
 obtain⟨C,hf⟩:=o.cls c (dM.mp h1)
 exact S1 C (by rw[hf];exact mJ h2) (A.pe o h) (rB h3)⟩
def new(c:Nat)(A:Am Γ t):Em Γ t:=⟨Yf c (Γ.zc c) A.m,λS x=>hU c Γ.qA&&Zl S (S.JV c) A x,λ{k S X E x} o h=>by
 obtain⟨ps,D⟩:=o.zc c (dM.mp (ag h).1)
 exact zG o (ag h).2 λ_ _ _ _ hg hd hn pa pl=>S5 D o.hr hg pa hd pl⟩
def D':Expr->Bool:=Oc λks vs _=>Au ks&&Au vs
def V6:Em Γ t:=⟨IY,λ_=>D',λo h=>by
 refine C0 h λks vs p h=>?_
 rw[kL (ag h).1,kL (ag h).2];exact HV⟩
end Em
namespace Jm
def s(A:Em Γ t):Jm Γ t:=⟨s1 XG A.m,λS _ x=>A.ck S x,λo h=>M8 (A.pe o h)⟩
def c(A:Em Γ t):Jm Γ t:=⟨s1 XF A.m,λS tx x=>ur (λ_ _=>A.ck S x) tx,λo h=>by
 refine jw h λn p h=>?_
 exact M9 (A.pe o h)⟩
def r(A:Am Γ t):Jm Γ t:=⟨sN Mu A.m,λS _ x=>iu "range" S.Kq&&mn (λf es ks _=>JY ks&&(E8 S "range" f&&(lM (l1 es) λ_=>A.ck S es))) x,λo h=>by
 obtain⟨h0,h⟩:=ag h
 refine gM h λf es ks q h=>?_
 obtain⟨h1,h⟩:=ag h
 obtain⟨h2,h⟩:=ag h
 obtain⟨e,e1,h⟩:=cy h
 obtain⟨p,e2,hg,hd,hn⟩:=jj o h2
 rw[fL e1] at h
 rw[kM h1,fL e1,e2]
 obtain⟨p,q⟩:=A.pa o h
 rw[aB,ay] at q
 exact M7 hg (o.bl _ (jK h0)) p q.1⟩
def zpB(S:Sx)(A:Am Γ t)(tx x:Expr):Bool:=JG (λ_ _ _=>iu "zip" S.Kq&&mn (λf es ks _=>JY ks&&(E8 S "zip" f&&(lM (l2 es) λ_=>A.ck S es))) x) tx
@[elab_as_elim] theorem JR {k S X E}{A:Am Γ t}{P:Expr->Expr->Prop}{tx x:Expr} (o:rA Γ t k S X E) (h:zpB S A tx x=true) (q:∀es k0 tp p pos a b,Gl X "zip"->X.mg "zip"=none->PA X [a,b] (gK (yx t X) E A.m)->bY a=true->bY b=true->P (.Tuple es k0 tp) (.Call (.Name "zip" p) [a,b] [] pos)):P tx x:=by
 refine rX h λes k0 tp h=>?_
 obtain⟨h0,h⟩:=ag h
 refine gM h λf xs ks pos h=>?_
 obtain⟨h1,h⟩:=ag h
 obtain⟨h2,h⟩:=ag h
 obtain⟨e,e1,h⟩:=cy h
 obtain⟨p,e2,hg,hd,hn⟩:=jj o h2
 rw[B9 e1] at h
 rw[kM h1,B9 e1,e2]
 obtain⟨pa,pl⟩:=A.pa o h
 rw[aB,aB,ay,ay] at pl
 exact q es k0 tp p pos e.1 e.2 hg (o.bl _ (jK h0)) pa pl.1 pl.2.1
def z(A:Am Γ t):Jm Γ t:=⟨sN Mx A.m,λS tx x=>zpB S A tx x,λo h=>JR o h λ_ _ _ _ _ _ _ hg hm pa h1 h2=>Na hg hm pa h1 h2⟩
def x(A:Am Γ t):Jm Γ t:=⟨sN Mw A.m,λS tx x=>zpB S A tx x,λo h=>JR o h λ_ _ _ _ _ _ _ hg hm pa h1 h2=>HX hg hm pa h1 h2⟩
end Jm
end
end F
namespace F
open PySem PySem.Spec PyProof.Rows L2
variable{X:Cx}{e i a:Expr}{S:Sx}{x:Stmt}{es:List Expr}{env:Env}{tg:Tg}{js:List Nat}{scope:Scope}{k l:Nat}{E:XK}{P:Stmt->Prop}{p:Pos}
theorem _root_.L2.qO.imp{e:List Expr}{t t':TT}(h:qO X e t')(i:∀σ H Q,t σ H Q->t' σ H Q):qO X e t:=λpins s σ H Q I q=>h pins s σ H Q I (i σ H Q q)
structure Fm (Γ:Gm) (t:Tb) where
 m:Sm
 ck:Sx->List Expr->Bool
 pf:∀{k S X E xs},rA Γ t k S X E->ck S xs=true->qO X xs (kU (yx t X) E m)
noncomputable def CC(sc scope:Scope):Scope:={scope with names:=scope.names.map λ(n,k)=>if (k == .free&&sc.kind == .function&&sc.names.lookup n == some .cell) then(n,.cell) else(n,k)}
noncomputable def aaS(x:Expr):Option Str:=match x with
 |.Name n _=>some n
 |_=>none
def Bb(x:Expr):lS7:=match x with
 |.Name n _=> [n]
 |.Tuple es _ _=>es.filterMap aaS
 |_=> []
def zd:lS7->Bool
 | []=>true
 |x::r=>!iu x r&&zd r
theorem oY{x:Str}:∀{l:lS7},x∈l->iu x l=true
 | [],h=>by cases h
 |y::r,h=>by
  unfold iu
  rcases aN.mp h with h|h
  ·rw[aZ.mpr h];rfl
  ·rw[oY h,zf]
theorem qo:∀{l:lS7},zd l=true->l.Nodup
 | [],_=>fF
 |x::r,h=>by
  refine cA.mpr ⟨λz=>?_,qo (ag h).2⟩
  have:=gI (ag h).1
  rw[oY z] at this;cases this
def Vd(S:Sx)(x:Str):Bool:=Mg S.sc x&&(S.fr||AU S.sc x)
def Z4(S:Sx)(i:Nat):Expr->Bool:=ur λx _=>AM x i S.N&&Vd S x
def Um(S:Sx):List Nat->List Expr->Bool
 | [],[]=>true
 |i::is,e::es=>Z4 S i e&&Um S is es
 |_,_=>false
def Z3(S:Sx):Tg->Expr->Bool
 |.one i=>Z4 S i
 |.many is=>JG λes _ _=>Um S is es
theorem Pe{i:Nat}{x:Expr}(hN:X.N=S.N)(hs:X.env.scope=S.sc)(nd:X.N.Nodup)(hf:∀y,Vd S y=true->X.fn y=true\/X.env.scope.names.lookup y=some .local)(h:Z4 S i x=true):PG X x (lW i)/\∀env,ab9 [x] env = [(false,assign x env)]:=by
 refine jw h λn p h=>?_
 obtain⟨h1,h2⟩:=ag h
 exact⟨xb nd (by rw[hN];exact mJ h1) (by rw[hs];exact AA (ag h2).1) (hf n h2),λ_=>rfl⟩
theorem Dr{x:Expr}(h:bY x=true):ab9 (x::es) env=(false,assign x env)::ab9 es env:=by
 cases x<;>first|rfl|cases h
theorem Ju{i:Nat}{x:Expr}(h:Z4 S i x=true):bY x=true:=jw h λ_ _ _=>rfl
theorem Ig{S:Sx}{X:Cx}(hN:X.N=S.N)(hs:X.env.scope=S.sc)(nd:X.N.Nodup)(hf:∀y,Vd S y=true->X.fn y=true\/X.env.scope.names.lookup y=some .local):∀{is:List Nat}{es:List Expr},Um S is es=true->Qn X es (Gb is)/\(ab9 es X.env).length=is.length/\(ab9 es X.env).findIdx? (·.1)=none
 | [],[],_=>⟨Nk,rfl,rfl⟩
 | [],_::_,h=>by cases h
 |_::_,[],h=>by cases h
 |i::is,e::es,h=>by
  obtain⟨h1,h2⟩:=ag h
  obtain⟨a,b,c⟩:=Ig hN hs nd hf h2
  have z:=Dr (es:=es) (env:=X.env) (Ju h1)
  refine⟨Ii (Pe hN hs nd hf h1).1 a (by rw[z];rfl),by rw[z,aF,aF,b],?_⟩
  rw[z,List.findIdx?_cons,c];rfl
theorem Ih{x:Expr}(hc:X.calm=true)(hN:X.N=S.N)(hs:X.env.scope=S.sc)(nd:X.N.Nodup)(hf:∀y,Vd S y=true->X.fn y=true\/X.env.scope.names.lookup y=some .local)(h:Z3 S tg x=true):PG X x (Wi X.K tg):=by
 cases tg with
 |one i=>exact(Pe hN hs nd hf h).1
 |many is=>
  refine rX h λes k p h=>?_
  obtain⟨a,b,c⟩:=Ig hN hs nd hf h
  exact Th hc a b c
theorem BQ{x:Value}(h:qq e=true):ab8 e env x=pure x:=by cases e<;>first|rfl|cases h
section
variable {Γ:Gm}{t:Tb}
def Fm.no:Fm Γ t:=⟨sC (.bl true),λ_ xs=>Au xs,λo h=>by
 rw[kL h]
 refine Ik.imp λτ H QB ⟨G,M,σ,h,xc,Q,k,q⟩=>?_
 obtain⟨b,e,z⟩:=k.out _ h M H Ext.refl k.rel q
 cases e;exact z⟩
def Fm.one(T:Tm Γ t):Fm Γ t:=⟨T.m,λS xs=>lM (l1 xs) (T.ck S),λo h=>by
 obtain⟨a,e,h⟩:=cy h
 rw[fL e]
 exact Il (T.pt o h)⟩
noncomputable def qS(js:List Nat)(N:lS7):lS7:=js.map λj=>(N[j]?).getD ""
theorem KO{N:lS7}(h:js.all (λj=>Nat.blt j N.length)=true):js.map (λj=>N[j]?)=(qS js N).map some:=by
 unfold qS
 rw[zh]
 refine List.map_congr_left λj hj=>?_
 have hl:j<N.length:=aU (aj.mp h j hj)
 rw[Function.comp_apply,aK hl];rfl
def Yl(N':lS7)(sc scope:Scope):Bool:=decide (scope.kind=.function)&&(zd N'&&(scope.names.all (λy=>y.2 != .cell) &&
 (scope.names.all (λy=>y.2 != .local||AU scope y.1)&&(scope.names.all (λy=>y.2 != .free||(decide (sc.names.lookup y.1=some .cell) && !AU (CC sc scope) y.1))))))
theorem kB{α:Type}{f:α->Bool}{l:List α}(h:l.all f=true):∀y∈l,f y=true:=aj.mp h
theorem NG{N':lS7}{sc:Scope}(WY:X.env.scope=sc)(h:Yl N' sc scope=true):g7 X N' scope:=by
 obtain⟨h1,h⟩:=ag h
 obtain⟨h2,h⟩:=ag h
 obtain⟨h3,h⟩:=ag h
 obtain⟨h4,h5⟩:=ag h
 have nx:∀{a b:NameKind}{c:Bool},(a != b||c)=true->a=b->c=true:=λ{a b c} z e=>by
  subst e
  rcases (dX _ _).mp z with z|z
  ·rw[bne_self_eq_false] at z;cases z
  ·exact z
 refine zI sc WY (aX h1) (qo h2) (λy hy z=>?_) (λy hy z=>AV (nx (kB h4 y hy) z)) (λy hy z=>aX (ag (nx (kB h5 y hy) z)).1) (λy hy z=>?_)
 ·have:=kB h3 y hy
  rw[z] at this;cases this
 ·have q:=gI (ag (nx (kB h5 y hy) z)).2
  unfold AU at q
  intro w
  rw[show(CC sc scope).names.lookup y.1=some .local from w] at q
  cases q
def VX(js:List Nat)(S:Sx)(scope:Scope):Bool:=js.all (λj=>Nat.blt j S.N.length)&&(qS js S.N).all λy=>scope.names.any λz=>aR z.1 y&&(z.2 == .free)
theorem KA(h:VX js S scope=true):js.map (λj=>S.N[j]?)=(qS js S.N).map some/\∀y∈qS js S.N,(y,NameKind.free)∈scope.names:=by
 obtain⟨h1,h2⟩:=ag h
 refine⟨KO h1,λy hy=>?_⟩
 obtain⟨z,hz,q⟩:=List.any_eq_true.mp (kB h2 y hy)
 obtain⟨z1,z2⟩:=z
 obtain⟨q1,q2⟩:=ag q
 have e1:z1=y:=aZ.mp q1
 have e2:z2=.free:=uQ q2
 subst e1 e2
 exact hz
def Uc(S:Sx)(N':lS7)(scope:Scope):Sx:={S with N:=N',sc:=CC S.sc scope,fr:=false}
theorem Ve(o:rA Γ t k S X E)(N':lS7)(scope:Scope)(fp:List Addr)(s₀:aa1)(H₀:Hp):rA Γ t k (Uc S N' scope) (hJ X N' scope fp s₀ H₀) (λ_ _ _=>False) where
 hN:=rfl
 hs:=by
  show relabel scope X.env=CC S.sc scope
  rw[<-o.hs];rfl
 hc:=o.hc
 hp:=λpins σ H s e s' I h=>by
  obtain⟨a,C,H',_,_,q⟩:=h
  exact q.elim
 hr:=o.hr
 bl:=o.bl
 oW:=o.oW
 fn:=o.fn
 gl:=o.gl
 tab:=o.tab
 cls:=o.cls
 zc:=o.zc
 fx:=λh=>by cases h
def QI(S:Sx)(n:Nat)(js:List Nat)(tg:Tg)(J:Jm Γ t)(F:Fm Γ t)(A:Em Γ t):Expr->Bool:=CZ λe gs sc _=>lM (l1 gs) λg=>decide (g.is_async=0)&&(qq g.iter&&(Nat.beq (Bb g.target).length n&&(N2 n tg&&(VX js S sc &&
 (Yl (Bb g.target++qS js S.N) S.sc sc&&(Z3 (Uc S (Bb g.target++qS js S.N) sc) tg g.target&&(J.ck S g.target g.iter&&(F.ck (Uc S (Bb g.target++qS js S.N) sc) g.ifs&&A.ck (Uc S (Bb g.target++qS js S.N) sc) e))))))))
@[elab_as_elim] theorem BB {n:Nat}{J:Jm Γ t}{F:Fm Γ t}{A:Em Γ t}{P:Expr->Prop}{x:Expr} (o:rA Γ t k S X E) (h:QI S n js tg J F A x=true)
  (q:∀N' tx ix ifs e sc p,g7 X N' sc->(∀σ:L2.St,σ.length=X.N.length->rZ X N' sc σ (qw n js σ))->PI X tx ix (uO (yx t X) E (uK J.m))->N2 n tg=true ->
   (∀{X' E'},rA Γ t k (Uc S N' sc) X' E'->PG X' tx (Wi X'.K tg))->F.ck (Uc S N' sc) ifs=true->A.ck (Uc S N' sc) e=true->(∀v,ab8 ix X.env v=pure v)->P (.ListComp e [⟨tx,ix,ifs,0⟩] sc p)):P x:=by
 refine JE h λe gs sc p h=>?_
 obtain⟨⟨tx,ix,ifs,as⟩,e1,h⟩:=cy h
 rw[fL e1]
 obtain⟨h1,h⟩:=ag h
 obtain⟨h2,h⟩:=ag h
 obtain⟨h3,h⟩:=ag h
 obtain⟨h4,h⟩:=ag h
 obtain⟨h5,h⟩:=ag h
 obtain⟨h6,h⟩:=ag h
 obtain⟨h7,h⟩:=ag h
 obtain⟨h9,h⟩:=ag h
 obtain⟨η,θ⟩:=ag h
 have e0:as=0:=aX h1
 subst e0
 have e3:(Bb tx).length=n:=ao h3
 obtain⟨c1,c2⟩:=KA h5
 have dr:(Bb tx++qS js S.N).drop n=qS js S.N:=by rw[<-e3,List.drop_left]
 exact q _ tx ix ifs e sc p (NG o.hs h6) (Q_ n js (by rw[ai,e3];unfold qS;rw[ah]) (by rw[dr,o.hN];exact c1) (by rw[dr];exact c2)) (J.pi o h9) h4 (λ{X' E'} oc=>Ih oc.hc oc.hN oc.hs (by rw[oc.hN];exact qo (ag (ag h6).2).1) (λy hy=>.inr (by rw[oc.hs];exact AV (ag hy).2)) h7) η θ (λ_=>BQ h2)
def Em.comp(n:Nat)(js:List Nat)(tg:Tg)(J:Jm Γ t)(F:Fm Γ t)(A:Em Γ t):Em Γ t:=⟨IV n js tg (uK J.m) F.m A.m false,λS=>QI S n js tg J F A,λo h=>BB o h λN' tx ix ifs e sc p h1 h2 h3 h4 h5 h6 h7 h8=>
 (MP h1 o.hc h2 h3 (λfp s₀ H₀=>h5 (Ve o _ _ fp s₀ H₀)) (λfp s₀ H₀=>F.pf (Ve o _ _ fp s₀ H₀) h6) (λfp s₀ H₀=>A.pe (Ve o _ _ fp s₀ H₀) h7) h8).imp λ_ _ _=>BD (λ_ _ z=>by cases z) h4⟩
def Uy(f':Option Expr->Pos->Bool)(x:Stmt):Bool:=Nat.beq x.ctorIdx 3&&(match x with
 |.Return e p=>f' e p
 |_=>false)
@[elab_as_elim] theorem Og {f':Option Expr->Pos->Bool} (h:Uy f' x=true) (q:∀e p,f' e p=true->P (.Return e p)):P x:=
 Stmt.Return.elim (motive_2:=λx=>Uy f' x=true->P x) x (ao (ag h).1) (λe p h=>q e p h) h
def EN(f':List Expr->Expr->Pos->Bool)(x:Stmt):Bool:=Nat.beq x.ctorIdx 5&&(match x with
 |.Assign ts e p=>f' ts e p
 |_=>false)
@[elab_as_elim] theorem rT {f':List Expr->Expr->Pos->Bool} (h:EN f' x=true) (q:∀ts e p,f' ts e p=true->P (.Assign ts e p)):P x:=
 Stmt.Assign.elim (motive_2:=λx=>EN f' x=true->P x) x (ao (ag h).1) (λts e p h=>q ts e p h) h
def Uv(f':Expr->Expr->List Stmt->List Stmt->Pos->Bool)(x:Stmt):Bool:=Nat.beq x.ctorIdx 9&&(match x with
 |.For a b c d p=>f' a b c d p
 |_=>false)
@[elab_as_elim] theorem Oe {f':Expr->Expr->List Stmt->List Stmt->Pos->Bool} (h:Uv f' x=true) (q:∀a b c d p,f' a b c d p=true->P (.For a b c d p)):P x:=
 Stmt.For.elim (motive_2:=λx=>Uv f' x=true->P x) x (ao (ag h).1) (λa b c d p h=>q a b c d p h) h
noncomputable def Uw(f':Expr->List Stmt->List Stmt->Pos->Bool)(x:Stmt):Bool:=Nat.beq x.ctorIdx 12&&(match x with
 |.If a b c p=>f' a b c p
 |_=>false)
@[elab_as_elim] theorem Of {f':Expr->List Stmt->List Stmt->Pos->Bool} (h:Uw f' x=true) (q:∀a b c p,f' a b c p=true->P (.If a b c p)):P x:=
 Stmt.If.elim (motive_2:=λx=>Uw f' x=true->P x) x (ao (ag h).1) (λa b c p h=>q a b c p h) h
def Uz(f':Option Expr->Option Expr->Pos->Bool)(x:Stmt):Bool:=Nat.beq x.ctorIdx 16&&(match x with
 |.Raise a b p=>f' a b p
 |_=>false)
@[elab_as_elim] theorem Oh {f':Option Expr->Option Expr->Pos->Bool} (h:Uz f' x=true) (q:∀a b p,f' a b p=true->P (.Raise a b p)):P x:=
 Stmt.Raise.elim (motive_2:=λx=>Uz f' x=true->P x) x (ao (ag h).1) (λa b p h=>q a b p h) h
def Uu(f':Expr->Pos->Bool)(x:Stmt):Bool:=Nat.beq x.ctorIdx 24&&(match x with
 |.Expr a p=>f' a p
 |_=>false)
@[elab_as_elim] theorem Od {f':Expr->Pos->Bool} (h:Uu f' x=true) (q:∀a p,f' a p=true->P (.Expr a p)):P x:=
 Stmt.Expr.elim (motive_2:=λx=>Uu f' x=true->P x) x (ao (ag h).1) (λa p h=>q a p h) h
structure B_ (Γ:Gm) (t:Tb) (k:Nat) (S:Sx) (X:Cx) (E:XK):Prop where
 x:rA Γ t k S X E
 nd:X.N.Nodup
 hf:∀y,Vd S y=true->X.fn y=true\/X.env.scope.names.lookup y=some .local
 po:PassesOwn (aa5 X.prog X.w) X.A X.env X.xe
 kd:X.env.scope.kind=.function
 exc:∀c∈S.Z8,X.mg (S.JV c)=some (.ref (t.ca c))/\zu X.K (t.ca c)
structure Mm (Γ:Gm) (t:Tb) where
 m:Ss
 ck:Sx->Stmt->Bool
 ps:∀{k S X E st},B_ Γ t k S X E->ck S st=true->PS X st (fO (yx t X) E m)
structure Ms (Γ:Gm) (t:Tb) where
 m:Ss
 ck:Sx->List Stmt->Bool
 ps:∀{k S X E st},B_ Γ t k S X E->ck S st=true->nj X st (fO (yx t X) E m)
noncomputable def Q2 (h:Hs) (k:Nat):Dv->Option Dv
 |.p x=>some (.p x)
 |.r i=>match Nat.ble k i with
  |false=>some (.r i)
  |true=>match h[i]? with
   |some (.lst xs)=>some (.p (.lst xs))
   |some (.dct ks us)=>some (.p (.dct ks us))
   |_=>none
noncomputable def ncB(e:Expr):Bool:=match e with
 |.ListComp _ _ _ _=>false
 |.SetComp _ _ _ _=>false
 |.DictComp _ _ _ _ _=>false
 |_=>true
theorem O0{o:Option Expr}(h:ncB e=true):ac2 e o l env=pure false:=by cases e<;>first|rfl|cases h
theorem Jh:ac2 e (some (.Subscript a i p)) l env=pure false:=by cases e<;>rfl
theorem Qr{f:Str}:ac2 e (some (.Attribute a f p)) l env=pure false:=by cases e<;>rfl
def ntB(e:Expr):Bool:=match e with
 |.Tuple _ _ _=>false
 |.ListComp _ _ _ _=>false
 |.SetComp _ _ _ _=>false
 |.DictComp _ _ _ _ _=>false
 |_=>true
theorem O6{j:Nat}(h:ntB e=true):swapsWithSole [.Tuple es j p] e l env=pure false/\swappedStores [.Tuple es j p] e env=pure none:=by cases e<;>first|exact⟨rfl,rfl⟩|cases h
theorem Q3{Z:Tx}{M:List Addr}{H:Hp}{h:Hs}{d x:Dv}{v:V}(r:bj Z M H h)(i:cQ Z M H d v)(e:Q2 h k d=some x):cQ Z (M.take k) H x v:=by
 unfold Q2 at e
 split at e
 ·cases e;exact bL.mv (Mv.cut r k) i
 ·rename_i n
  split at e
  ·rename_i hk
   cases e
   refine i.cut r (aT ?_)
   exact Nat.lt_of_not_le λz=>by rw[j3 z] at hk;cases hk
  ·rename_i hk
   obtain⟨a,h1,rfl⟩:=i
   have na:a∉M.take k/\a∉Z.G:=by
    refine⟨λz=>?_,r.dj a (aS h1)⟩
    obtain⟨j,hj⟩:=uw z
    have hjk:j<k:=by
     have:=(aw.mp hj).1
     rw[bQ] at this;lia
    rw[iB hjk] at hj
    obtain⟨l1,e1⟩:=aw.mp h1
    obtain⟨l2,e2⟩:=aw.mp hj
    have:=(g5 r.nd).mp (e1.trans e2.symm)
    have:=aU hk
    lia
   split at e
   ·rename_i ho
    cases e
    obtain⟨vs,h3,h4⟩:=r.ob n a _ h1 ho
    unfold cQ bL
    exact⟨a,vs,rfl,na,h3,aJ.mv (Mv.cut r k) h4⟩
   ·rename_i ho
    cases e
    obtain⟨kvs,h3,h4,h5⟩:=r.ob n a _ h1 ho
    unfold cQ bL
    exact⟨a,kvs,rfl,na,h3,aJ.mv (Mv.cut r k) h4,aJ.mv (Mv.cut r k) h5⟩
   ·cases e
def TX(S:Sx)(i:Nat)(f:Str->Pos->Expr->Bool):Stmt->Bool:=EN λts e _=>lM (l1 ts) (ur λx p=>AM x i S.N&&(Vd S x&&f x p e))
@[elab_as_elim] theorem CK {k S X E}{i:Nat}{f:Str->Pos->Expr->Bool}{st:Stmt} (o:B_ Γ t k S X E) (h:TX S i f st=true) (q:∀x p e pos,X.N[i]?=some x->L2.Loc X.env.scope x->(X.fn x=true\/X.env.scope.names.lookup x=some .local)->f x p e=true->P (.Assign [.Name x p] e pos)):P st:=by
 refine rT h λts e pos h=>?_
 obtain⟨tx,e1,h⟩:=cy h
 rw[fL e1]
 refine jw h λx p h=>?_
 obtain⟨h1,h⟩:=ag h
 obtain⟨h2,h⟩:=ag h
 exact q x p e pos (by rw[o.x.hN];exact mJ h1) (by rw[o.x.hs];exact AA (ag h2).1) (o.hf x h2) h
def suB(f:Expr->Expr->Expr->Bool):Stmt->Bool:=EN λts e _=>lM (l1 ts) (Bg λa i _=>f a i e)
@[elab_as_elim] theorem Jg {f:Expr->Expr->Expr->Bool}{st:Stmt} (h:suB f st=true) (q:∀a i p e pos,f a i e=true->P (.Assign [.Subscript a i p] e pos)):P st:=by
 refine rT h λts e pos h=>?_
 obtain⟨tx,e1,h⟩:=cy h
 rw[fL e1]
 refine pG h λa i p h=>?_
 exact q a i p e pos h
theorem Kl{o:Expr}(h:yB i=true):∀v,assign (.Subscript o i p) env v=(do
   let ov <-holding [v] (eval o env)
   let iv <-holding [v,ov] (eval i env)
   standAt p
   holding [v,ov,iv] (setItem ov iv v)
   release [v,ov,iv] []):=by
 intro v
 cases i<;>first|rfl|cases h
theorem NR:swapsWithSole [.Subscript a i p] e l env=pure false:=Jh (a:=a) (i:=i) (p:=p) (l:=l) (env:=env)
theorem Ub:swappedStores [.Subscript a i p] e env=pure none:=by cases e<;>rfl
namespace Mm
def ex(A:Em Γ t):Mm Γ t:=⟨sEx A.m,λS=>Uu λe _=>ncB e&&A.ck S e,λo h=>Od h λe p h=>Td (A.pe o.x (ag h).2) (O0 (ag h).1)⟩
def ret(A:Em Γ t):Mm Γ t:=⟨Yh A.m,λS=>Uy λe _=>lM e (A.ck S),λo h=>by
 refine Og h λe p h=>?_
 obtain⟨a,e1,h⟩:=cy h
 rw[e1]
 exact Nf (A.pe o.x h)⟩
def set(i:Nat)(A:Em Γ t):Mm Γ t:=⟨NF i A.m,λS=>TX S i λ_ _ e=>ncB e&&A.ck S e,λo h=>CK o h λx p e pos h1 h2 h3 h4=>Ng (λte he=>Iy o.nd h1 h2 he (O0 (ag h4).1) h3) (A.pe o.x (ag h4).2)⟩
def unp(is:List Nat)(A:Em Γ t):Mm Γ t:=⟨Yi is A.m,λS=>EN λts e _=>ntB e&&(A.ck S e&&lM (l1 ts) (Z3 S (.many is))),λo h=>by
 refine rT h λts e pos h=>?_
 obtain⟨h1,h⟩:=ag h
 obtain⟨h2,h⟩:=ag h
 obtain⟨tx,e1,h⟩:=cy h
 rw[fL e1]
 have g:=Ih o.x.hc o.x.hN o.x.hs o.nd o.hf h
 revert g
 refine rX h λes j p _ g=>?_
 exact Nh (λte he=>Ir he g (O6 (l:=pos.line) h1).1 (O6 (l:=0) h1).2 rfl) (A.pe o.x h2)⟩
def put(A B C:Em Γ t):Mm Γ t:=⟨Yg A.m B.m C.m,λS=>suB λa i e=>yB i&&(A.ck S e&&(B.ck S a&&C.ck S i)),λo h=>by
 refine Jg h λa i p e pos h=>?_
 obtain⟨h1,h⟩:=ag h
 obtain⟨h2,h⟩:=ag h
 obtain⟨h3,h4⟩:=ag h
 exact(Ir (A.pe o.x h2) (Tf (B.pe o.x h3) (C.pe o.x h4) Jd (Kl h1)) (NR (l:=pos.line)) Ub rfl).imp λ_ _ _=>Tu⟩
def dput(A B C:Em Γ t):Mm Γ t:=⟨Pu A.m B.m C.m,λS=>suB λa i e=>A.ck S e&&(B.ck S a&&C.ck S i),λo h=>by
 refine Jg h λa i p e pos h=>?_
 obtain⟨h2,h⟩:=ag h
 obtain⟨h3,h4⟩:=ag h
 exact(Nr o.x.Vb (B.pe o.x h3) (C.pe o.x h4) (A.pe o.x h2) (Jh (l:=pos.line))).imp λ_ _ _=>K8⟩
def Lh(c j:Nat)(A B:Em Γ t):Mm Γ t:=⟨Pw c j A.m B.m,λS=>EN λts e _=>lM (l1 ts) (EO λa f _=>hU c S.OJ&&(AM f j (S.fl c)&&(A.ck S e&&B.ck S a))),λo h=>by
 refine rT h λts e pos h=>?_
 obtain⟨tx,e1,h⟩:=cy h
 rw[fL e1]
 refine rV h λa f p h=>?_
 obtain⟨h1,h⟩:=ag h
 obtain⟨h2,h⟩:=ag h
 obtain⟨h3,h4⟩:=ag h
 obtain⟨C,hf⟩:=o.x.cls c (dM.mp h1)
 exact(Tp (B.pe o.x h4) (A.pe o.x h3) (Qr (l:=pos.line))).imp λ_ _ _=>Li C (by rw[hf];exact mJ h2)⟩
def raise(c:Nat)(A:Em Γ t):Mm Γ t:=⟨IZ c A.m,λS=>Uz λe b _=>b.isNone&&(S.fr&&(hU c S.Z8&&lM e (mn λf es ks _=>JY ks&&(E8 S (S.JV c) f&&lM (l1 es) λe0=>bY e0&&A.ck S e0)))),λo h=>by
 refine Oh h λe b pos h=>?_
 obtain⟨h1,h⟩:=ag h
 obtain⟨h2,h⟩:=ag h
 obtain⟨h3,h⟩:=ag h
 obtain⟨e',e1,g⟩:=cy h
 rw[e1]
 cases b with
 |some _=>cases h1
 |none=>
  refine gM g λf es ks cp h=>?_
  obtain⟨h4,h⟩:=ag h
  obtain⟨h5,h⟩:=ag h
  obtain⟨e0,e2,h⟩:=cy h
  obtain⟨p,e3,hg,hd,hn⟩:=jj o.x h5
  rw[kM h4,fL e2,e3]
  obtain⟨fr,ou⟩:=o.x.fx h2
  obtain⟨hm,hK⟩:=o.exc c (dM.mp h3)
  exact Eu (λte he=>Iw fr ou o.x.hc hg hm hK he (ag h).1 hd) (A.pe o.x (ag h).2)⟩
def iff(T:Tm Γ t)(A B:Ms Γ t):Mm Γ t:=⟨sIf T.m A.m B.m,λS=>Uw λc a b _=>T.ck S c&&(A.ck S a&&B.ck S b),λo h=>by
 refine Of h λc a b p h=>?_
 obtain⟨h1,h⟩:=ag h
 obtain⟨h2,h3⟩:=ag h
 exact Te (T.pt o.x h1) (A.ps o h2) (B.ps o h3)⟩
def fo(tg:Tg)(J:Jm Γ t)(B:Ms Γ t):Mm Γ t:=⟨Ye tg (uK J.m) B.m,λS=>Uv λtx ix b e _=>Au e&&(qq ix&&(Z3 S tg tx&&(J.ck S tx ix&&B.ck S b))),λo h=>by
 refine Oe h λtx ix b e p h=>?_
 obtain⟨h1,h⟩:=ag h
 obtain⟨h2,h⟩:=ag h
 obtain⟨h3,h⟩:=ag h
 obtain⟨h4,h5⟩:=ag h
 rw[kL h1]
 exact(Tq o.po o.x.hc (J.pi o.x h4) (Ih o.x.hc o.x.hN o.x.hs o.nd o.hf h3) (B.ps o h5) (λ_=>BQ h2)).imp λ_ _ _=>Q0⟩
def bk:Mm Γ t:=⟨sBk,λ_ st=>Nat.beq st.ctorIdx 26,λ{k S X E st} o h=>by
 exact Stmt.Break.elim (motive_2:=λst=>PS X st (fO (yx t X) E sBk)) st (ao h) λp=>S9⟩
def ct:Mm Γ t:=⟨sCt,λ_ st=>Nat.beq st.ctorIdx 27,λ{k S X E st} o h=>by
 exact Stmt.Continue.elim (motive_2:=λst=>PS X st (fO (yx t X) E sCt)) st (ao h) λp=>Ta⟩
end Mm
namespace Ms
def nil:Ms Γ t:=⟨sNx,λ_ l=>Au l,λo h=>by rw[kL h];exact Nc⟩
def one(A:Mm Γ t):Ms Γ t:=⟨A.m,λS l=>lM (l1 l) (A.ck S),λo h=>by
 obtain⟨a,e,h⟩:=cy h
 rw[fL e];exact Nd (A.ps o h)⟩
def seq(A:Mm Γ t)(B:Ms Γ t):Ms Γ t:=⟨TQ A.m B.m,λS l=>lM (lc l) λp=>A.ck S p.1&&B.ck S p.2,λo h=>by
 obtain⟨⟨a,r⟩,e,h⟩:=cy h
 rw[vi e];exact Ic (A.ps o (ag h).1) (B.ps o (ag h).2)⟩
def cut(A:Mm Γ t)(B:Ms Γ t):Ms Γ t:=⟨Pr A.m B.m,λS l=>lM (lc l) λp=>A.ck S p.1&&B.ck S p.2,λo h=>by
 obtain⟨⟨a,r⟩,e,h⟩:=cy h
 rw[vi e];exact Nb (A.ps o (ag h).1) (B.ps o (ag h).2)⟩
end Ms
end
end F
namespace F
open PySem PySem.Spec PyProof.Rows L2
variable{k i c:Nat}{C:Ct}{X:Cx}{E:XK}{τ:L2.St}{H H':Hp}{Z:Tx}{M M':List Addr}{h h':Hs}{z:Bool}{Q:Dv->Hs->Prop}{QV:VK}{xc:XP}{qual:Str}{fn:Nat->Ct}{uv qA:List Nat}
section
variable {Γ:Gm}{t:Tb}
theorem TZ{A:Sm}{D:Ends}(h:fO (yx t X) E (NF i A) D τ H):yN (cV (yx t X) E A) (lW i) D τ H:=by
 obtain⟨G,M,σ,h,N,k,q⟩:=h
 exact⟨G,M,σ,h,N.xc,_,⟨k.rel,k.env,λd h' M' H' v e r i q=>k.nx _ h' M' H' _ e r ((k.env.ext k.rel e).set i) q,k.exc⟩,q⟩
def swB(x:Str)(p:Pos):Expr->Bool:=CZ λ_ _ sc cp=>(p.line == cp.line) && !(sc.names.any λ(n,k)=>n == x&&(k == .local||k == .cell))
theorem RP{env:Env}(h:env.scope.kind=.function):(env.blockKind == ScopeKind.function)=true:=by
 unfold Env.blockKind
 rw[h];rfl
def Mm.setC(i n:Nat)(js:List Nat)(tg:Tg)(J:Jm Γ t)(F:Fm Γ t)(A:Em Γ t):Mm Γ t:=⟨NF i (IV n js tg (uK J.m) F.m A.m false),λS=>TX S i λx p e=>AU S.sc x&&(swB x p e&&QI S n js tg J F A e),λ{k S X E st} o h=>by
 refine CK o h λx p e pos h1 h2 h3 h4=>?_
 obtain⟨g1,g⟩:=ag h4
 obtain⟨g2,g3⟩:=ag g
 revert g2
 refine BB o.x g3 λN' tx ix ifs e sc cp y6 OP h3' h4' h5 h6 h7 h8 g2=>?_
 refine(Nq o.nd h1 h2 y6 o.x.hc OP h3' (λfp s₀ H₀=>h5 (Ve o.x _ _ fp s₀ H₀)) (λfp s₀ H₀=>F.pf (Ve o.x _ _ fp s₀ H₀) h6) (λfp s₀ H₀=>A.pe (Ve o.x _ _ fp s₀ H₀) h7) h8 ?_ h3).imp λ_ _ _ q=>BD (λ_ _ z=>by cases z) h4' (TZ q)
 obtain⟨g21,g22⟩:=ag (show((p.line == cp.line) && !(sc.names.any λ(n,k)=>n == x&&(k == .local||k == .cell)))=true from g2)
 show pure (X.env.blockKind == .function&&X.env.kindOf x == some .local&&p.line == cp.line && !(sc.names.any λ(n,k)=>n == x&&(k == .local||k == .cell)))=pure true
 have hk:X.env.kindOf x=some .local:=by
  show X.env.scope.names.lookup x=_
  rw[o.x.hs];exact AV g1
 rw[RP o.kd,hk,g21,g22];rfl⟩
structure Gk (Γ:Gm) (t:Tb) (k:Nat) (S:Sx) (P:ab0) (w:ab1) (K:Frag) (mg:mG7) (base:Heap):Prop where
 bl:∀x∈S.Kq,mg x=none
 oW:S.oW=t.oW
 fn:∀i∈Γ.uv,∃ps,oy P w K mg base (k+1) (t.oW i) ps (lL ⟨K,mg,t⟩ (Γ.fn i))
 gl:∀i∈Γ.U3,∃u v,mg (S.Zs i)=some u/\RelV v u/\∀G M H,bL ((⟨K,mg,t⟩:T0).z G) M H (Γ.gl i) v
 tab:∀i∈Γ.tok,∃ad,mg (S.YJ i)=some (.ref ad)/\qP w K ad (Γ.tab i)
 cls:∀c∈S.OJ,xG K t c/\t.fl c=S.fl c
 zc:∀c∈Γ.qA,∃ps,uA P w K mg base k (S.JV c) (t.ca c) ps (lL ⟨K,mg,t⟩ (Γ.zc c))
 exc:∀c∈S.Z8,mg (S.JV c)=some (.ref (t.ca c))/\zu K (t.ca c)
def ZX(z:Bool)(k:Nat)(Q:Dv->Hs->Prop)(d:Dv)(h:Hs):Prop:=match z with
 |false=>Q d h
 |true=>match Q2 h k d with
  |some x=>gd (bH k (h.take k)) (Q x (h.take k))
  |none=>False
def xcC(z:Bool)(k:Nat)(xc:XP):XP:=λc h=>match z with
 |false=>xc c h
 |true=>gd (bH k (h.take k)) (xc c (h.take k))
def eE(z:Bool)(k:Nat)(Q:Dv->Hs->Prop)(xc:XP):En:=⟨λ_ h=>ZX z k Q (.p .non) h,ZX z k Q,λ_ _=>False,λ_ _=>False,xcC z k xc⟩
noncomputable def j5(n:Nat)(ds:List Dv):Es:=ds.map some++List.replicate (n-ds.length) none
theorem A8{ds:List Dv}{vs:List V}(N:lS7)(i:cC Z M H ds vs):d8 Z M H (j5 N.length ds) (L2.start N vs):=by
 refine⟨by unfold j5 L2.start;rw[ai,ai,ah,ah,bV,bV,i.len],λj d hd=>?_⟩
 unfold j5 at hd
 unfold L2.start
 by_cases hj:j<ds.length
 ·rw[aV (by rw[ah];exact hj),bP] at hd
  rw[aV (by rw[ah,<-i.len];exact hj),bP]
  cases e:ds[j]? with
  |none=>rw[e] at hd;cases hd
  |some d'=>
   rw[e] at hd;cases hd
   obtain⟨v,h1,h2⟩:=i.get e
   exact⟨v,by rw[h1];rfl,h2⟩
 ·rw[bg (by rw[ah];lia),fE] at hd
  split at hd<;>cases hd
theorem Pq{d:Dv}{v:V}(r0:bj Z M H h)(out:∀d h' M' H' v,Ext M H M' H'->bj Z M' H' h'->cQ Z M' H' d v->Q d h'->QV v H')(e:Ext M H M' H')(r:bj Z M' H' h')(i:cQ Z M' H' d v)(q:ZX z h.length Q d h'):QV v H':=by
 unfold ZX at q
 split at q
 ·exact out d h' M' H' v e r i q
 ·split at q
  ·rename_i x hx
   obtain⟨c,q⟩:=bt q
   exact out x _ _ H' v (e.cut (by rw[r0.ln];exact au _)) (r.cut _ c) (Q3 r i hx) q
  ·exact q.elim
theorem YQ{EV:Hp->Prop}(r0:bj Z M H h)(out:∀h' M' H',Ext M H M' H'->bj Z M' H' h'->xc c h'->EV H')(e:Ext M H M' H')(r:bj Z M' H' h')(q:xcC z h.length xc c h'):EV H':=by
 unfold xcC at q
 split at q
 ·exact out h' M' H' e r q
 ·obtain⟨cc,q⟩:=bt q
  exact out _ _ _ (e.cut (by rw[r0.ln];exact au _)) (r.cut _ cc) q
noncomputable def Sx.at(S:Sx)(N:lS7)(sc:Scope)(fr:Bool):Sx:={S with N:=N,sc:=sc,fr:=fr}
theorem zT{G:List Addr}{σ:Es}(r:bj ((yx t X).z G) M H h)(v:d8 ((yx t X).z G) M H σ τ)(out:∀d h' M' H' v,Ext M H M' H'->bj ((yx t X).z G) M' H' h'->cQ ((yx t X).z G) M' H' d v->Q d h'->QV v H')
  (exc:∀c h' M' H',Ext M H M' H'->bj ((yx t X).z G) M' H' h'->xc c h'->E (.ref (t.ca c)) none H'):Qi ((yx t X).z G) E τ H {nx:=λ_ H'=>QV .non H',rt:=QV} M σ h (eE z h.length Q xc):=
 ⟨r,v,λσ' h' M' H' τ' e r' v' q=>Pq r out e r' o5 q,λd h' M' H' v e r' i q=>Pq r out e r' i q,λ_ _ _ _ _ _ _ _ q=>q.elim,λ_ _ _ _ _ _ _ _ q=>q.elim,λc h' M' H' e r' q=>YQ (EV:=λH'=>E (.ref (t.ca c)) none H') r (exc c) e r' q⟩
variable {P:ab0}{w:ab1}{K:Frag}{mg:mG7}{base:Heap}{x:Str}{st:Stmt}{ps N:lS7}{S:Sx}
theorem Gk.okx{fr:Bool}{sc:Scope}(g:Gk Γ t k S X.prog X.w X.K X.mg X.base)(hN:X.N=N)(hs:X.env.scope=sc)(hc:X.calm=true)(hp:g8 (zr X.prog X.w) X E)(hr:fi (k+1) X.A)(fx:fr=true->Qc X/\oE X E):rA Γ t k (S.at N sc fr) X E:=
 ⟨hN,hs,hc,hp,hr,g.bl,g.oW,g.fn,g.gl,g.tab,g.cls,g.zc,fx⟩
theorem Ms.B'(B:Ms Γ t)(z:Bool)(Sr:Src K mg x st ps)(F:eX N ps (aQ st))(g:Gk Γ t k S P w K mg base)(rL:B.ck (S.at N (aQ st) true) (cJ st)=true)
  (hC:∀ds h Q xc,C ds h Q xc->ds.length=ps.length/\B.m (eE z h.length Q xc) (j5 N.length ds) h):oy P w K mg base (k+2) x ps (lL ⟨K,mg,t⟩ C):=by
 refine Sr.okX F (λvs H Q E ⟨G,M,h,ds,Q',xc,r,i,c,_,_⟩=>by rw[<-i.len];exact(hC _ _ _ _ c).1) λf fT A outer s H vs Q E hr ⟨G,M,h,ds,Q',xc,r,i,c,out,exc⟩=>?_
 refine⟨_,B.ps (Γ:=Γ) (t:=t) (k:=k) (S:=S.at N (aQ st) true) (E:=E) ⟨Gk.okx g rfl rfl rfl (oE.pass Ac HG) hr λ_=>⟨Ac,HG⟩,F.nd,λy _=>.inl rfl,PassesOwn.leaving,F.kind,g.exc⟩ rL,?_⟩
 exact⟨G,M,_,h,_,zT r (A8 N i) out exc,(hC _ _ _ _ c).2⟩
theorem Ms.Z_{Cc:Nat}(B:Ms Γ t)(z:Bool)(Sr:xI K (t.ca Cc) qual st ps)(hx:mg x=some (.ref (t.ca Cc)))(F:eX N ps (aQ st))(g:Gk Γ t k S P w K mg base)(rL:B.ck (S.at N (aQ st) false) (cJ st)=true)
  (hC:∀ds h Q xc,C ds h Q xc->ds.length=ps.length/\B.m (eE z h.length Q λ_ _=>False) (j5 N.length ds) h):uA P w K mg base (k+2) x (t.ca Cc) ps (lL ⟨K,mg,t⟩ C):=by
 refine Sr.ok hx F (λvs H Q E ⟨G,M,h,ds,Q',xc,r,i,c,_,_⟩=>by rw[<-i.len];exact(hC _ _ _ _ c).1) λf fT A outer s H vs Q E hr ⟨G,M,h,ds,Q',xc,r,i,c,out,exc⟩=>?_
 refine⟨_,B.ps (Γ:=Γ) (t:=t) (k:=k) (S:=S.at N (aQ st) false) (E:=λ_ _ _=>False) ⟨Gk.okx (X:=(oN zp P w K mg base N qual (aQ st) f fT A outer s H E).O5) g rfl rfl rfl (λpins σ H s e s' I ⟨_,_,_,_,_,q⟩=>q.elim) hr (λh=>by cases h),F.nd,λy _=>.inl rfl,rp,F.kind,g.exc⟩ rL,?_⟩
 exact⟨G,M,_,h,_,zT r (A8 N i) out (λ_ _ _ _ _ _ q=>q.elim),(hC _ _ _ _ c).2⟩
end
structure Wd where
 P:ab0
 w:ab1
 K:Frag
 mg:mG7
 base:Heap
structure Lw where
 S:Sx
 ca:Nat->Addr
 gl:Nat->Pv
 U3:List Nat
 tab:Nat->Str->Option (lS7)
 tok:List Nat
 zc:Nat->Ct
noncomputable abbrev Lw.t (L:Lw):Tb:=⟨L.S.oW,L.ca,L.S.fl⟩
noncomputable abbrev Lw.g (L:Lw) (fn:Nat->Ct) (uv qA:List Nat):Gm:=⟨fn,uv,L.gl,L.U3,L.zc,qA,L.tab,L.tok⟩
abbrev Lw.y (L:Lw) (W:Wd):T0:=⟨W.K,W.mg,L.t⟩
structure Lk (L:Lw) (W:Wd):Prop where
 bl:∀x∈L.S.Kq,W.mg x=none
 gl:∀i∈L.U3,∃u v,W.mg (L.S.Zs i)=some u/\RelV v u/\∀G M H,bL ((L.y W).z G) M H (L.gl i) v
 tab:∀i∈L.tok,∃ad,W.mg (L.S.YJ i)=some (.ref ad)/\qP W.w W.K ad (L.tab i)
 cls:∀c∈L.S.OJ,xG W.K L.t c
 exc:∀c∈L.S.Z8,W.mg (L.S.JV c)=some (.ref (L.ca c))/\zu W.K (L.ca c)
def Dt(L:Lw)(W:Wd)(i k:Nat)(C:Ct):Prop:=∃ps,oy W.P W.w W.K W.mg W.base k (L.S.oW i) ps (lL (L.y W) C)
def Di(L:Lw)(W:Wd)(c k:Nat):Prop:=∃ps,uA W.P W.w W.K W.mg W.base k (L.S.JV c) (L.ca c) ps (lL (L.y W) (L.zc c))
def Bl(L:Lw)(W:Wd)(fn:Nat->Ct)(k:Nat):List Nat->Prop
 | []=>True
 |i::r=>Dt L W i k (fn i)/\Bl L W fn k r
def JS(L:Lw)(W:Wd)(k:Nat):List Nat->Prop
 | []=>True
 |i::r=>Di L W i k/\JS L W k r
section
variable {L:Lw}{W:Wd}{j:Nat}{C':Ct}
theorem Bl.at{fn:Nat->Ct}:∀{l:List Nat},Bl L W fn k l->∀i∈l,Dt L W i k (fn i)
 | [],_,i,h=>by cases h
 |j::r,f,i,h=>(aN.mp h).elim (λz=>by rw[z];exact f.1) λz=>Bl.at f.2 i z
theorem JS.at:∀{l:List Nat},JS L W k l->∀i∈l,Di L W i k
 | [],_,i,h=>by cases h
 |j::r,f,i,h=>(aN.mp h).elim (λz=>by rw[z];exact f.1) λz=>JS.at f.2 i z
theorem Dt.up(D:Dt L W i j C)(h:Nat.ble j k=true):Dt L W i k C:=let ⟨ps,d⟩:=D;⟨ps,d.mono (aU h)⟩
theorem Dt.le(D:Dt L W i j C)(h:j<=k):Dt L W i k C:=let ⟨ps,d⟩:=D;⟨ps,d.mono h⟩
theorem Di.le(D:Di L W i j)(h:j<=k):Di L W i k:=let ⟨ps,d⟩:=D;⟨ps,d.mono h⟩
theorem Dt.imp(D:Dt L W i k C)(h:∀ds h Q xc,C' ds h Q xc->C ds h Q xc):Dt L W i k C':=let ⟨ps,d⟩:=D;⟨ps,d.imp λvs H Q E ⟨G,M,h',ds,Q',xc,r,i,c,o,o'⟩=>⟨G,M,h',ds,Q',xc,r,i,h _ _ _ _ c,o,o'⟩⟩
theorem Lk.gk(B:Lk L W)(hf:Bl L W fn (k+1) uv)(hi:JS L W k qA):Gk (L.g fn uv qA) L.t k L.S W.P W.w W.K W.mg W.base:=
 ⟨B.bl,rfl,hf.at,B.gl,B.tab,λc hc=>⟨B.cls c hc,rfl⟩,hi.at,B.exc⟩
theorem Lk.d{st:Stmt}(N ps:lS7)(z:Bool)(B:Lk L W)(b:Ms (L.g fn uv qA) L.t)(Sr:Src W.K W.mg (L.S.oW i) st ps)(F:eX N ps (aQ st))(rL:b.ck (L.S.at N (aQ st) true) (cJ st)=true)(hf:Bl L W fn (k+1) uv)(hi:JS L W k qA)
  (hC:∀ds h Q xc,C ds h Q xc->ds.length=ps.length/\b.m (eE z h.length Q xc) (j5 N.length ds) h):Dt L W i (k+2) C:=⟨ps,b.B' z Sr F (B.gk hf hi) rL hC⟩
theorem Lk.mk1{st:Stmt}(N ps:lS7)(z:Bool)(B:Lk L W)(b:Ms (L.g fn uv qA) L.t)(Sr:xI W.K (L.ca c) qual st ps)(hx:W.mg (L.S.JV c)=some (.ref (L.ca c)))(F:eX N ps (aQ st))(rL:b.ck (L.S.at N (aQ st) false) (cJ st)=true)(hf:Bl L W fn (k+1) uv)(hi:JS L W k qA)
  (hC:∀ds h Q xc,L.zc c ds h Q xc->ds.length=ps.length/\b.m (eE z h.length Q λ_ _=>False) (j5 N.length ds) h):Di L W c (k+2):=⟨ps,b.Z_ z Sr hx F (B.gk hf hi) rL hC⟩
end
end F
namespace F
open PySem L2
variable{Q:List Pv->Hs->Prop}{h h1:Hs}{a b c d f:Bool}{k i n:Nat}{α:Type}{xs:List Pv}{A:Es->Hs->KP->Prop}{g:Pv->Bool}{ps:lS7}{L:Lw}{W:Wd}{C:Ct}
theorem BE{R:Hs->Prop}(hb:bH k (h.take k)=true)(q:R (h.take k)):KR k R h:=aq hb q
theorem mj(h:List α):h.take h.length=h:=qI (au _)
theorem p9{xs:List α}{x:α}(h:xs[i]?=some x):xs=xs.take i++x::xs.drop (i+1):=by
 obtain⟨hl,e⟩:=aw.mp h
 rw[<-e,Vk,gn]
theorem Dj{xs:List α}{x:α}(h:xs[i]?=some x):xs.take (i+1)=xs.take i ++ [x]:=by
 obtain⟨hl,e⟩:=aw.mp h
 rw[<-e,List.take_append_getElem]
theorem we{e:Pv->Option Es}{T:Es->Hs->KP->Prop}(g:Pv->Bool)(f:Pv->Pv)(hb:bH h1.length h1=true)
  (step:∀y∈xs,match e y with
   |some σ2=>(∀R:KP,R [.p (.bl (g y))] h1->T σ2 h1 R)/\(g y=true->∀R:KP,R [.p (f y)] h1->A σ2 h1 R)
   |none=>False) (q:Q ((xs.filter g).map f) h1):uE h1 xs e T A Q:=by
 unfold uE
 refine⟨λi acc h'=>h'=h1/\acc=((xs.take i).filter g).map f,⟨rfl,by rw[jB];rfl⟩,?_,?_⟩
 ·rintro i y acc h' hy ⟨rfl,rfl⟩
  have z:=step y (aS hy)
  cases he:e y with
  |none=>rw[he] at z;exact z
  |some σ2=>
   rw[he] at z
   refine z.1 _ ?_
   dsimp only
   refine dC (λhg=>z.2 hg _ ?_) λhg=>?_
   ·exact BE (by rw[mj];exact hb) ⟨mj _,by rw[Dj hy,List.filter_append,bR,fD hg];rfl⟩
   ·exact BE (by rw[mj];exact hb) ⟨mj _,by rw[Dj hy,List.filter_append,fC (by rw[hg];exact aH)];simp⟩
 ·rintro acc h' ⟨rfl,rfl⟩
  rw[mj];exact q
theorem gF{e:Pv->Option Es}(f:Pv->Pv)(hb:bH h1.length h1=true)
  (step:∀y∈xs,match e y with
   |some σ2=>∀R:KP,R [.p (f y)] h1->A σ2 h1 R
   |none=>False) (q:Q (xs.map f) h1):uE h1 xs e (λ_ h R=>R [.p (.bl true)] h) A Q:=by
 refine we (λ_=>true) f hb (λy hy=>?_) (by rw[List.filter_eq_self.mpr λ_ _=>rfl];exact q)
 have z:=step y hy
 cases he:e y with
 |none=>rw[he] at z;exact z
 |some σ2=>rw[he] at z;exact⟨λR q=>q,λ_=>z⟩
theorem fk{a:Pv->Es->Option Es}{b:Ss}{N:En}{σ:Es}(J:List Pv->List Pv->Es->Hs->Prop)(h0:J [] xs σ h)
  (step:∀pre x post σ' h',xs=pre++x::post->J pre (x::post) σ' h'->match a x σ' with
   |some σ2=>b {N with nx:=zL k (J (pre ++ [x]) post),ct:=zL k (J (pre ++ [x]) post),bk:=zL k N.nx} σ2 h'
   |none=>False) (fin:∀σ' h',J xs [] σ' h'->N.nx σ' h'):Lf k xs a b N σ h:=by
 unfold Lf
 refine⟨λi σ' h'=>J (xs.take i) (xs.drop i) σ' h',(by dsimp only;rw[jB,J7];exact h0),λi x σ' h' hx j=>?_,λσ' h' j=>fin σ' h' (by dsimp only at j;rw[fG,List.drop_length] at j;exact j)⟩
 obtain⟨hl,e⟩:=aw.mp hx
 have ed:xs.drop i=x::xs.drop (i+1):=by rw[<-e,Vk]
 have j':J (xs.take i) (x::xs.drop (i+1)) σ' h':=ed▸j
 have z:=step _ x _ σ' h' (p9 hx) j'
 rw[<-Dj hx] at z
 exact z
section
variable {Q:Dv->Hs->Prop}{X:Prop}
theorem fj(q:Q (.p (.bl (a&&b))) h)(k:a=true->Q (.p (.bl b)) h->X):br a X (Q (.p (.bl false)) h):=by
 cases a with
 |true=>exact k rfl q
 |false=>exact q
theorem OB(q:Q (.p (.bl (a||b))) h)(k:a=false->Q (.p (.bl b)) h->X):br a (Q (.p (.bl true)) h) X:=by
 cases a with
 |true=>exact q
 |false=>exact k rfl q
theorem gD(q:Q (.p (.bl (a&&b))) h)(k:a=true->Q (.p (.bl b)) h->X):br (!a) (Q (.p (.bl false)) h) X:=by
 cases a with
 |true=>exact k rfl q
 |false=>exact q
theorem oJ{x y:Bool}{Y:Prop}(q:Q (.p (.bl (match a with|true=>x|false=>y))) h)(k:a=true->Q (.p (.bl x)) h->X)(k':a=false->Q (.p (.bl y)) h->Y):br a X Y:=by
 cases a with
 |true=>exact k rfl q
 |false=>exact k' rfl q
theorem Br(q:Q (.p (.bl (!(a&&b)&&c))) h)(k:Q (.p (.bl c)) h->X):br a (br b (Q (.p (.bl false)) h) X) X:=by
 cases a with
 |true=>cases b with
  |true=>exact q
  |false=>exact k q
 |false=>exact k q
theorem Bq{g:Pv->Bool}:∀{xs:List Pv},uW (xs.map λy=>.bl (g y))=some (xs.map g)
 | []=>rfl
 |x::r=>by rw[aP,aP];unfold uW;rw[Bq (xs:=r)]
theorem se(q:Q (.p (.bl (xs.all g))) h):Hn [.p (.lst (xs.map λy=>.bl (g y)))] h Q:=by
 unfold Hn
 refine bK (x:=xs.map g) Bq ?_
 show Q (.p (.bl ((xs.map g).all id))) h
 rw[gZ];exact q
theorem vm{g:Pv->Bool}:∀{xs:List Pv},iZ (.lst (xs.filter g)) (.lst [])=xs.all λy=>!g y
 | []=>rfl
 |x::r=>by
  cases hg:g x with
  |true=>rw[fD hg,aB,hg];rfl
  |false=>rw[fC (by rw[hg];exact aH),aB,hg,vm];rfl
theorem Mo(q:Q (.p (.bl (xs.all λy=>!g y))) h):oEq (.p (.lst (xs.filter g))) (.p (.lst [])) h Q:=by
 show Q (.p (.bl (iZ (.lst (xs.filter g)) (.lst [])))) h
 rw[vm];exact q
end
noncomputable def isStr:Pv->Bool
 |.str _=>true
 |_=>false
def isInt:Pv->Bool
 |.int _=>true
 |_=>false
def yn:Pv->Bool
 |.lst _=>true
 |_=>false
def jl:Pv->Bool
 |.tup _=>true
 |_=>false
noncomputable def jG:Pv->Str
 |.str z=>z
 |_=>""
def ym:Pv->Int
 |.int i=>i
 |_=>0
def mZ:Pv->List Pv
 |.lst xs=>xs
 |_=> []
def nh:Pv->List Pv
 |.tup xs=>xs
 |_=> []
def oV:Pv->Bool
 |.lst xs=>eY xs
 |_=>false
def DW(i:Int):Pv->Bool
 |.int j=>lj j i
 |_=>false
section
variable {P:Pv->Prop}{a:Pv}
@[elab_as_elim] theorem jv (h:isStr a=true) (k:∀z,P (.str z)):P a:=by cases a<;>first|exact k _|cases h
@[elab_as_elim] theorem As (h:isInt a=true) (k:∀z,P (.int z)):P a:=by cases a<;>first|exact k _|cases h
@[elab_as_elim] theorem Xo (h:yn a=true) (k:∀z,P (.lst z)):P a:=by cases a<;>first|exact k _|cases h
@[elab_as_elim] theorem N5 (h:jl a=true) (k:∀z,P (.tup z)):P a:=by cases a<;>first|exact k _|cases h
@[elab_as_elim] theorem F7 (h:oV a=true) (k:∀z,eY z=true->P (.lst z)):P a:=by cases a<;>first|exact k _ h|cases h
@[elab_as_elim] theorem tK {i:Int} (h:DW i a=true) (k:P (.int i)):P a:=by cases a<;>first|(rw[cK.mp h];exact k)|cases h
theorem kY:∀{xs ys:List Pv}{z:Pv},z∈fh xs ys->∃x y,x∈xs/\y∈ys/\z=.tup [x,y]
 | [],_,_,h=>by cases h
 |_::_,[],_,h=>by cases h
 |x::xs,y::ys,z,h=>by
  rcases aN.mp h with h|h
  ·exact⟨x,y,aL,aL,h⟩
  ·obtain⟨a,b,h1,h2,h3⟩:=kY h
   exact⟨a,b,ax _ h1,ax _ h2,h3⟩
end
theorem nU{p:Prop}(h:false=true):p:=Bool.noConfusion h
theorem qQ(z:(a&&(b&&c))=true):a=true/\b=true/\c=true:=⟨(ag z).1,ag (ag z).2⟩
theorem jd(z:(a&&(b&&(c&&d)))=true):a=true/\b=true/\c=true/\d=true:=⟨(ag z).1,qQ (ag z).2⟩
theorem Kj{e:Bool}(z:(a&&(b&&(c&&(d&&e))))=true):a=true/\b=true/\c=true/\d=true/\e=true:=⟨(ag z).1,jd (ag z).2⟩
theorem G_{e:Bool}(z:(a&&(b&&(c&&(d&&(e&&f)))))=true):a=true/\b=true/\c=true/\d=true/\e=true/\f=true:=⟨(ag z).1,Kj (ag z).2⟩
theorem H_{e g:Bool}(z:(a&&(b&&(c&&(d&&(e&&(f&&g))))))=true):a=true/\b=true/\c=true/\d=true/\e=true/\f=true/\g=true:=⟨(ag z).1,G_ (ag z).2⟩
theorem I_{e g h:Bool}(z:(a&&(b&&(c&&(d&&(e&&(f&&(g&&h)))))))=true):a=true/\b=true/\c=true/\d=true/\e=true/\f=true/\g=true/\h=true:=⟨(ag z).1,H_ (ag z).2⟩
abbrev rC (ds:List Dv) (k:Nat->List Dv->Prop):Prop:=match ds with
 |.r i::r=>k i r
 |_=>False
abbrev pC (ds:List Dv) (k:Pv->List Dv->Prop):Prop:=match ds with
 |.p x::r=>k x r
 |_=>False
abbrev iC (ds:List Dv) (k:Int->List Dv->Prop):Prop:=match ds with
 |.p (.int x)::r=>k x r
 |_=>False
abbrev lC (ds:List Dv) (k:List Pv->List Dv->Prop):Prop:=match ds with
 |.p (.lst x)::r=>k x r
 |_=>False
abbrev aC (h:Hs) (k:List Pv->Hs->Prop):Prop:=match h with
 |.lst x::r=>k x r
 |_=>False
abbrev mC (h:Hs) (k:Int->Hs->Prop):Prop:=match h with
 |.lst [.int x]::r=>k x r
 |_=>False
abbrev nC (l:List α) (A:Prop):Prop:=match l with
 | []=>A
 |_=>False
section
variable {ds:List Dv}{G:List Dv->Prop}{F:Hs->Prop}
@[elab_as_elim] theorem nX {k:Nat->List Dv->Prop} (c:rC ds k) (g:∀i r,k i r->G (.r i::r)):G ds:=by
 rcases ds with _|⟨_|_,_⟩<;>first|exact g _ _ c|exact c.elim
@[elab_as_elim] theorem f7 {k:Pv->List Dv->Prop} (c:pC ds k) (g:∀i r,k i r->G (.p i::r)):G ds:=by
 rcases ds with _|⟨_|_,_⟩<;>first|exact g _ _ c|exact c.elim
@[elab_as_elim] theorem tJ {k:Int->List Dv->Prop} (c:iC ds k) (g:∀i r,k i r->G (.p (.int i)::r)):G ds:=by
 rcases ds with _|⟨x|_,_⟩<;>first|exact c.elim|(cases x<;>first|exact g _ _ c|exact c.elim)
@[elab_as_elim] theorem Ma {k:List Pv->List Dv->Prop} (c:lC ds k) (g:∀i r,k i r->G (.p (.lst i)::r)):G ds:=by
 rcases ds with _|⟨x|_,_⟩<;>first|exact c.elim|(cases x<;>first|exact g _ _ c|exact c.elim)
@[elab_as_elim] theorem D_ {k:List Pv->Hs->Prop} (c:aC h k) (g:∀i r,k i r->F (.lst i::r)):F h:=by
 rcases h with _|⟨x,_⟩
 ·exact c.elim
 ·cases x<;>first|exact g _ _ c|exact c.elim
@[elab_as_elim] theorem tP {k:Int->Hs->Prop} (c:mC h k) (g:∀i r,k i r->F (.lst [.int i]::r)):F h:=by
 rcases h with _|⟨x,_⟩
 ·exact c.elim
 ·cases x with
  |lst xs=>rcases xs with _|⟨y,_|_⟩<;>first|exact c.elim|(cases y<;>first|exact g _ _ c|exact c.elim)
  |_=>exact c.elim
@[elab_as_elim] theorem eI {l:List α}{A:Prop}{G:List α->Prop} (c:nC l A) (g:A->G []):G l:=by
 cases l<;>first|exact g c|exact c.elim
end
def QD(p:Pv->Bool)(R:Pv->(Pv->Prop)->(Nat->Prop)->Prop):Ct:=λds h Q xc=>pC ds λa r=>nC r (nC h (gd (p a) (R a (λy=>Q (.p y) []) λc=>xc c [])))
abbrev Zj (p:Pv->Bool) (R:Pv->(Pv->Prop)->Prop):Ct:=QD p λa K _=>R a K
abbrev UZ (p:Pv->Bool) (f:Pv->Pv):Ct:=QD p λa K _=>K (f a)
theorem tF{b:Ss}{p:Pv->Bool}{R:Pv->(Pv->Prop)->(Nat->Prop)->Prop}(H:∀a (Q:Dv->Hs->Prop) (xc:XP),p a=true->R a (λy=>Q (.p y) []) (λc=>xc c [])->b (eE true 0 Q xc) (j5 n [.p a]) []):∀ds h Q xc,QD p R ds h Q xc->ds.length=1/\b (eE true h.length Q xc) (j5 n ds) h:=by
 intro ds h Q xc c
 unfold QD at c
 exact f7 c λx0 _ c=>eI c λc=>eI c λc=>⟨rfl,H x0 Q xc (bt c).1 (bt c).2⟩
def U0(p:Pv->Pv->Bool)(R:Pv->Pv->(Pv->Prop)->(Nat->Prop)->Prop):Ct:=λds h Q xc=>pC ds λa r=>pC r λb' r=>nC r (nC h (gd (p a b') (R a b' (λy=>Q (.p y) []) λc=>xc c [])))
abbrev cR2 (p:Pv->Pv->Bool) (R:Pv->Pv->(Pv->Prop)->Prop):Ct:=U0 p λa b' K _=>R a b' K
abbrev cA2 (p:Pv->Pv->Bool) (f:Pv->Pv->Pv):Ct:=U0 p λa b' K _=>K (f a b')
theorem Wu{b:Ss}{p:Pv->Pv->Bool}{R:Pv->Pv->(Pv->Prop)->(Nat->Prop)->Prop}(H:∀a b' (Q:Dv->Hs->Prop) (xc:XP),p a b'=true->R a b' (λy=>Q (.p y) []) (λc=>xc c [])->b (eE true 0 Q xc) (j5 n [.p a,.p b']) []):∀ds h Q xc,U0 p R ds h Q xc->ds.length=2/\b (eE true h.length Q xc) (j5 n ds) h:=by
 intro ds h Q xc c
 unfold U0 at c
 exact f7 c λx0 _ c=>f7 c λx1 _ c=>eI c λc=>eI c λc=>⟨rfl,H x0 x1 Q xc (bt c).1 (bt c).2⟩
def O_(p:Pv->Pv->Pv->Bool)(R:Pv->Pv->Pv->(Pv->Prop)->(Nat->Prop)->Prop):Ct:=λds h Q xc=>pC ds λa r=>pC r λb' r=>pC r λc r=>nC r (nC h (gd (p a b' c) (R a b' c (λy=>Q (.p y) []) λc=>xc c [])))
abbrev VP (p:Pv->Pv->Pv->Bool) (f:Pv->Pv->Pv->Pv):Ct:=O_ p λa b' c K _=>K (f a b' c)
theorem U4{b:Ss}{p:Pv->Pv->Pv->Bool}{R:Pv->Pv->Pv->(Pv->Prop)->(Nat->Prop)->Prop}(H:∀a b' c (Q:Dv->Hs->Prop) (xc:XP),p a b' c=true->R a b' c (λy=>Q (.p y) []) (λc=>xc c [])->b (eE true 0 Q xc) (j5 n [.p a,.p b',.p c]) []):∀ds h Q xc,O_ p R ds h Q xc->ds.length=3/\b (eE true h.length Q xc) (j5 n ds) h:=by
 intro ds h Q xc c
 unfold O_ at c
 exact f7 c λx0 _ c=>f7 c λx1 _ c=>f7 c λx2 _ c=>eI c λc=>eI c λc=>⟨rfl,H x0 x1 x2 Q xc (bt c).1 (bt c).2⟩
def Zk(p:Pv->Pv->Pv->Pv->Bool)(R:Pv->Pv->Pv->Pv->(Pv->Prop)->(Nat->Prop)->Prop):Ct:=λds h Q xc=>pC ds λa r=>pC r λb' r=>pC r λc r=>pC r λd r=>nC r (nC h (gd (p a b' c d) (R a b' c d (λy=>Q (.p y) []) λc=>xc c [])))
abbrev Zh (p:Pv->Pv->Pv->Pv->Bool) (f:Pv->Pv->Pv->Pv->Pv):Ct:=Zk p λa b' c d K _=>K (f a b' c d)
theorem Wv{b:Ss}{p:Pv->Pv->Pv->Pv->Bool}{R:Pv->Pv->Pv->Pv->(Pv->Prop)->(Nat->Prop)->Prop}(H:∀a b' c d (Q:Dv->Hs->Prop) (xc:XP),p a b' c d=true->R a b' c d (λy=>Q (.p y) []) (λc=>xc c [])->b (eE true 0 Q xc) (j5 n [.p a,.p b',.p c,.p d]) []):∀ds h Q xc,Zk p R ds h Q xc->ds.length=4/\b (eE true h.length Q xc) (j5 n ds) h:=by
 intro ds h Q xc c
 unfold Zk at c
 exact f7 c λx0 _ c=>f7 c λx1 _ c=>f7 c λx2 _ c=>f7 c λx3 _ c=>eI c λc=>eI c λc=>⟨rfl,H x0 x1 x2 x3 Q xc (bt c).1 (bt c).2⟩
def P_(p:Pv->Pv->Pv->Pv->Pv->Bool)(R:Pv->Pv->Pv->Pv->Pv->(Pv->Prop)->(Nat->Prop)->Prop):Ct:=λds h Q xc=>pC ds λa r=>pC r λb' r=>pC r λc r=>pC r λd r=>pC r λe r=>nC r (nC h (gd (p a b' c d e) (R a b' c d e (λy=>Q (.p y) []) λc=>xc c [])))
abbrev cA5 (p:Pv->Pv->Pv->Pv->Pv->Bool) (f:Pv->Pv->Pv->Pv->Pv->Pv):Ct:=P_ p λa b' c d e K _=>K (f a b' c d e)
theorem hX5{b:Ss}{p:Pv->Pv->Pv->Pv->Pv->Bool}{R:Pv->Pv->Pv->Pv->Pv->(Pv->Prop)->(Nat->Prop)->Prop}(H:∀a b' c d e (Q:Dv->Hs->Prop) (xc:XP),p a b' c d e=true->R a b' c d e (λy=>Q (.p y) []) (λc=>xc c [])->b (eE true 0 Q xc) (j5 n [.p a,.p b',.p c,.p d,.p e]) []):∀ds h Q xc,P_ p R ds h Q xc->ds.length=5/\b (eE true h.length Q xc) (j5 n ds) h:=by
 intro ds h Q xc c
 unfold P_ at c
 exact f7 c λx0 _ c=>f7 c λx1 _ c=>f7 c λx2 _ c=>f7 c λx3 _ c=>f7 c λx4 _ c=>eI c λc=>eI c λc=>⟨rfl,H x0 x1 x2 x3 x4 Q xc (bt c).1 (bt c).2⟩
def E3:Ct:=λ_ _ _ _=>False
theorem Dt.no{L:Lw}{W:Wd}{i k:Nat}{st:Stmt}{ps:lS7}(Sr:Src W.K W.mg (L.S.oW i) st ps):Dt L W i k E3:=by
 obtain⟨f,fd,F0,hm,hb⟩:=Sr.ex
 have no:∀vs H Q E,¬lL (L.y W) E3 vs H Q E:=λvs H Q E ⟨_,_,_,_,_,_,_,_,c,_,_⟩=>c
 exact⟨ps,f,fd,⟨λvs H Q E q=>absurd q (no vs H Q E),λA outer s H args us vs Q E _ _ _ _ q=>absurd q (no vs H Q E)⟩,hm,F0.kp,hb⟩
def JX:List (Nat×Ct)->Nat->Ct
 | [],_=>E3
 |(j,c)::r,i=>match Nat.beq i j with
  |true=>c
  |false=>JX r i
def All(L:Lw)(W:Wd)(k:Nat):List (Nat×Ct)->Prop
 | []=>True
 |(i,c)::r=>Dt L W i k c/\All L W k r
theorem All.at{L:Lw}{W:Wd}{k:Nat}:∀{l:List (Nat×Ct)},All L W k l->∀i∈l.map (·.1),Dt L W i k (JX l i)
 | [],_,i,h=>by cases h
 |(j,c)::r,f,i,h=>by
  cases e:Nat.beq i j with
  |true=>
   have e1:JX ((j,c)::r) i=c:=by
    show(match Nat.beq i j with|true=>c|false=>JX r i)=c
    rw[e]
   rw[e1,ao e]
   exact f.1
  |false=>
   have e1:JX ((j,c)::r) i=JX r i:=by
    show(match Nat.beq i j with|true=>c|false=>JX r i)=_
    rw[e]
   rw[e1]
   refine All.at f.2 i ((aN.mp h).resolve_left λz=>?_)
   rw[show i=j from z,lP] at e;cases e
theorem Bl.of{L:Lw}{W:Wd}{k:Nat}{fn:Nat->Ct}:∀{l:List Nat},(∀i∈l,Dt L W i k (fn i))->Bl L W fn k l
 | [],_=>trivial
 |_::_,h=>⟨h _ aL,Bl.of λi hi=>h i (ax _ hi)⟩
abbrev Lw.G (L:Lw) (l:List (Nat×Ct)) (qA:List Nat):Gm:=L.g (JX l) (l.map (·.1)) qA
def uh:lS7->lS7->Bool
 | [],[]=>true
 |x::r,y::q=>aR x y&&uh r q
 |_,_=>false
theorem qu:∀{l m:lS7},uh l m=true->l=m
 | [],[],_=>rfl
 | [],_::_,h=>by cases h
 |_::_,[],h=>by cases h
 |x::r,y::q,h=>by rw[aZ.mp (ag h).1,qu (ag h).2]
def U2(N ps:lS7)(sc:Scope):Bool:=(sc.kind == .function)&&(!sc.isCoroutine&&(!sc.isGenerator&&(zd N&&(uh (N.take ps.length) ps&&(ps.all (Mg sc)&&sc.names.all λy=>y.2 != .free)))))
theorem tD{N:lS7}{sc:Scope}(h:U2 N ps sc=true):eX N ps sc:=by
 obtain⟨h1,h⟩:=ag h
 obtain⟨h2,h⟩:=ag h
 obtain⟨h3,h⟩:=ag h
 obtain⟨h4,h⟩:=ag h
 obtain⟨h5,h⟩:=ag h
 obtain⟨h6,h7⟩:=ag h
 exact⟨uQ h1,gI h2,gI h3,qo h4,qu h5,λx hx=>AA (kB h6 x hx),λy hy z=>by
  have:=kB h7 y hy
  rw[z] at this;cases this⟩
noncomputable def lcN(sc:Scope):lS7:=(sc.names.filter λp=>match p.2 with
 |.local=>true
 |.cell=>true
 |_=>false).map (·.1)
theorem Lk.eN{st:Stmt}(N:lS7)(z:Bool)(l:List (Nat×Ct))(qA:List Nat)(B:Lk L W)(b:Ms (L.G l qA) L.t)(Sr:Src W.K W.mg (L.S.oW i) st ps)(rL:(U2 N ps (aQ st)&&b.ck (L.S.at N (aQ st) true) (cJ st))=true)(hf:All L W (k+1) l)(hi:JS L W k qA)
  (hC:∀ds h Q xc,C ds h Q xc->ds.length=ps.length/\b.m (eE z h.length Q xc) (j5 N.length ds) h):Dt L W i (k+2) C:=B.d N ps z b Sr (tD (ag rL).1) (ag rL).2 (Bl.of hf.at) hi hC
theorem Lk.e{st:Stmt}(n:Nat)(z:Bool)(l:List (Nat×Ct))(qA:List Nat)(B:Lk L W)(b:Ms (L.G l qA) L.t)(Sr:Src W.K W.mg (L.S.oW i) st ps)(rL:(Nat.beq (lcN (aQ st)).length n&&(U2 (lcN (aQ st)) ps (aQ st)&&b.ck (L.S.at (lcN (aQ st)) (aQ st) true) (cJ st)))=true)(hf:All L W (k+1) l)(hi:JS L W k qA)
  (hC:∀ds h Q xc,C ds h Q xc->ds.length=ps.length/\b.m (eE z h.length Q xc) (j5 n ds) h):Dt L W i (k+2) C:=by
 have h:=ao (ag rL).1
 subst h
 exact B.eN _ z l qA b Sr (ag rL).2 hf hi hC
theorem Lk.zc{c:Nat}{st:Stmt}{qual:Str}(N ps:lS7)(z:Bool)(l:List (Nat×Ct))(qA:List Nat)(B:Lk L W)(b:Ms (L.G l qA) L.t)(Sr:xI W.K (L.ca c) qual st ps)(hx:W.mg (L.S.JV c)=some (.ref (L.ca c)))(rL:(U2 N ps (aQ st)&&b.ck (L.S.at N (aQ st) false) (cJ st))=true)(hf:All L W (k+1) l)(hi:JS L W k qA)
  (hC:∀ds h Q xc,L.zc c ds h Q xc->ds.length=ps.length/\b.m (eE z h.length Q λ_ _=>False) (j5 N.length ds) h):Di L W c (k+2):=B.mk1 N ps z b Sr hx (tD (ag rL).1) (ag rL).2 (Bl.of hf.at) hi hC
end F
namespace W2
open PySem L2 F
variable{W:Wd}{α:Type}{P:Pv->Prop}{x a p:Pv}{xs:List Pv}{n:Nat}{l:List (Nat×(Pv->Bool))}{c b:Bool}{s:Sc}{f g:Pv->Bool}{X:Nat->Prop}{Y Z K:Prop}{o:Option Nat}
def fw(i:Nat):Stmt:=PySem.Challenge.pw_retrace_k02_programs_refused.main.body.getD i (.Pass ⟨0,0,0,0⟩)
noncomputable def S':List String:= ["has_word","value_kinds","row_kinds","parts_within","rows_of","add_rows","is_name","is_whole","is_number","is_value","is_value_within","is_part","program_of","check_variables","check_functions","check_rows","is_tuple_of","is_pair","is_box","is_list","is_function","names_of","own_names","are_unlike","are_rows","is_row","is_row_part","_law_cell_at","_law_state","_law_next","_law_names","_law_value","_law_plain","_law_rows","_law_program","_law_is_name","_law_is_number","_law_among","_law_is_value","_law_odd","_law_spoilt","_law_are_rows","_law_is_row","_law_fits","_law_all","_law_named","_law_is_box","_law_is_list","_law_is_function","_law_unlike","_law_count","_law_kind","_law_class","_law_told","law"]
noncomputable def ε:lS7:= ["MOST_LETTERS","GREATEST","DEEPEST","NO_ROW","MOST_BOXES","MOST_LISTS","MOST_THINGS","MOST_FUNCTIONS","MOST_NAMES","DEEPEST_ROW","MOST_NUMBERS"]
noncomputable def gls:List Int:= [6,999999,4,-1,6,3,12,4,3,5,60]
def abz:lS7:= ["VALUE_FORMS","ROW_FORMS"]
def V_:lS7:= ["NoProgram","NoRow","TooLong","Scope"]
noncomputable def VO:lS7:= ["len","isinstance","all","zip","range","list","tuple","str","int","bool","set","dict","max","min"]
def XE(l:List α)(d:α)(i:Nat):α:=l.getD i d
def S0:Sx:=⟨[],aQ (.Pass ⟨0,0,0,0⟩),λi=>Str.ofString (XE S' "" i),XE ε "",XE abz "",XE V_ "",λc=>match c with
 |3=> ["boxes","lists","param_counts","may_return"]
 |_=> [],VO,[3],[0,1,2],true⟩
def lk{α:Type}(x:Str):List (Str×α)->Option α
 | []=>none
 |(k,v)::r=>match aR x k with
  |true=>some v
  |false=>lk x r
noncomputable def iU:List (Str×lS7):= [("number",["number"]),("box",["box"]),("plus",["value","value"]),("minus",["value","value"]),("times",["value","value"]),("over",["value","value"]),("rest",["value","value"]),("less",["value","value"]),("same",["value","value"]),("not",["value"]),("item",["list","value"]),("size",["list"])]
noncomputable def gS:List (Str×lS7):= [("set",["box","value"]),("push",["list","value"]),("pop",["box","list"]),("put",["list","value","value"]),("ask",["box","door"]),("tell",["value"]),("if",["value","rows","rows"]),("while",["value","rows"]),("try",["rows","box","rows"]),("fail",["value"]),("call",["box","function","values"]),("return",["value"])]
def abx:Nat->Str->Option (lS7)
 |0,x=>lk x iU
 |_,x=>lk x gS
abbrev jC (h:Hs) (k:Nat->Hs->Prop):Prop:=match h with
 |.ins c []::r=>k c r
 |_=>False
@[elab_as_elim] theorem aaA {h:Hs}{G:Hs->Prop}{k:Nat->Hs->Prop} (c:jC h k) (g:∀i r,k i r->G (.ins i []::r)):G h:=by
 rcases h with _|⟨x,_⟩
 ·exact c.elim
 ·cases x with
  |ins j xs=>cases xs<;>first|exact g _ _ c|exact c.elim
  |_=>exact c.elim
def Rx:Nat->Ct:=λ_ ds h Q _=>rC ds λi r=>pC r λa r=>pC r λb r=>pC r λc r=>pC r λd r=>nC r (jC h λj g=>nC g (gd (Nat.beq i 0&&Nat.beq j 3) (Q (.p .non) [.ins 3 [.p a,.p b,.p c,.p d]])))
def Lx(ca:Nat->Addr):Lw:=⟨S0,ca,λi=>.int (XE gls 0 i),[0,1,2,3,4,5,6,7,8,9,10],abx,[0,1],Rx⟩
mutual
def dP:Pv->Bool
 |.tup xs=>dR xs
 |.lst xs=>dR xs
 |.dct ks us=>dR ks&&dR us
 |.scr _=>false
 |.obj _ _=>false
 |.fn _=>false
 |.ty _=>false
 |_=>true
def dR:List Pv->Bool
 | []=>true
 |x::r=>dP x&&dR r
end
mutual
def cU:Pv->Nat
 |.tup xs=>1+cE xs
 |.lst xs=>1+cE xs
 |.dct ks us=>1+cE ks+cE us
 |.str z=>1+z.length
 |_=>1
def cE:List Pv->Nat
 | []=>0
 |x::r=>cU x+cE r
end
noncomputable def uB:Nat:=1000000
def dz(x:Pv):Bool:=dP x&&Nat.ble (cU x) uB
abbrev je (f:Pv->Bool):Ct:=UZ dz λx=>.bl (f x)
@[elab_as_elim] theorem lV (hd:dz x=true) (non:P .non) (bl:∀b,P (.bl b)) (int:∀i,P (.int i)) (str:∀z,dz (.str z)=true->P (.str z)) (tup:∀xs,dz (.tup xs)=true->P (.tup xs)) (lst:∀xs,dz (.lst xs)=true->P (.lst xs)) (dct:∀ks us,dz (.dct ks us)=true->P (.dct ks us)):P x:=by
 cases x with
 |non=>exact non
 |bl b=>exact bl b
 |int b=>exact int b
 |str b=>exact str b hd
 |tup b=>exact tup b hd
 |lst b=>exact lst b hd
 |dct a b=>exact dct a b hd
 |_=>exact nU hd
theorem CL:∀x:Pv,1<=cU x
 |.non=>au _
 |.bl _=>au _
 |.int _=>au _
 |.str _=>de _ _
 |.tup _=>de _ _
 |.lst _=>de _ _
 |.dct _ _=>by show 1<=1+_+_;lia
 |.scr _=>au _
 |.obj _ _=>au _
 |.fn _=>au _
 |.ty _=>au _
theorem FW:∀{xs:List Pv}{x:Pv},dR xs=true->x∈xs->dP x=true/\cU x<=cE xs
 | [],_,_,h=>by cases h
 |y::r,x,h,hx=>by
  obtain⟨h1,h2⟩:=ag (show(dP y&&dR r)=true from h)
  show _/\_<=cU y+cE r
  rcases aN.mp hx with z|z
  ·subst z;exact⟨h1,by lia⟩
  ·have:=FW h2 z;exact⟨this.1,by lia⟩
theorem cm(h:dz (.tup xs)=true)(hx:x∈xs):dz x=true:=by
 obtain⟨h1,h2⟩:=ag h
 obtain⟨h3,h4⟩:=FW h1 hx
 have:cU (.tup xs)=1+cE xs:=rfl
 have:=ble_iff.mp h2
 unfold dz
 rw[h3,ble_iff.mpr (show cU x<=uB by lia)];rfl
theorem lK(h:n<=uB):nc n=true:=Ud (aA h (by decide))
theorem FX{z:Str}(h:dz (.str z)=true):z.length<=uB:=by
 have:cU (.str z)=1+z.length:=rfl
 have:=ble_iff.mp (ag h).2
 lia
theorem nq{r:List Pv}(h:dz (.tup (a::r))=true):dz a=true:=cm h aL
def wD:Pv->Bool
 |.tup (.str _::_)=>true
 |_=>false
abbrev Kv (l:List (Str×lS7)):Ct:=Zj isStr λx K=>l9 (lk (jG x) l) (λks=>K (Jr ks)) (K .non)
structure Sg (K:Frag) (mg:mG7):Prop where
 s14:Src K mg "has_word" (fw 14) ["thing"]
 s15:Src K mg "value_kinds" (fw 15) ["word"]
 s16:Src K mg "row_kinds" (fw 16) ["word"]
 s17:Src K mg "parts_within" (fw 17) ["row"]
 s20:Src K mg "rows_of" (fw 20) ["program"]
 s21:Src K mg "add_rows" (fw 21) ["triples","rows","around"]
 s26:Src K mg "is_name" (fw 26) ["thing"]
 s27:Src K mg "is_whole" (fw 27) ["thing","least","most"]
 s28:Src K mg "is_number" (fw 28) ["thing"]
 s29:Src K mg "is_value" (fw 29) ["thing","boxes","lists"]
 s30:Src K mg "is_value_within" (fw 30) ["thing","boxes","lists","depth"]
 s31:Src K mg "is_part" (fw 31) ["kind","part","boxes","lists","depth"]
 s41:Src K mg "program_of" (fw 41) ["boxes","lists","functions","rows"]
 s42:Src K mg "check_variables" (fw 42) ["boxes","lists"]
 s43:Src K mg "check_functions" (fw 43) ["functions","taken"]
 s44:Src K mg "check_rows" (fw 44) ["program"]
 s45:Src K mg "is_tuple_of" (fw 45) ["thing","most","is_one"]
 s46:Src K mg "is_pair" (fw 46) ["thing"]
 s47:Src K mg "is_box" (fw 47) ["thing"]
 s48:Src K mg "is_list" (fw 48) ["thing"]
 s49:Src K mg "is_function" (fw 49) ["thing"]
 s50:Src K mg "names_of" (fw 50) ["things"]
 s51:Src K mg "own_names" (fw 51) ["function"]
 s52:Src K mg "are_unlike" (fw 52) ["names"]
 s53:Src K mg "are_rows" (fw 53) ["rows","scope","depth"]
 s54:Src K mg "is_row" (fw 54) ["row","scope","depth"]
 s55:Src K mg "is_row_part" (fw 55) ["kind","part","scope","depth"]
 s57:Src K mg "_law_cell_at" (fw 57) ["_law_script","_law_k"]
 s58:Src K mg "_law_state" (fw 58) ["_law_cell","_law_k"]
 s59:Src K mg "_law_next" (fw 59) ["_law_state_here","_law_size"]
 s60:Src K mg "_law_names" (fw 60) ["_law_state_here","_law_amount"]
 s61:Src K mg "_law_value" (fw 61) ["_law_state_here","_law_deep","_law_boxes","_law_lists"]
 s62:Src K mg "_law_plain" (fw 62) ["_law_state_here","_law_names_here"]
 s63:Src K mg "_law_rows" (fw 63) ["_law_state_here","_law_names_here","_law_deep","_law_most","_law_left"]
 s64:Src K mg "_law_program" (fw 64) ["_law_state_here","_law_most"]
 s65:Src K mg "_law_is_name" (fw 65) ["_law_thing"]
 s66:Src K mg "_law_is_number" (fw 66) ["_law_thing"]
 s67:Src K mg "_law_among" (fw 67) ["_law_thing","_law_names_here"]
 s68:Src K mg "_law_is_value" (fw 68) ["_law_thing","_law_boxes","_law_lists","_law_deep"]
 s69:Src K mg "_law_odd" (fw 69) ["_law_thing","_law_state_here"]
 s70:Src K mg "_law_spoilt" (fw 70) ["_law_thing","_law_state_here"]
 s71:Src K mg "_law_are_rows" (fw 71) ["_law_thing","_law_names_here","_law_deep"]
 s72:Src K mg "_law_is_row" (fw 72) ["_law_thing","_law_names_here","_law_deep"]
 s73:Src K mg "_law_fits" (fw 73) ["_law_kind_here","_law_part","_law_names_here","_law_deep"]
 s74:Src K mg "_law_all" (fw 74) ["_law_thing","_law_most","_law_good"]
 s75:Src K mg "_law_named" (fw 75) ["_law_thing","_law_size"]
 s76:Src K mg "_law_is_box" (fw 76) ["_law_thing"]
 s77:Src K mg "_law_is_list" (fw 77) ["_law_thing"]
 s78:Src K mg "_law_is_function" (fw 78) ["_law_thing"]
 s79:Src K mg "_law_unlike" (fw 79) ["_law_names_here"]
 s80:Src K mg "_law_count" (fw 80) ["_law_rows_here"]
 s81:Src K mg "_law_kind" (fw 81) ["_law_boxes","_law_lists","_law_functions","_law_rows_here"]
 s82:Src K mg "_law_class" (fw 82) ["_law_e"]
 s83:Src K mg "_law_told" (fw 83) ["_law_parts"]
abbrev LX (ca:Nat->Addr) (W:Wd):Prop:=Lk (Lx ca) W
abbrev DX (ca:Nat->Addr) (W:Wd) (i k:Nat) (C:Ct):Prop:=Dt (Lx ca) W i k C
abbrev SX (W:Wd):Prop:=Sg W.K W.mg
section
variable {ca:Nat->Addr}
theorem sU(B:LX ca W)(S:SX W):DX ca W 0 2 (je wD):=by
 refine B.e (k:=0) 1 true [] [] (.one (.ret (.bo (Bm.ac (.bi fW (.cons (.v 0) (.cons (.ty 3) .nil))) (Bm.ac (.cmp vR (.bi dE (.cons (.v 0) .nil)) (.c (.int 0))) (Bm.a1 (.bi fW (.cons (.ix (.v 0) (.c (.int 0))) (.cons (.ty 0) .nil))))))))) S.s14 rfl trivial trivial (tF λx Q xc hd=>?_)
 refine lV hd id (λ_=>id) (λ_=>id) (λ_ _=>id) (λxs hd=>?_) (λ_ _=>id) (λ_ _ _=>id)
 cases xs with
 |nil=>exact id
 |cons a r=>exact lV (nq hd) id (λ_=>id) (λ_=>id) (λ_ _=>id) (λ_ _=>id) (λ_ _=>id) (λ_ _ _=>id)
theorem uG(B:LX ca W)(S:SX W):DX ca W 1 2 (Kv iU):=by
 refine B.e (k:=0) 1 true [] [] (.one (.ret (.tg 0 (.v 0)))) S.s15 rfl trivial trivial (tF λx Q xc hd q=>?_)
 revert q
 exact jv hd λw q=>q
theorem xZ(B:LX ca W)(S:SX W):DX ca W 2 2 (Kv gS):=by
 refine B.e (k:=0) 1 true [] [] (.one (.ret (.tg 1 (.v 0)))) S.s16 rfl trivial trivial (tF λx Q xc hd q=>?_)
 revert q
 exact jv hd λw q=>q
noncomputable def yw:Pv->Bool
 |.str z=>!decide (z.cps.toList<("a":Str).cps.toList) && !decide (("z":Str).cps.toList<z.cps.toList)
 |_=>false
def aE:Pv->Bool
 |.str z=>Nat.ble 1 z.length&&(Nat.ble z.length 6&&(iS z).all yw)
 |_=>false
def nD(a b:Int):Pv->Bool
 |.int i=>hV a i&&hV i b
 |_=>false
def fc:Pv->Bool:=nD 0 999999
abbrev FD:Ct:=VP (λx a b=>dz x&&(isInt a&&isInt b)) λx a b=>.bl (nD (ym a) (ym b) x)
def qF(f:Pv->Bool)(bs ls:List Pv)(k:Str)(p:Pv):Bool:=match aR k "number" with
 |true=>fc p
 |false=>match aR k "box" with
  |true=>aE p&&gX p bs
  |false=>match aR k "list" with
   |true=>aE p&&gX p ls
   |false=>f p
def vn(f:Pv->Bool)(bs ls:List Pv):Pv->Bool
 |.tup [k,p]=>qF f bs ls (jG k) p
 |_=>false
def kr(f:Pv->Bool)(bs ls:List Pv)(r:List Pv):Option (lS7)->Bool
 |some ks=>lj ((r.length+1:Nat):Int) (1+((ks.map Pv.str).length:Nat))&&(fh (ks.map .str) r).all (vn f bs ls)
 |none=>false
def val:Nat->List Pv->List Pv->Pv->Bool
 |0,_,_,_=>false
 |n+1,bs,ls,.tup (.str w::r)=>kr (val n bs ls) bs ls r (lk w iU)
 |_+1,_,_,_=>false
abbrev OD (n:Nat):Ct:=cA5 (λk p b l d=>isStr k&&(dz p&&(oV b&&(oV l&&DW n d)))) λk p b l d=>.bl (qF (val n (mZ b) (mZ l)) (mZ b) (mZ l) (jG k) p)
abbrev mz (n:Nat):Ct:=Zh (λx b l d=>dz x&&(oV b&&(oV l&&DW n d))) λx b l d=>.bl (val n (mZ b) (mZ l) x)
abbrev vU:Ct:=VP (λx b l=>dz x&&(oV b&&oV l)) λx b l=>.bl (val 4 (mZ b) (mZ l) x)
theorem wW(h:aE p=true):sZ p=true:=by cases p<;>first|rfl|cases h
theorem iY(B:LX ca W)(S:SX W):DX ca W 6 2 (je aE):=by
 refine B.e (k:=0) 1 true [] [] (.seq (.iff (.not (.val (.bi fW (.cons (.v 0) (.cons (.ty 0) .nil))))) (.one (.ret (.c (.bl false)))) .nil)
 (.one (.ret (.bo (Bm.ac (.ch JU JU (.c (.int 1)) (.bi dE (.cons (.v 0) .nil)) (.g 0)) (Bm.a1 (.bi F6 (.cons (.comp 1 [] (.one 0) (.c (.v 0)) .no (.ch JU JU (.c (.str "a")) (.v 0) (.c (.str "z")))) .nil)))))))) S.s26 rfl trivial trivial (tF λx Q xc hd=>?_)
 refine lV hd id (λ_=>id) (λ_=>id) (λz hd q=>?_) (λ_ _=>id) (λ_ _=>id) (λ_ _ _=>id)
 have hz:=lK (FX hd)
 refine aq hz (fj (Q:=Q) q λ_ q=>fj (Q:=Q) q λ_ q=>aq hz ?_)
 refine gF (λy=>.bl (yw y)) rfl (λy hy=>?_) (se q)
 obtain⟨c,_,rfl⟩:=eh.mp hy
 exact λR q=>fj (Q:=λd h=>R [d] h) q λ_ q=>q
theorem zP(B:LX ca W)(S:SX W):DX ca W 7 2 FD:=by
 refine B.e (k:=0) 3 true [] [] (.seq (.iff (.bo (Wm.oc (.val (.bi fW (.cons (.v 0) (.cons (.ty 2) .nil)))) (Wm.o1 (.not (.val (.bi fW (.cons (.v 0) (.cons (.ty 1) .nil)))))))) (.one (.ret (.c (.bl false)))) .nil)
 (.one (.ret (.ch JU JU (.v 1) (.v 0) (.v 2))))) S.s27 rfl trivial trivial (U4 λx a b Q xc hp=>?_)
 obtain⟨hd,ha,hb⟩:=qQ hp
 refine As ha λa=>As hb λb=>?_
 exact lV hd id (λ_=>id) (λi q=>fj (Q:=Q) q λ_ q=>q) (λ_ _=>id) (λ_ _=>id) (λ_ _=>id) (λ_ _ _=>id)
theorem jJ(B:LX ca W)(S:SX W):DX ca W 8 3 (je fc):=by
 refine B.e (k:=1) 1 true [(7,FD)] [] (.one (.ret (.cl 7 [] (.cons (.v 0) (.cons (.c (.int 0)) (.cons (.g 1) .nil)))))) S.s28 rfl ⟨(zP B S),trivial⟩ trivial (tF λx Q xc hd q=>?_)
 exact aq (by show(dz x&&true)=true;rw[hd];rfl) q
theorem DD(B:LX ca W)(S:SX W)(n:Nat)(D10:DX ca W 10 (2*n+3) (mz n)):DX ca W 11 (2*n+4) (OD n):=by
 refine B.e (k:=2*n+2) 5 true [(8,je fc),(6,je aE),(10,mz n)] [] (.seq (.iff (.cmp gN (.v 0) (.c (.str "number"))) (.one (.ret (.cl 8 [] (.cons (.v 1) .nil)))) .nil)
 (.seq (.iff (.cmp gN (.v 0) (.c (.str "box"))) (.one (.ret (.bo (Bm.ac (.cl 6 [] (.cons (.v 1) .nil)) (Bm.a1 (.cmp OC (.v 1) (.v 2))))))) .nil)
 (.seq (.iff (.cmp gN (.v 0) (.c (.str "list"))) (.one (.ret (.bo (Bm.ac (.cl 6 [] (.cons (.v 1) .nil)) (Bm.a1 (.cmp OC (.v 1) (.v 3))))))) .nil)
 (.one (.ret (.cl 10 [] (.cons (.v 1) (.cons (.v 2) (.cons (.v 3) (.cons (.v 4) .nil)))))))))) S.s31 rfl ⟨(jJ B S).le (by lia),(iY B S).le (by lia),D10.le (by lia),trivial⟩ trivial (hX5 λk p b l d Q xc hp=>?_)
 obtain⟨h1,h2,h3,h4,h5⟩:=Kj hp
 refine jv h1 λk=>F7 h3 λb h3=>F7 h4 λl h4=>tK h5 λq=>?_
 refine oJ (Q:=Q) q (λ_ q=>aq h2 q) λ_ q=>oJ (Q:=Q) q (λ_ q=>?_) λ_ q=>oJ (Q:=Q) q (λ_ q=>?_) λ_ q=>?_
 ·exact aq h2 (fj (Q:=Q) q λc q=>aq (by rw[wW c];exact h3) q)
 ·exact aq h2 (fj (Q:=Q) q λc q=>aq (by rw[wW c];exact h4) q)
 ·exact aq (by show(dz p&&(eY b&&(eY l&&lj n n)))=true;rw[h2,h3,h4,cK.mpr rfl];rfl) q
def cPm:Nat->Ct
 |0=>E3
 |n+1=>OD n
theorem u5(B:LX ca W)(S:SX W)(n:Nat)(D11:DX ca W 11 (2*n+2) (cPm n)):DX ca W 10 (2*n+3) (mz n):=by
 refine B.e (k:=2*n+1) 5 true [(0,je wD),(1,Kv iU),(11,cPm n)] [] (.seq (.iff (.bo (Wm.oc (.cmp gN (.v 3) (.c (.int 0))) (Wm.o1 (.not (.val (.cl 0 [] (.cons (.v 0) .nil))))))) (.one (.ret (.c (.bl false)))) .nil)
 (.seq (.set 4 (.cl 1 [] (.cons (.ix (.v 0) (.c (.int 0))) .nil)))
 (.seq (.iff (.bo (Wm.oc (.isN false (.v 4)) (Wm.o1 (.cmp Kx (.bi dE (.cons (.v 0) .nil)) (.b2 dk (.c (.int 1)) (.bi dE (.cons (.v 4) .nil))))))) (.one (.ret (.c (.bl false)))) .nil)
 (.one (.ret (.bi F6 (.cons (.comp 2 [1,2,3] (.many [0,1]) (.z (.cons (.v 4) (.cons (.sl (.v 0) (.of (.c (.int 1))) .no) .nil))) .no (.cl 11 [] (.cons (.v 0) (.cons (.v 1) (.cons (.v 2) (.cons (.v 3) (.cons (.b2 pX (.v 4) (.c (.int 1))) .nil))))))) .nil))))))) S.s30 rfl ⟨(sU B S).le (by lia),(uG B S).le (by lia),D11,trivial⟩ trivial (Wv λx b l d Q xc hp=>?_)
 obtain⟨h1,h2,h3,h4⟩:=jd hp
 cases n with
 |zero=>exact tK h4 λq=>q
 |succ n=>
  refine F7 h2 λb h2=>F7 h3 λl h3=>tK h4 λq=>aq h1 ?_
  revert q
  refine lV h1 id (λ_=>id) (λ_=>id) (λ_ _=>id) (λxs h1=>?_) (λ_ _=>id) (λ_ _ _=>id)
  cases xs with
  |nil=>exact id
  |cons a r=>
   refine lV (nq h1) id (λ_=>id) (λ_=>id) (λw _=>?_) (λ_ _=>id) (λ_ _=>id) (λ_ _ _=>id)
   refine λq=>AQ (λks e=>?_) (λe=>?_)
   ·have q:Q (.p (.bl (kr (val n b l) b l r (some ks)))) []:=e▸q
    refine gD (Q:=Q) q λ_ q=>?_
    refine gF (λy=>.bl (vn (val n b l) b l y)) rfl (λy hy=>?_) ?_
    rotate_left
    ·exact se q
    obtain⟨k,p,hk,hp,rfl⟩:=kY hy
    obtain⟨k,_,rfl⟩:=eh.mp hk
    exact λR q=>aq (by show(dz p&&(eY b&&(eY l&&lj ((n+1:Nat)-1) n)))=true;rw[cm h1 (ax _ hp),h2,h3,cK.mpr (by lia)];rfl) q
   ·have q:Q (.p (.bl (kr (val n b l) b l r none))) []:=e▸q
    exact q
theorem x6(B:LX ca W)(S:SX W):∀n,DX ca W 10 (2*n+3) (mz n)
 |0=>u5 B S 0 (Dt.no S.s31)
 |n+1=>u5 B S (n+1) (DD B S n (x6 B S n))
theorem zO(B:LX ca W)(S:SX W)(D:DX ca W 10 11 (mz 4)):DX ca W 9 12 vU:=by
 refine B.e (k:=10) 3 true [(10,mz 4)] [] (.one (.ret (.cl 10 [] (.cons (.v 0) (.cons (.v 1) (.cons (.v 2) (.cons (.g 2) .nil))))))) S.s29 rfl ⟨D,trivial⟩ trivial (U4 λx b l Q xc hp q=>?_)
 exact aq (by obtain⟨h1,hp⟩:=ag hp;obtain⟨h2,h3⟩:=ag hp;show(dz x&&(oV b&&(oV l&&true)))=true;rw[h1,h2,h3];rfl) q
noncomputable def Q5:List (Nat×(Pv->Bool))->Nat->Pv->Bool
 | [],_=>λ_=>false
 |(j,g)::r,i=>match Nat.beq i j with
  |true=>g
  |false=>Q5 r i
def B4(l:List (Nat×(Pv->Bool))):Pv->Bool
 |.fn j=>hU j (l.map (·.1))
 |_=>false
def gFn(l:List (Nat×(Pv->Bool))):Pv->Pv->Bool
 |.fn j=>Q5 l j
 |_=>λ_=>false
@[elab_as_elim] theorem fnC (h:B4 l a=true) (k:∀j,hU j (l.map (·.1))=true->P (.fn j)):P a:=by cases a<;>first|exact k _ h|cases h
noncomputable def QF(l:List (Nat×(Pv->Bool))):List (Nat×Ct):=l.map λp=>(p.1,je p.2)
theorem KD:(QF l).map (·.1)=l.map (·.1):=by unfold QF;rw[zh];rfl
theorem FI:∀{l:List (Nat×(Pv->Bool))}{j:Nat},hU j (l.map (·.1))=true->JX (QF l) j=je (Q5 l j)
 | [],j,h=>by cases h
 |(i,g)::r,j,h=>by
  show(match Nat.beq j i with|true=>je g|false=>JX (QF r) j)=je (match Nat.beq j i with|true=>g|false=>Q5 r j)
  have h:(Nat.beq j i||hU j (r.map (·.1)))=true:=h
  cases e:Nat.beq j i with
  |true=>rfl
  |false=>rw[e] at h;exact FI h
theorem _root_.F.Lk.eT{L:Lw}{i k:Nat}{C:Ct}{st:Stmt}(N ps:lS7)(z:Bool)(l:List (Nat×(Pv->Bool)))(B:Lk L W)(b:Ms (L.g (λi=>je (Q5 l i)) (l.map (·.1)) []) L.t)(Sr:Src W.K W.mg (L.S.oW i) st ps)(rL:(U2 N ps (aQ st)&&b.ck (L.S.at N (aQ st) true) (cJ st))=true)(hf:All L W (k+1) (QF l))
  (hC:∀ds h Q xc,C ds h Q xc->ds.length=ps.length/\b.m (eE z h.length Q xc) (j5 N.length ds) h):Dt L W i (k+2) C:=B.d N ps z b Sr (tD (ag rL).1) (ag rL).2 (Bl.of λj hj=>by
 have z:=hf.at j (by rw[KD];exact hj)
 rw[FI (dM.mpr hj)] at z
 exact z) trivial hC
def eg(m:Int)(g:Pv->Bool):Pv->Bool
 |.tup xs=>hV (xs.length:Nat) m&&xs.all g
 |_=>false
abbrev sA (l:List (Nat×(Pv->Bool))):Ct:=VP (λx m f=>dz x&&(isInt m&&B4 l f)) λx m f=>.bl (eg (ym m) (gFn l f) x)
abbrev jQ (i:Nat) (g:Pv->Bool):Ct:=sA [(i,g)]
def Av:Pv->Bool
 |.tup [_,_]=>true
 |_=>false
def ef:Pv->Bool
 |.tup [a,b]=>aE a&&fc b
 |_=>false
def isList:Pv->Bool
 |.tup [a,b]=>aE a&&eg 12 fc b
 |_=>false
def cO:Pv->Bool
 |.tup [a,b,c,d]=>aE a&&(eg 3 aE b&&(eg 3 aE c&&jl d))
 |_=>false
noncomputable def bC:Pv->Pv
 |.tup (a::_)=>a
 |_=>.non
def wC:Pv->Bool
 |.tup (_::_)=>true
 |_=>false
def d9:Pv->List Pv
 |.tup xs=>xs.map bC
 |_=> []
def Qp:Pv->Bool
 |.tup xs=>xs.all wC
 |_=>false
abbrev so:Ct:=UZ Qp λx=>.lst (d9 x)
noncomputable def hZ:Pv->List Pv
 |.tup [_,.tup b,.tup c,_]=>b++c
 |_=> []
def Ah:Pv->Bool
 |.tup [_,.tup b,.tup c,_]=>Nat.ble (b.length+c.length) uB
 |_=>false
abbrev QC:Ct:=UZ Ah λx=>.lst (hZ x)
def gT(l:List Pv):lS7:=l.map jG
def jO(l:List Pv):Bool:=zd (gT l)
def YM:Pv->Bool
 |.lst l=>l.all isStr&&Nat.ble l.length 60
 |_=>false
abbrev my:Ct:=UZ YM λx=>.bl (jO (mZ x))
theorem l8:∀{l m:lS7},l.Nodup->(∀x∈l,x∈m)->l.length<=m.length
 | [],_,_,_=>cI _
 |x::r,m,h,k=>by
  have hx:=k x aL
  obtain⟨h1,h2⟩:=cA.mp h
  have:=l8 (l:=r) (m:=m.erase x) h2 λy hy=>(j_ (λe=>h1 (by rw[<-e];exact hy))).mpr (k y (ax _ hy))
  rw[PY hx] at this
  have hp:0<m.length:=Vl hx
  rw[aF]
  lia
theorem twice:∀{m:lS7},¬m.Nodup->∃x,x∈m/\x∈m.erase x
 | [],h=>absurd fF h
 |y::r,h=>by
  by_cases hy:y∈r
  ·exact⟨y,aL,by rw[List.erase_cons_head];exact hy⟩
  ·obtain⟨x,h1,h2⟩:=twice (m:=r) λz=>h (cA.mpr ⟨hy,z⟩)
   have ne:y≠x:=λe=>hy (by rw[e];exact h1)
   refine⟨x,ax _ h1,?_⟩
   rw[List.erase_cons_tail (by simpa using ne)]
   exact ax _ h2
theorem mI:∀{l:lS7},zd l=true↔l.Nodup
 | []=>⟨λ_=>fF,λ_=>rfl⟩
 |x::r=>by
  refine⟨qo,λh=>?_⟩
  obtain⟨h1,h2⟩:=cA.mp h
  show(!iu x r&&zd r)=true
  rw[mI.mpr h2,bG.mpr λz=>h1 (jK z)];rfl
theorem F8(ws:lS7):(dJ ws).length=ws.length↔ws.Nodup:=by
 obtain⟨n1,m1⟩:=qz ws
 have le:=l8 n1 λx hx=>(m1 x).mp hx
 refine⟨λe=>?_,λh=>?_⟩
 ·refine Decidable.byContradiction λh=>?_
  obtain⟨x,h1,h2⟩:=twice h
  have hp:0<ws.length:=Vl h1
  have:(dJ ws).length<=(ws.erase x).length:=l8 n1 λy hy=>by
   by_cases e:y=x
   ·rw[e];exact h2
   ·exact(j_ e).mpr ((m1 y).mp hy)
  rw[PY h1] at this
  lia
 ·have ge:=l8 h λx hx=>(m1 x).mpr hx
  lia
theorem rR:∀{l:List Pv},l.all isStr=true->kS l=some (gT l)
 | [],_=>rfl
 |x::r,h=>by
  rw[aB] at h
  obtain⟨h1,h2⟩:=ag h
  revert h1
  refine jv (a:=x) (ag h).1 λz _=>?_
  show(match kS r with|some ws=>some (z::ws)|none=>none)=_
  rw[rR h2];rfl
theorem ic(B:LX ca W)(S:SX W)(k:Nat)(l:List (Nat×(Pv->Bool)))(D:All (Lx ca) W (k+1) (QF l)):DX ca W 16 (k+2) (sA l):=by
 refine B.eT ["thing","most","is_one"] ["thing","most","is_one"] true l (.one (.ret (.bo (Bm.ac (.bi fW (.cons (.v 0) (.cons (.ty 3) .nil))) (Bm.ac (.cmp JU (.bi dE (.cons (.v 0) .nil)) (.v 1)) (Bm.a1 (.bi F6 (.cons (.comp 1 [2] (.one 0) (.s (.v 0)) .no (.clv [] 1 (.cons (.v 0) .nil))) .nil)))))))) S.s45 rfl D (U4 λx m f Q xc hp=>?_)
 obtain⟨h1,h2,h3⟩:=qQ hp
 refine As h2 λm=>fnC h3 λj hj=>?_
 refine lV h1 id (λ_=>id) (λ_=>id) (λ_ _=>id) (λxs h1 q=>?_) (λ_ _=>id) (λ_ _ _=>id)
 refine fj (Q:=Q) q λ_ q=>?_
 refine gF (λy=>.bl (Q5 l j y)) rfl (λy hy=>?_) ?_
 ·refine λR q=>aq hj (aq (cm h1 hy) q)
 ·exact se q
theorem uZ(B:LX ca W)(S:SX W):DX ca W 17 2 (je Av):=by
 refine B.e (k:=0) 1 true [] [] (.one (.ret (.bo (Bm.ac (.bi fW (.cons (.v 0) (.cons (.ty 3) .nil))) (Bm.a1 (.cmp gN (.bi dE (.cons (.v 0) .nil)) (.c (.int 2)))))))) S.s46 rfl trivial trivial (tF λx Q xc hd=>?_)
 refine lV hd id (λ_=>id) (λ_=>id) (λ_ _=>id) (λxs hd=>?_) (λ_ _=>id) (λ_ _ _=>id)
 rcases xs with _|⟨a,_|⟨b,_|⟨c,r⟩⟩⟩<;>exact id
theorem FO(B:LX ca W)(S:SX W):DX ca W 18 4 (je ef):=by
 refine B.e (k:=2) 1 true [(17,je Av),(6,je aE),(8,je fc)] [] (.one (.ret (.bo (Bm.ac (.cl 17 [] (.cons (.v 0) .nil)) (Bm.ac (.cl 6 [] (.cons (.ix (.v 0) (.c (.int 0))) .nil)) (Bm.a1 (.cl 8 [] (.cons (.ix (.v 0) (.c (.int 1))) .nil)))))))) S.s47 rfl ⟨(uZ B S).up rfl,(iY B S).up rfl,(jJ B S),trivial⟩ trivial (tF λx Q xc hd q=>aq hd ?_)
 revert q
 refine lV hd id (λ_=>id) (λ_=>id) (λ_ _=>id) (λxs hd=>?_) (λ_ _=>id) (λ_ _ _=>id)
 rcases xs with _|⟨a,_|⟨b,_|⟨c,r⟩⟩⟩
 ·exact id
 ·exact id
 ·exact λq=>aq (nq hd) (fj (Q:=Q) q λ_ q=>aq (cm hd (by simp)) q)
 ·exact id
theorem DC(B:LX ca W)(S:SX W)(Qb:DX ca W 16 4 (jQ 8 fc)):DX ca W 19 5 (je isList):=by
 refine B.e (k:=3) 1 true [(17,je Av),(6,je aE),(8,je fc),(16,jQ 8 fc)] [] (.one (.ret (.bo (Bm.ac (.cl 17 [] (.cons (.v 0) .nil)) (Bm.ac (.cl 6 [] (.cons (.ix (.v 0) (.c (.int 0))) .nil)) (Bm.a1 (.cl 16 [] (.cons (.ix (.v 0) (.c (.int 1))) (.cons (.g 6) (.cons (.f 8) .nil)))))))))) S.s48 rfl ⟨(uZ B S).up rfl,(iY B S).up rfl,(jJ B S).up rfl,Qb,trivial⟩ trivial (tF λx Q xc hd q=>aq hd ?_)
 revert q
 refine lV hd id (λ_=>id) (λ_=>id) (λ_ _=>id) (λxs hd=>?_) (λ_ _=>id) (λ_ _ _=>id)
 rcases xs with _|⟨a,_|⟨b,_|⟨c,r⟩⟩⟩
 ·exact id
 ·exact id
 ·exact λq=>aq (nq hd) (fj (Q:=Q) q λ_ q=>aq (by show(dz b&&true)=true;rw[cm hd (by simp)];rfl) q)
 ·exact id
theorem uF(B:LX ca W)(S:SX W)(Qb:DX ca W 16 3 (jQ 6 aE)):DX ca W 20 4 (je cO):=by
 refine B.e (k:=2) 1 true [(6,je aE),(16,jQ 6 aE)] [] (.seq (.iff (.bo (Wm.oc (.not (.val (.bi fW (.cons (.v 0) (.cons (.ty 3) .nil))))) (Wm.oc (.cmp Kx (.bi dE (.cons (.v 0) .nil)) (.c (.int 4))) (Wm.o1 (.not (.val (.cl 6 [] (.cons (.ix (.v 0) (.c (.int 0))) .nil)))))))) (.one (.ret (.c (.bl false)))) .nil)
 (.seq (.iff (.bo (Wm.oc (.not (.val (.cl 16 [] (.cons (.ix (.v 0) (.c (.int 1))) (.cons (.g 8) (.cons (.f 6) .nil)))))) (Wm.o1 (.not (.val (.cl 16 [] (.cons (.ix (.v 0) (.c (.int 2))) (.cons (.g 8) (.cons (.f 6) .nil))))))))) (.one (.ret (.c (.bl false)))) .nil)
 (.one (.ret (.bi fW (.cons (.ix (.v 0) (.c (.int 3))) (.cons (.ty 3) .nil))))))) S.s49 rfl ⟨(iY B S).up rfl,Qb,trivial⟩ trivial (tF λx Q xc hd=>?_)
 refine lV hd id (λ_=>id) (λ_=>id) (λ_ _=>id) (λxs hd=>?_) (λ_ _=>id) (λ_ _ _=>id)
 rcases xs with _|⟨a,_|⟨b,_|⟨c,_|⟨d,_|⟨e,r⟩⟩⟩⟩⟩
 ·exact id
 ·exact id
 ·exact id
 ·exact id
 ·have h1:=cm (x:=b) hd (by simp)
  have h2:=cm (x:=c) hd (by simp)
  have h3:=cm (x:=d) hd (by simp)
  refine λq=>aq (nq hd) ?_
  refine gD (Q:=Q) q λ_ q=>aq (by show(dz b&&true)=true;rw[h1];rfl) ?_
  refine gD (Q:=Q) q λ_ q=>aq (by show(dz c&&true)=true;rw[h2];rfl) ?_
  refine gD (Q:=Q) q λ_ q=>?_
  revert q
  exact lV h3 id (λ_=>id) (λ_=>id) (λ_ _=>id) (λ_ _=>id) (λ_ _=>id) (λ_ _ _=>id)
 ·exact id
theorem kF(B:LX ca W)(S:SX W):DX ca W 21 2 so:=by
 refine B.e (k:=0) 1 true [] [] (.one (.ret (.comp 1 [] (.one 0) (.s (.v 0)) .no (.ix (.v 0) (.c (.int 0)))))) S.s50 rfl trivial trivial (tF λx Q xc hd=>?_)
 cases x<;>first|(cases hd;done)|skip
 rename_i xs
 intro q
 refine gF bC rfl (λy hy=>?_) q
 have hz:=aj.mp (show xs.all wC=true from hd) y hy
 cases y<;>first|(cases hz;done)|skip
 rename_i ys
 cases ys with
 |nil=>cases hz
 |cons a r=>exact λR q=>q
theorem qy(B:LX ca W)(S:SX W):DX ca W 22 2 QC:=by
 refine B.e (k:=0) 1 true [] [] (.one (.ret (.b2 dk (.bi zW (.cons (.ix (.v 0) (.c (.int 1))) .nil)) (.bi zW (.cons (.ix (.v 0) (.c (.int 2))) .nil))))) S.s51 rfl trivial trivial (tF λx Q xc hd=>?_)
 unfold Ah at hd
 split at hd
 ·exact λq=>aq (lK (ble_iff.mp hd)) q
 ·cases hd
theorem oO(B:LX ca W)(S:SX W):DX ca W 23 2 my:=by
 refine B.e (k:=0) 1 true [] [] (.one (.ret (.cmp gN (.aaH (.v 0)) (.bi dE (.cons (.v 0) .nil))))) S.s52 rfl trivial trivial (tF λx Q xc hd=>?_)
 cases x<;>first|(cases hd;done)|skip
 rename_i l
 obtain⟨h1,h2⟩:=ag hd
 intro q
 have hn:(gT l).length=l.length:=ah _
 obtain⟨n1,m1⟩:=qz (gT l)
 have le:=l8 n1 λx hx=>(m1 x).mp hx
 have h2:=ble_iff.mp h2
 refine bK (rR h1) (aq (ble_iff.mpr (by lia)) ?_)
 have e2:lj ((dJ (gT l)).length:Nat) (l.length:Nat)=jO l:=by
  unfold jO
  rw[cq,cK,mI,<-F8,hn];lia
 show Q (.p (.bl (lj ((dJ (gT l)).length:Nat) (l.length:Nat)))) []
 rw[e2];exact q
structure Sc where
 bs:List Pv
 ls:List Pv
 ks:List Pv
 us:List Pv
 rt:Bool
def Sc.pv(s:Sc):Pv:=.obj 3 [.lst s.bs,.lst s.ls,.dct s.ks s.us,.bl s.rt]
def Sc.ok(s:Sc):Bool:=eY s.bs&&(eY s.ls&&(s.ks.all isStr&&(s.us.all isInt&&Nat.beq s.ks.length s.us.length)))
def ksO:Pv->List Pv
 |.dct ks _=>ks
 |_=> []
def usO:Pv->List Pv
 |.dct _ us=>us
 |_=> []
def GF:Pv->Bool
 |.dct _ _=>true
 |_=>false
def Ry:Pv->Bool
 |.bl _=>true
 |_=>false
def blO:Pv->Bool
 |.bl b=>b
 |_=>false
@[elab_as_elim] theorem Y_ (h:GF a=true) (k:∀x y,P (.dct x y)):P a:=by cases a<;>first|exact k _ _|cases h
@[elab_as_elim] theorem blC (h:Ry a=true) (k:∀x,P (.bl x)):P a:=by cases a<;>first|exact k _|cases h
def DN:Pv->List Pv
 |.obj _ fs=>fs
 |_=> []
def V0(c:Nat):Pv->Bool
 |.obj d _=>Nat.beq d c
 |_=>false
@[elab_as_elim] theorem aaX {c:Nat} (h:V0 c a=true) (k:∀fs,P (.obj c fs)):P a:=by cases a<;>first|(rw[ao h];exact k _)|cases h
def l4:List α->Bool
 | [_,_,_,_]=>true
 |_=>false
@[elab_as_elim] theorem l4C {P:List α->Prop}{l:List α} (h:l4 l=true) (k:∀a b c d,P [a,b,c,d]):P l:=by
 rcases l with _|⟨a,_|⟨b,_|⟨c,_|⟨d,_|⟨e,r⟩⟩⟩⟩⟩<;>first|exact k _ _ _ _|cases h
noncomputable def Fn (l:List Pv) (i:Nat):Pv:=l.getD i .non
def scL(l:List Pv):Sc:=⟨mZ (Fn l 0),mZ (Fn l 1),ksO (Fn l 2),usO (Fn l 2),blO (Fn l 3)⟩
def Yk(x:Pv):Sc:=scL (DN x)
def J2(x:Pv):Bool:=V0 3 x&&(l4 (DN x)&&((yn (Fn (DN x) 0)&&(yn (Fn (DN x) 1)&&(GF (Fn (DN x) 2)&&Ry (Fn (DN x) 3))))&&(Yk x).ok))
@[elab_as_elim] theorem scC (h:J2 a=true) (k:∀s:Sc,s.ok=true->P s.pv):P a:=by
 obtain⟨h1,h⟩:=ag h
 revert h
 refine aaX h1 λfs h=>?_
 obtain⟨h2,h⟩:=ag h
 revert h
 refine l4C (show l4 fs=true from h2) λa b c d h=>?_
 obtain⟨h,h6⟩:=ag h
 obtain⟨h2,h3,h4,h5⟩:=jd h
 revert h6
 exact Xo (show yn a=true from h2) λa=>Xo (show yn b=true from h3) λb=>Y_ (show GF c=true from h4) λx y=>blC (show Ry d=true from h5) λd h=>k ⟨a,b,x,y,d⟩ h
theorem ub(h:s.ok=true):J2 s.pv=true:=h
def fX(f:Pv->Bool)(s:Sc)(k:Str)(p:Pv):Bool:=match aR k "rows" with
 |true=>f p
 |false=>match aR k "value" with
  |true=>val 4 s.bs s.ls p
  |false=>match aR k "values" with
   |true=>jl p&&(nh p).all (val 4 s.bs s.ls)
   |false=>aE p&&match aR k "box" with
    |true=>gX p s.bs
    |false=>match aR k "list" with
     |true=>gX p s.ls
     |false=>match aR k "function" with
      |true=>(eV p s.ks s.us).isSome
      |false=>aR k "door"
def nA(f:Pv->Bool)(s:Sc):Pv->Bool
 |.tup [k,p]=>fX f s (jG k) p
 |_=>false
def sI(s:Sc):List Pv->Bool
 | [_,f,.tup vs]=>match eV f s.ks s.us with
  |some c=>lj (vs.length:Nat) (ym c)
  |none=>false
 |_=>false
def yH(f:Pv->Bool)(s:Sc)(w:Str)(r:List Pv):Option (lS7)->Bool
 |some ks=>lj ((r.length+1:Nat):Int) (1+((ks.map Pv.str).length:Nat))&&((!(aR w "return" && !s.rt))&&((fh (ks.map .str) r).all (nA f s)&&(!aR w "call"||sI s r)))
 |none=>false
def cY(f:Pv->Bool):Pv->Bool
 |.tup xs=>xs.all f
 |_=>false
@[elab_as_elim] theorem iT (h:cY f a=true) (k:∀xs,xs.all f=true->P (.tup xs)):P a:=by cases a<;>first|exact k _ h|cases h
def row:Nat->Sc->Pv->Bool
 |0,_,_=>false
 |n+1,s,.tup (.str w::r)=>yH (cY (row n s)) s w r (lk w gS)
 |_+1,_,_=>false
def eJ(n:Nat)(s:Sc):Pv->Bool:=cY (row n s)
abbrev FA (n:Nat):Ct:=Zh (λk p s d=>isStr k&&(dz p&&(J2 s&&DW (5-n) d))) λk p s _=>.bl (fX (eJ n (Yk s)) (Yk s) (jG k) p)
abbrev Kz (n:Nat):Ct:=VP (λx s d=>dz x&&(J2 s&&DW (6-n) d)) λx s _=>.bl (row n (Yk s) x)
abbrev xR (n:Nat):Ct:=VP (λx s d=>dz x&&(J2 s&&DW (6-n) d)) λx s _=>.bl (eJ n (Yk s) x)
theorem wu{k:Pv}{p:Pv}:∀{ks us:List Pv},eV k ks us=some p->p∈us
 | [],_,h=>by cases h
 |_::_,[],h=>by cases h
 |k'::ks,u::us,h=>by
  have h:(match Aw k' k with|true=>some u|false=>eV k ks us)=some p:=h
  split at h
  ·cases h;exact aL
  ·exact ax _ (wu h)
theorem eW(h:aE p=true):isStr p=true:=by cases p<;>first|rfl|cases h
theorem zR(B:LX ca W)(S:SX W)(D9:DX ca W 9 12 vU)(n:Nat)(Vx:DX ca W 24 (3*n+12) (xR n)):DX ca W 26 (3*n+13) (FA n):=by
 refine B.e (k:=3*n+11) 4 true [(24,xR n),(9,vU),(6,je aE)] [] (.seq (.iff (.cmp gN (.v 0) (.c (.str "rows"))) (.one (.ret (.cl 24 [] (.cons (.v 1) (.cons (.v 2) (.cons (.b2 dk (.v 3) (.c (.int 1))) .nil)))))) .nil)
 (.seq (.iff (.cmp gN (.v 0) (.c (.str "value"))) (.one (.ret (.cl 9 [] (.cons (.v 1) (.cons (.fld 3 0 (.v 2)) (.cons (.fld 3 1 (.v 2)) .nil)))))) .nil)
 (.seq (.iff (.cmp gN (.v 0) (.c (.str "values"))) (.one (.ret (.bo (Bm.ac (.bi fW (.cons (.v 1) (.cons (.ty 3) .nil))) (Bm.a1 (.bi F6 (.cons (.comp 1 [2] (.one 0) (.s (.v 1)) .no (.cl 9 [] (.cons (.v 0) (.cons (.fld 3 0 (.v 1)) (.cons (.fld 3 1 (.v 1)) .nil))))) .nil))))))) .nil)
 (.seq (.iff (.not (.val (.cl 6 [] (.cons (.v 1) .nil)))) (.one (.ret (.c (.bl false)))) .nil)
 (.seq (.iff (.cmp gN (.v 0) (.c (.str "box"))) (.one (.ret (.cmp OC (.v 1) (.fld 3 0 (.v 2))))) .nil)
 (.seq (.iff (.cmp gN (.v 0) (.c (.str "list"))) (.one (.ret (.cmp OC (.v 1) (.fld 3 1 (.v 2))))) .nil)
 (.seq (.iff (.cmp gN (.v 0) (.c (.str "function"))) (.one (.ret (.F' false (.v 1) (.fld 3 2 (.v 2))))) .nil)
 (.one (.ret (.cmp gN (.v 0) (.c (.str "door")))))))))))) S.s55 rfl ⟨Vx,D9.le (by lia),(iY B S).le (by lia),trivial⟩ trivial (Wv λk p s d Q xc hp=>?_)
 obtain⟨h1,h2,h3,h4⟩:=jd hp
 refine jv h1 λk=>scC h3 λs h3=>tK h4 λq=>?_
 have hs:=h3
 obtain⟨f1,f2,f3,h3⟩:=jd h3
 refine oJ (Q:=Q) q (λ_ q=>?_) λ_ q=>oJ (Q:=Q) q (λ_ q=>?_) λ_ q=>oJ (Q:=Q) q (λ_ q=>?_) λ_ q=>?_
 ·refine aq ?_ q
  show(dz p&&(J2 s.pv&&lj (5-n+1) (6-n)))=true
  rw[h2,ub hs,cK.mpr (by lia)];rfl
 ·refine aq ?_ q
  show(dz p&&(eY s.bs&&eY s.ls))=true
  rw[h2,f1,f2];rfl
 ·revert q
  refine lV h2 id (λ_=>id) (λ_=>id) (λ_ _=>id) (λxs h2 q=>?_) (λ_ _=>id) (λ_ _ _=>id)
  refine gF (λy=>.bl (val 4 s.bs s.ls y)) rfl (λy hy=>λR q=>?_) ?_
  ·refine aq ?_ q
   show(dz y&&(eY s.bs&&eY s.ls))=true
   rw[cm h2 hy,f1,f2];rfl
  ·exact se q
 ·refine aq h2 (gD (Q:=Q) q λc q=>?_)
  have fl:=wW c
  revert q
  refine jv (eW c) λp q=>?_
  refine oJ (Q:=Q) q (λ_ q=>aq f1 q) λ_ q=>oJ (Q:=Q) q (λ_ q=>aq f2 q) λ_ q=>oJ (Q:=Q) q (λ_ q=>q) λ_ q=>q
theorem not_not(h:(!b)=false):b=true:=by cases b<;>first|rfl|cases h
theorem sT(B:LX ca W)(S:SX W)(n:Nat)(D:DX ca W 25 (3*n+11) (Kz n)):DX ca W 24 (3*n+12) (xR n):=by
 refine B.e (k:=3*n+10) 4 true [(25,Kz n)] [] (.seq (.iff (.not (.val (.bi fW (.cons (.v 0) (.cons (.ty 3) .nil))))) (.one (.ret (.c (.bl false)))) .nil)
 (.seq (.fo (.one 3) (.s (.v 0)) (.one (.iff (.not (.val (.cl 25 [] (.cons (.v 3) (.cons (.v 1) (.cons (.v 2) .nil)))))) (.one (.ret (.c (.bl false)))) .nil)))
 (.one (.ret (.c (.bl true)))))) S.s53 rfl ⟨D,trivial⟩ trivial (U4 λx s d Q xc hp=>?_)
 obtain⟨h1,h3,h4⟩:=qQ hp
 refine scC h3 λs h3=>tK h4 ?_
 refine lV h1 id (λ_=>id) (λ_=>id) (λ_ _=>id) (λxs h1 q=>?_) (λ_ _=>id) (λ_ _ _=>id)
 refine fk (λpre post σ h=>h = []/\(∃v,σ = [some (.p (.tup xs)),some (.p s.pv),some (.p (.int (6-n))),v])/\xs.all (row n s)=post.all (row n s)) ⟨rfl,⟨_,rfl⟩,rfl⟩ (λpre x post σ h e j=>?_) (λσ h j=>?_)
 ·obtain⟨rfl,⟨v,rfl⟩,j⟩:=j
  have hx:x∈xs:=by rw[e];simp
  refine aq (by show(dz x&&(J2 s.pv&&lj (6-n) (6-n)))=true;rw[cm h1 hx,ub h3,cK.mpr rfl];rfl) ?_
  rw[aB] at j
  have q:Q (.p (.bl (xs.all (row n s)))) []:=q
  rw[j] at q
  exact gD (Q:=Q) q λc _=>⟨rfl,⟨_,rfl⟩,by rw[j,show row n s x=true from c];rfl⟩
 ·obtain⟨rfl,⟨v,rfl⟩,j⟩:=j
  have q:Q (.p (.bl (xs.all (row n s)))) []:=q
  rw[j] at q
  exact q
def VW:Nat->Ct
 |0=>E3
 |n+1=>FA n
theorem u0(B:LX ca W)(S:SX W)(n:Nat)(D26:DX ca W 26 (3*n+10) (VW n)):DX ca W 25 (3*n+11) (Kz n):=by
 refine B.e (k:=3*n+9) 4 true [(0,je wD),(2,Kv gS),(26,VW n)] [] (.seq (.iff (.bo (Wm.oc (.cmp vR (.v 2) (.g 9)) (Wm.o1 (.not (.val (.cl 0 [] (.cons (.v 0) .nil))))))) (.one (.ret (.c (.bl false)))) .nil)
 (.seq (.set 3 (.cl 2 [] (.cons (.ix (.v 0) (.c (.int 0))) .nil)))
 (.seq (.iff (.bo (Wm.oc (.isN false (.v 3)) (Wm.o1 (.cmp Kx (.bi dE (.cons (.v 0) .nil)) (.b2 dk (.c (.int 1)) (.bi dE (.cons (.v 3) .nil))))))) (.one (.ret (.c (.bl false)))) .nil)
 (.seq (.iff (.bo (Wm.ac (.cmp gN (.ix (.v 0) (.c (.int 0))) (.c (.str "return"))) (Wm.a1 (.not (.val (.fld 3 3 (.v 1))))))) (.one (.ret (.c (.bl false)))) .nil)
 (.seq (.iff (.not (.val (.bi F6 (.cons (.comp 2 [1,2] (.many [0,1]) (.z (.cons (.v 3) (.cons (.sl (.v 0) (.of (.c (.int 1))) .no) .nil))) .no (.cl 26 [] (.cons (.v 0) (.cons (.v 1) (.cons (.v 2) (.cons (.v 3) .nil)))))) .nil)))) (.one (.ret (.c (.bl false)))) .nil)
 (.one (.ret (.bo (Bm.oc (.cmp Kx (.ix (.v 0) (.c (.int 0))) (.c (.str "call"))) (Bm.o1 (.cmp gN (.bi dE (.cons (.ix (.v 0) (.c (.int 3))) .nil)) (.BN (.fld 3 2 (.v 1)) (.ix (.v 0) (.c (.int 2))))))))))))))) S.s54 rfl ⟨(sU B S).le (by lia),(xZ B S).le (by lia),D26,trivial⟩ trivial (U4 λx s d Q xc hp=>?_)
 obtain⟨h1,h3,h4⟩:=qQ hp
 cases n with
 |zero=>exact tK h4 λq=>q
 |succ n=>
  refine scC h3 λs h3=>tK h4 λq=>?_
  refine dC (λc=>absurd (dN.mp c) (by show ¬ ((5:Int)<6-(n+1:Nat));lia)) λ_=>aq h1 ?_
  revert q
  refine lV h1 id (λ_=>id) (λ_=>id) (λ_ _=>id) (λxs h1=>?_) (λ_ _=>id) (λ_ _ _=>id)
  cases xs with
  |nil=>exact id
  |cons a r=>
   refine lV (nq h1) id (λ_=>id) (λ_=>id) (λw _=>?_) (λ_ _=>id) (λ_ _=>id) (λ_ _ _=>id)
   refine λq=>AQ (λks e=>?_) (λe=>?_)
   ·have q:Q (.p (.bl (yH (eJ n s) s w r (some ks)))) []:=e▸q
    refine gD (Q:=Q) q λc q=>?_
    refine Br (Q:=Q) q λq=>?_
    refine gF (λy=>.bl (nA (eJ n s) s y)) rfl (λy hy=>?_) (se ?_)
    ·obtain⟨k,p,hk,hp,rfl⟩:=kY hy
     obtain⟨k,_,rfl⟩:=eh.mp hk
     refine λR q=>aq ?_ q
     show(dz p&&(J2 s.pv&&lj (6-(n+1:Nat)) (5-n)))=true
     rw[cm h1 (ax _ hp),ub h3,cK.mpr (by lia)];rfl
    refine gD (Q:=Q) q λc2 q2=>OB (Q:=Q) q2 λc3 q3=>?_
    have hw:w="call":=aZ.mp (not_not c3)
    subst hw
    have e:some (["box","function","values"]:lS7)=some ks:=e
    cases e
    have c:=cK.mp (show lj ((r.length+1:Nat):Int) (1+(3:Nat))=true from c)
    have hr:r.length=3:=by lia
    obtain⟨x,f,v,rfl⟩:∃x f v,r = [x,f,v]:=by
     rcases r with _|⟨x,_|⟨f,_|⟨v,_|⟨z,r⟩⟩⟩⟩<;>first|exact⟨_,_,_,rfl⟩|(simp at hr;done)
    obtain⟨_,cf,cv,_⟩:=jd c2
    have cf:(aE f&&(eV f s.ks s.us).isSome)=true:=cf
    have cv:(jl v&&(nh v).all (val 4 s.bs s.ls))=true:=cv
    obtain⟨cn,cf⟩:=ag cf
    obtain⟨u,hu⟩:=dH.mp cf
    obtain⟨f1,f2,f3,h3⟩:=jd h3
    have hi:=aj.mp (ag h3).1 u (wu hu)
    revert q3 hu
    refine jv (eW cn) λf=>N5 (ag cv).1 λv=>As hi λu q hu=>?_
    refine bK hu ?_
    have q:Q (.p (.bl (match eV (.str f) s.ks s.us with|some c=>lj (v.length:Nat) (ym c)|none=>false))) []:=q
    rw[hu] at q
    exact q
   ·have q:Q (.p (.bl (yH (eJ n s) s w r none))) []:=e▸q
    exact q
theorem xX(B:LX ca W)(S:SX W)(D9:DX ca W 9 12 vU):∀n,DX ca W 25 (3*n+11) (Kz n)
 |0=>u0 B S 0 (Dt.no S.s55)
 |n+1=>u0 B S (n+1) (zR B S D9 n (sT B S n (xX B S D9 n)))
def nz:Pv->Bool
 |.tup [k,_]=>aR (jG k) "rows"
 |_=>false
def A5:Pv->Pv
 |.tup [_,p]=>p
 |_=>.non
def nN(r:List Pv):Option (lS7)->List Pv
 |some ks=>((fh (ks.map .str) r).filter nz).map A5
 |none=> []
def lZ:Pv->List Pv
 |.tup (.str w::r)=>nN r (lk w gS)
 |_=> []
def tm:Pv->Bool
 |.tup (.str w::_)=>(lk w gS).isSome
 |_=>false
abbrev Fz:Ct:=UZ tm λx=>.lst (lZ x)
def gY:Nat->Pv->Bool
 |0,_=>false
 |n+1,x=>tm x&&(lZ x).all (cY (gY n))
def dF(f:Pv->Nat):List Pv->Nat
 | []=>0
 |x::r=>f x+dF f r
def xq(f:Pv->Nat):Pv->Nat
 |.tup xs=>dF f xs
 |_=>0
def dD:Nat->Pv->Nat
 |0,_=>0
 |n+1,x=>1+dF (xq (dD n)) (lZ x)
def kE(n:Nat):Pv->Nat:=xq (dD n)
theorem fJ{f:Pv->Nat}:∀{l r:List Pv},dF f (l++r)=dF f l+dF f r
 | [],r=>by show dF f r=0+dF f r;lia
 |x::l,r=>by
  show f x+dF f (l++r)=f x+dF f l+dF f r
  rw[fJ];lia
def zC(n:Nat):Ct:=λds h Q _=>rC ds λi r=>pC r λx r=>pC r λ_ r=>nC r (aC h λts g=>nC g (gd (Nat.beq i 0&&(cY (gY n) x&&Nat.ble (ts.length+kE n x) uB)) (∀Jx:List Pv,Jx.length=ts.length+kE n x->Q (.p .non) [.lst Jx])))
theorem ι{m:Nat}{b:Ss}(H:∀xs a ts (Q:Dv->Hs->Prop) (xc:XP),xs.all (gY m)=true->ts.length+kE m (.tup xs)<=uB->(∀Jx:List Pv,Jx.length=ts.length+kE m (.tup xs)->Q (.p .non) [.lst Jx])->b (eE true 1 Q xc) (j5 n [.r 0,.p (.tup xs),.p a]) [.lst ts]):∀ds h Q xc,zC m ds h Q xc->ds.length=3/\b (eE true h.length Q xc) (j5 n ds) h:=by
 intro ds h Q xc c
 unfold zC at c
 refine nX c λi _ c=>f7 c λx _ c=>f7 c λ_ _ c=>eI c λc=>D_ c λts _ c=>eI c λc=>?_
 obtain⟨h1,c⟩:=bt c
 obtain⟨h2,h3,h1⟩:=qQ h1
 rw[ao h2]
 refine⟨rfl,?_⟩
 revert c h1
 refine iT h3 λxs h3 c h1=>?_
 exact H xs _ _ Q xc h3 (ble_iff.mp h1) c
theorem sW(B:LX ca W)(S:SX W):DX ca W 3 2 Fz:=by
 refine B.e (k:=0) 1 true [] [] (.one (.ret (.comp 2 [] (.many [0,1]) (.z (.cons (.ti 1 (.ix (.v 0) (.c (.int 0)))) (.cons (.sl (.v 0) (.of (.c (.int 1))) .no) .nil))) (.one (.cmp gN (.v 0) (.c (.str "rows")))) (.v 1)))) S.s17 rfl trivial trivial (tF λx Q xc hd=>?_)
 unfold tm at hd
 split at hd
 ·rename_i w r
  obtain⟨ks,e⟩:=dH.mp hd
  intro q
  have q:Q (.p (.lst (nN r (lk w gS)))) []:=q
  rw[e] at q
  refine bK e (we nz A5 rfl (λy hy=>?_) q)
  obtain⟨k,p,hk,hp,rfl⟩:=kY hy
  obtain⟨k,_,rfl⟩:=eh.mp hk
  exact⟨λR q=>q,λ_ R q=>q⟩
 ·cases hd
def cAm:Nat->Ct
 |0=>E3
 |n+1=>zC n
theorem FL(B:LX ca W)(S:SX W)(n:Nat)(D5:DX ca W 5 (n+2) (cAm n)):DX ca W 5 (n+3) (zC n):=by
 refine B.e (k:=n+1) 6 true [(3,Fz),(5,cAm n)] [] (.one (.fo (.one 3) (.s (.v 1)) (.seq (.set 4 (.bi dE (.cons (.v 0) .nil)))
 (.seq (.ex (.mt uM (.v 0) (.cons (.tup (.cons (.v 4) (.cons (.v 3) (.cons (.v 2) .nil)))) .nil)))
 (.one (.fo (.one 5) (.s (.cl 3 [] (.cons (.v 3) .nil))) (.one (.ex (.cl 5 [0] (.cons (.v 0) (.cons (.v 5) (.cons (.v 4) .nil)))))))))))) S.s21 rfl ⟨(sW B S).le (by lia),D5,trivial⟩ trivial (ι λxs a ts Q xc h1 h2 q=>?_)
 have h2:ts.length+dF (dD n) xs<=uB:=h2
 refine fk (λpre post σ h=>(∃Jx,h = [.lst Jx]/\Jx.length=ts.length+dF (dD n) pre)/\∃v3 v4 v5,σ = [some (.r 0),some (.p (.tup xs)),some (.p a),v3,v4,v5]) ⟨⟨ts,rfl,rfl⟩,_,_,_,rfl⟩ (λpre x post σ h e j=>?_) (λσ h j=>?_)
 ·obtain⟨⟨ts1,rfl,l1⟩,v3,v4,v5,rfl⟩:=j
  have hx:x∈xs:=by rw[e];simp
  have ok0:=aj.mp h1 x hx
  cases n with
  |zero=>exact nU ok0
  |succ n=>
   have ok:(tm x&&(lZ x).all (cY (gY n)))=true:=ok0
   obtain⟨ok1,ok2⟩:=ag ok
   rw[e,fJ] at h2
   have h2:ts.length+(dF (dD (n+1)) pre+(dD (n+1) x+dF (dD (n+1)) post))<=uB:=h2
   have hc:dD (n+1) x=1+dF (xq (dD n)) (lZ x):=rfl
   refine aq (lK (by lia)) ?_
   refine aq ok1 ?_
   refine fk (λlI tW σ h=>(∃Jx,h = [.lst Jx]/\Jx.length=ts1.length+1+dF (xq (dD n)) lI)/\∃v5,σ = [some (.r 0),some (.p (.tup xs)),some (.p a),some (.p x),some (.p (.int (ts1.length:Nat))),v5]) ⟨⟨_,rfl,by rw[ai];rfl⟩,_,rfl⟩ (λlI y tW σ h e2 j=>?_) (λσ h j=>?_)
   ·obtain⟨⟨ts2,rfl,l2⟩,v5,rfl⟩:=j
    have hy:y∈lZ x:=by rw[e2];simp
    have oky:=aj.mp ok2 y hy
    rw[e2,fJ] at hc
    have hc:dD (n+1) x=1+(dF (xq (dD n)) lI+(kE n y+dF (xq (dD n)) tW)):=hc
    refine aq (by show(cY (gY n) y&&Nat.ble (ts2.length+kE n y) uB)=true;rw[oky,ble_iff.mpr (by lia)];rfl) λYK l3=>?_
    refine⟨⟨YK,rfl,?_⟩,_,rfl⟩
    rw[fJ,l3,l2]
    show _=_+(_+(kE n y+0))
    lia
   ·obtain⟨⟨ts2,rfl,l2⟩,v5,rfl⟩:=j
    refine⟨⟨ts2,rfl,?_⟩,_,_,_,rfl⟩
    rw[fJ,l2,l1]
    show _=_+(_+(dD (n+1) x+0))
    lia
 ·obtain⟨⟨ts1,rfl,l1⟩,v3,v4,v5,rfl⟩:=j
  exact q _ l1
theorem sS(B:LX ca W)(S:SX W):∀n,DX ca W 5 (n+3) (zC n)
 |0=>FL B S 0 (Dt.no S.s21)
 |n+1=>FL B S (n+1) (sS B S n)
theorem BM{k:Str}:∀{ks:List Pv},ks.all isStr=true->iu k (gT ks)=false->ya (.str k) ks=false
 | [],_,_=>rfl
 |x::r,h,n=>by
  rw[aB] at h
  obtain⟨h1,h2⟩:=ag h
  revert n
  refine jv h1 λz n=>?_
  have n:(aR k z||iu k (gT r))=false:=n
  obtain⟨n1,n2⟩:=h_.mp n
  show(aR z k||ya (.str k) r)=false
  rw[BM h2 n2,xB]
  exact bG.mpr λe=>by rw[aZ.mpr (aZ.mp e).symm] at n1;cases n1
theorem yj{k:Str}:∀{a b:lS7},iu k (a++b)=(iu k a||iu k b)
 | [],_=>rfl
 |x::r,b=>by
  show(aR k x||iu k (r++b))=((aR k x||iu k r)||iu k b)
  rw[yj,Bool.or_assoc]
theorem oR:∀{ks us ks' us':List Pv},ks.length=us.length->ks.all isStr=true->ks'.all isStr=true->zd (gT ks)=true->(∀x∈gT ks,iu x (gT ks')=false)->ff ks us (ks',us')=(ks'++ks,us'++us)
 | [],[],ks',us',_,_,_,_,_=>by rw[bS,bS];rfl
 | [],_::_,_,_,h,_,_,_,_=>by cases h
 |_::_,[],_,_,h,_,_,_,_=>by cases h
 |k::ks,u::us,ks',us',hl,h1,h2,h3,h4=>by
  rw[aB] at h1
  obtain⟨g1,g2⟩:=ag h1
  revert h3 h4
  refine jv g1 λz h3 h4=>?_
  have h3:(!iu z (gT ks)&&zd (gT ks))=true:=h3
  obtain⟨n1,n2⟩:=ag h3
  have h5:=BM h2 (h4 z aL)
  show ff ks us (gj (.str z) ks',jh (.str z) u ks' us')=_
  have e1:gj (.str z) ks'=ks' ++ [.str z]:=by unfold gj;rw[h5]
  have e2:jh (.str z) u ks' us'=us' ++ [u]:=by unfold jh;rw[h5]
  rw[e1,e2,oR (ks:=ks) (us:=us) (by simpa using hl) g2 (by rw[bA,h2];rfl) n2 (λx hx=>?_)]
  ·simp
  ·have:gT (ks' ++ [Pv.str z])=gT ks' ++ [z]:=by unfold gT;rw[bR];rfl
   rw[this,yj,h4 x (ax _ hx)]
   show(aR x z||false)=false
   rw[xB]
   exact bG.mpr λe=>by
    have:=aZ.mp e
    rw[<-this] at n1
    rw[oY hx] at n1;cases n1
def jR(f:Pv):Pv:=.int ((nh (Fn (nh f) 1)).length:Nat)
def pk(f:Pv):Pv:=.tup [bC f,jR f]
theorem Cr:∀{fs:List Pv},(fs.map bC).all isStr=true->qH (fs.map pk)=some (fs.map bC,fs.map jR)
 | [],_=>rfl
 |x::r,h=>by
  rw[aP,aB] at h
  obtain⟨h1,h2⟩:=ag h
  show(match lH (bC x),qH (r.map pk) with|some _,some (ks,vs)=>some (bC x::ks,jR x::vs)|_,_=>none)=_
  rw[Cr h2]
  have:lH (bC x)=some (.inr (jG (bC x))):=jv h1 λz=>rfl
  rw[this];rfl
@[elab_as_elim] theorem dB {m:Int} (h:eg m g a=true) (k:∀xs,(xs.length:Int)<=m->xs.all g=true->P (.tup xs)):P a:=by
 cases a<;>first|(cases h;done)|skip
 exact k _ (bN.mp (ag h).1) (ag h).2
def O4(x:Pv):Bool:=wC x&&isStr (bC x)
theorem rN(h:ef x=true):O4 x=true:=by
 unfold ef at h
 split at h
 ·exact(eW (ag h).1:isStr _=true)
 ·cases h
theorem o9(h:isList x=true):O4 x=true:=by
 unfold isList at h
 split at h
 ·exact(eW (ag h).1:isStr _=true)
 ·cases h
theorem wX(h:cO x=true):O4 x=true:=by
 unfold cO at h
 split at h
 ·exact(eW (ag h).1:isStr _=true)
 ·cases h
theorem bU(i:∀x,f x=true->g x=true)(h:xs.all f=true):xs.all g=true:=aj.mpr λx hx=>i x (aj.mp h x hx)
theorem gH(h:xs.all O4=true):xs.all wC=true:=bU (λ_ h=>(ag h).1) h
theorem fI(h:xs.all O4=true):(xs.map bC).all isStr=true:=by
 rw[gZ]
 exact bU (λ_ h=>(ag h).2) h
theorem mM:∀{l:List Pv},l.all isStr=true->eY l=true
 | [],_=>rfl
 |x::r,h=>by
  rw[aB] at h
  obtain⟨h1,h2⟩:=ag h
  show(sZ x&&eY r)=true
  rw[mM h2]
  exact jv h1 λ_=>rfl
theorem rK(h:cO x=true):Ah x=true/\(hZ x).all isStr=true/\(hZ x).length<=6:=by
 unfold cO at h
 split at h
 ·rename_i a b c d
  obtain⟨_,h1,h2,h⟩:=jd h
  refine dB h1 λb l1 b1=>dB h2 λc l2 c1=>?_
  refine⟨ble_iff.mpr (aA (show b.length+c.length<=6 by lia) (by decide)),?_,?_⟩
  ·show(b++c).all isStr=true
   rw[bA,bU (λ_=>eW) b1,bU (λ_=>eW) c1];rfl
  ·show(b++c).length<=6
   rw[ai];lia
 ·cases h
def mi(g:Pv):Pv:=Fn (nh g) 3
@[elab_as_elim] theorem wA (h:cO x=true) (k:∀a b c d,(b.length:Int)<=3->P (.tup [a,.tup b,.tup c,d])):P x:=by
 unfold cO at h
 split at h
 ·rename_i a b c d
  obtain⟨_,h1,h2,h⟩:=jd h
  exact dB h1 λb l1 b1=>dB h2 λc l2 c1=>k a b c d l1
 ·cases h
def kW(b l:Pv):Bool:=eg 6 ef b&&(eg 3 isList l&&jO (d9 b++d9 l))
def jS(t:List Pv)(f:Pv):Bool:=eg 4 cO f&&(jO (d9 f)&&(nh f).all λg=>jO (t++hZ g))
def jV(b l f:Pv)(o:List Pv)(rt:Bool):Sc:=⟨d9 b++o,d9 l,d9 f,(nh f).map jR,rt⟩
def kQ(b l f r:Pv):Bool:=((nh f).all λg=>eJ 5 (jV b l f (hZ g) true) (mi g))&&eJ 5 (jV b l f [] false) r
def jH(g:Pv):Nat:=1+kE 5 (mi g)
def ko(f r:Pv):Nat:=dF jH (nh f)+kE 5 r
theorem j9{a:Bool}{X:Prop}(q:br (a&&b) Y Z)(k:a=true->br b Y Z->X):br (!a) Z X:=by
 cases a with
 |true=>exact k rfl q
 |false=>exact q
theorem Bs{a:Bool}(q:br a Y Z):br (!a) Z Y:=by
 cases a<;>exact q
def vE(c:Bool)(n:Nat)(o:Option Nat):Option Nat:=match c with
 |true=>o
 |false=>some n
theorem Bh(q:l9 (vE c n o) X K)(k:c=true->l9 o X K->Y):br c Y (X n):=by
 cases c with
 |true=>exact k rfl q
 |false=>exact q
theorem UC(q:l9 (vE (!c) n o) X K)(k:l9 o X K->Y):br c (X n) Y:=by
 cases c with
 |true=>exact q
 |false=>exact k q
def iz(b l f r:Pv):Option Nat:=vE (kW b l) 0 (vE (jS (d9 b++d9 l) f) 0 (vE (jl r) 0 (vE (kQ b l f r) 1 (vE (!qm 60 (ko f r:Nat)) 2 none))))
abbrev FC:Ct:=U0 (λb l=>dz b&&dz l) λb l K X=>br (kW b l) (K .non) (X 0)
def Xs:Pv->Bool
 |.lst l=>l.all isStr&&Nat.ble l.length 9
 |_=>false
@[elab_as_elim] theorem aaN (h:Xs x=true) (k:∀l,l.all isStr=true->l.length<=9->P (.lst l)):P x:=by
 cases x<;>first|(cases h;done)|skip
 exact k _ (ag h).1 (ble_iff.mp (ag h).2)
abbrev Fw:Ct:=U0 (λf t=>dz f&&Xs t) λf t K X=>br (jS (mZ t) f) (K .non) (X 0)
theorem Vg{l:List Pv}(h1:l.all isStr=true)(h2:l.length<=60):YM (.lst l)=true:=by
 show(l.all isStr&&Nat.ble l.length 60)=true
 rw[h1,ble_iff.mpr h2];rfl
theorem oQ(B:LX ca W)(S:SX W)(Qb:DX ca W 16 6 (sA [(18,ef),(19,isList)]))(Y9:DX ca W 18 4 (je ef))(Za:DX ca W 19 5 (je isList)):DX ca W 13 7 FC:=by
 refine B.e (k:=5) 2 true [(16,sA [(18,ef),(19,isList)]),(21,so),(23,my),(18,je ef),(19,je isList)] [] (.seq (.iff (.not (.val (.cl 16 [] (.cons (.v 0) (.cons (.g 4) (.cons (.f 18) .nil)))))) (.one (.raise 0 (.c (.str "boxes are a tuple of 0 to 6 pairs of a name and a number")))) .nil)
 (.seq (.iff (.not (.val (.cl 16 [] (.cons (.v 1) (.cons (.g 5) (.cons (.f 19) .nil)))))) (.one (.raise 0 (.c (.str "lists are a tuple of 0 to 3 pairs of a name and a tuple of 0 to 12 numbers")))) .nil)
 (.one (.iff (.not (.val (.cl 23 [] (.cons (.b2 dk (.cl 21 [] (.cons (.v 0) .nil)) (.cl 21 [] (.cons (.v 1) .nil))) .nil)))) (.one (.raise 0 (.c (.str "two boxes or lists have one name")))) .nil)))) S.s42 rfl ⟨Qb,(kF B S).up rfl,(oO B S).up rfl,Y9.up rfl,Za.up rfl,trivial⟩ trivial (Wu λb l Q xc hp c=>?_)
 obtain⟨h1,h2⟩:=ag hp
 have c:br (kW b l) (Q (.p .non) []) (xc 0 []):=c
 refine aq (by show(dz b&&true)=true;rw[h1];rfl) (j9 (a:=eg 6 ef b) (Z:=xc 0 []) c λc1 c=>?_)
 refine aq (by show(dz l&&true)=true;rw[h2];rfl) (j9 (a:=eg 3 isList l) (Z:=xc 0 []) c λc2 c=>?_)
 revert c
 refine dB c1 λb l1 b1=>dB c2 λl l2 b2 c=>?_
 have n1:=bU (λ_=>rN) b1
 have n2:=bU (λ_=>o9) b2
 have ln:(b.map bC++l.map bC).length<=9:=by rw[ai,ah,ah];lia
 refine aq (gH n1) (aq (gH n2) (aq (lK (aA (by rw[ai] at ln;exact ln) (by decide))) (aq (Vg (l:=b.map bC++l.map bC) (by rw[bA,fI n1,fI n2];rfl) (by lia)) ?_)))
 exact Bs c
theorem oP(B:LX ca W)(S:SX W)(Qb:DX ca W 16 5 (jQ 20 cO))(Zb:DX ca W 20 4 (je cO)):DX ca W 14 6 Fw:=by
 refine B.e (k:=4) 3 true [(16,jQ 20 cO),(21,so),(22,QC),(23,my),(20,je cO)] [] (.seq (.iff (.not (.val (.cl 16 [] (.cons (.v 0) (.cons (.g 7) (.cons (.f 20) .nil)))))) (.one (.raise 0 (.c (.str "functions are a tuple of 0 to 4 tuples of a name, params, owns and rows")))) .nil)
 (.seq (.iff (.not (.val (.cl 23 [] (.cons (.cl 21 [] (.cons (.v 0) .nil)) .nil)))) (.one (.raise 0 (.c (.str "two functions have one name")))) .nil)
 (.one (.fo (.one 2) (.s (.v 0)) (.one (.iff (.not (.val (.cl 23 [] (.cons (.b2 dk (.v 1) (.cl 22 [] (.cons (.v 2) .nil))) .nil)))) (.one (.raise 0 (.c (.str "a param or an own has another one's name, or a box's or a list's")))) .nil)))))) S.s43 rfl ⟨Qb,(kF B S).up rfl,(qy B S).up rfl,(oO B S).up rfl,Zb.up rfl,trivial⟩ trivial (Wu λf t Q xc hp c=>?_)
 obtain⟨h1,h2⟩:=ag hp
 have c:br (jS (mZ t) f) (Q (.p .non) []) (xc 0 []):=c
 revert c
 refine aaN h2 λt t1 t2 c=>?_
 refine aq (by show(dz f&&true)=true;rw[h1];rfl) (j9 (a:=eg 4 cO f) (Z:=xc 0 []) c λc1 c=>?_)
 revert c
 refine dB c1 λf l1 b1 c=>?_
 have n1:=bU (λ_=>wX) b1
 refine aq (gH n1) (aq (Vg (l:=f.map bC) (fI n1) (by rw[ah];lia)) (j9 (a:=jO (f.map bC)) (Z:=xc 0 []) c λc2 c=>?_))
 refine fk (λpre post σ h=>h = []/\(∃v,σ = [some (.p (.tup f)),some (.p (.lst t)),v])/\br (post.all λg=>jO (t++hZ g)) (Q (.p .non) []) (xc 0 [])) ⟨rfl,⟨_,rfl⟩,c⟩ (λpre x post σ h e j=>?_) (λσ h j=>?_)
 ·obtain⟨rfl,⟨v,rfl⟩,j⟩:=j
  obtain⟨o1,o2,o3⟩:=rK (aj.mp b1 x (by rw[e];simp))
  refine aq o1 (aq (lK (aA (show t.length+(hZ x).length<=15 by lia) (by decide))) (aq (Vg (by rw[bA,t1,o2];rfl) (by rw[ai];lia)) ?_))
  rw[aB] at j
  exact j9 (a:=jO (t++hZ x)) (Z:=xc 0 []) j λ_ j=>⟨rfl,⟨_,rfl⟩,j⟩
 ·obtain⟨rfl,⟨v,rfl⟩,j⟩:=j
  exact j
theorem Bj{f:Pv->Bool}{g:Pv->Bool}(i:∀k p,f (.tup [.str k,p])=true->aR k "rows"=true->g p=true):∀{ks:lS7}{r:List Pv},(fh (ks.map .str) r).all f=true->(((fh (ks.map .str) r).filter nz).map A5).all g=true
 | [],_,_=>rfl
 |_::_,[],_=>rfl
 |k::ks,p::r,h=>by
  have h:(f (.tup [.str k,p])&&(fh (ks.map .str) r).all f)=true:=h
  obtain⟨h1,h2⟩:=ag h
  show(((Pv.tup [.str k,p]::fh (ks.map .str) r).filter nz).map A5).all g=true
  cases e:aR k "rows" with
  |true=>
   rw[fD (show nz (.tup [.str k,p])=true from e)]
   show(g p&&_)=true
   rw[i k p h1 e];exact Bj i h2
  |false=>
   rw[fC (by show ¬aR k "rows"=true;rw[e];exact aH)]
   exact Bj i h2
theorem mh(h:row (n+1) s x=true):∃w r,x=.tup (.str w::r)/\yH (cY (row n s)) s w r (lk w gS)=true:=by
 cases x with
 |tup xs=>cases xs with
  |nil=>exact nU h
  |cons a r=>cases a with
   |str w=>exact⟨w,r,rfl,h⟩
   |_=>exact nU h
 |_=>exact nU h
theorem A2{s:Sc}:∀{n:Nat}{x:Pv},row n s x=true->gY n x=true
 |0,_,h=>by cases h
 |n+1,x,h=>by
  obtain⟨w,r,e0,h⟩:=mh h
  rw[e0]
  show((lk w gS).isSome&&(nN r (lk w gS)).all (cY (gY n)))=true
  cases e:lk w gS with
  |none=>rw[e] at h;cases h
  |some ks=>
   rw[e] at h
   obtain⟨_,_,h,_⟩:=jd h
   refine Bj (λk p hp hk=>?_) h
   have hp:fX (cY (row n s)) s k p=true:=hp
   unfold fX at hp
   rw[hk] at hp
   exact iT hp λxs hx=>bU (λy hy=>A2 hy) hx
theorem CF(h:eJ n s x=true):cY (gY n) x=true:=iT h λxs hx=>bU (λy hy=>A2 hy) hx
theorem Ji{f:Pv->Nat}(i:∀x,f x<=cU x):∀xs,dF f xs<=cE xs
 | []=>au _
 |x::r=>Ka (i x) (Ji i r)
theorem JO{f:Pv->Nat}(i:∀x,f x<=cU x):∀(ks:lS7) (r:List Pv),dF f (((fh (ks.map .str) r).filter nz).map A5)<=cE r
 | [],_=>cI _
 |_::_,[]=>au _
 |k::ks,p::r=>by
  show dF f (((Pv.tup [.str k,p]::fh (ks.map .str) r).filter nz).map A5)<=cU p+cE r
  have h1:=JO i ks r
  have h2:=i p
  cases e:aR k "rows" with
  |true=>
   rw[fD (show nz (.tup [.str k,p])=true from e)]
   show f p+_<=_
   lia
  |false=>
   rw[fC (by show ¬aR k "rows"=true;rw[e];exact aH)]
   lia
theorem CP{f:Pv->Nat}(i:∀x,f x<=cU x)(x:Pv):xq f x<=cU x:=by
 cases x with
 |tup xs=>
  have:=Ji i xs
  show dF f xs<=1+cE xs
  lia
 |_=>exact cI _
theorem GA{f:Pv->Nat}(i:∀x,f x<=cU x)(x:Pv):1+dF f (lZ x)<=cU x:=by
 have h0:=CL x
 unfold lZ
 split
 ·rename_i w r
  show 1+dF f (nN r (lk w gS))<=1+(cU (.str w)+cE r)
  cases lk w gS with
  |none=>show 1+0<=_;lia
  |some ks=>
   have h1:dF f (nN r (some ks))<=cE r:=JO i ks r
   lia
 ·show 1+0<=_;lia
theorem BC:∀(n:Nat) (x:Pv),dD n x<=cU x
 |0,_=>cI _
 |n+1,x=>GA (CP (BC n)) x
theorem FK(n:Nat)(x:Pv):kE n x<=cU x:=CP (BC n) x
theorem N3{g:Pv}(h:cO g=true):jH g<=cU g:=by
 refine wA h λa b c d _=>?_
 have:=FK 5 d
 show 1+kE 5 d<=1+(cU a+(cU (.tup b)+(cU (.tup c)+(cU d+0))))
 lia
theorem CQ{f:Pv->Nat}{g:Pv->Bool}(i:∀x,g x=true->f x<=cU x):∀{xs:List Pv},xs.all g=true->dF f xs<=cE xs
 | [],_=>au _
 |x::r,h=>by
  rw[aB] at h
  exact Ka (i x (ag h).1) (CQ i (ag h).2)
def yg(g:Pv):Bool:=cO g&&cY (gY 5) (mi g)
def prB:Pv->Bool
 |.tup [_,_,f,r]=>jl f&&((nh f).all yg&&(cY (gY 5) r&&Nat.ble (ko f r) uB))
 |_=>false
def abC:Pv->Nat
 |.tup [_,_,f,r]=>ko f r
 |_=>0
@[elab_as_elim] theorem prC (h:prB x=true) (k:∀b l f r,f.all yg=true->cY (gY 5) r=true->dF jH f+kE 5 r<=uB->P (.tup [b,l,.tup f,r])):P x:=by
 unfold prB at h
 split at h
 ·obtain⟨h1,h2,h3,h4⟩:=jd h
  revert h2 h4
  exact N5 h1 λf h2 h4=>k _ _ f _ h2 h3 (ble_iff.mp h4)
 ·cases h
abbrev vT:Ct:=Zj prB λx K=>∀ts:List Pv,ts.length=abC x->K (.lst ts)
def QG:Pv->Bool
 |.tup [b,l,f,r]=>dz (.tup [b,l,f,r])&&(kW b l&&(jS (d9 b++d9 l) f&&jl r))
 |_=>false
def Ny:Pv->Bool
 |.tup [b,l,f,r]=>kQ b l f r
 |_=>false
@[elab_as_elim] theorem T_ (h:QG x=true) (k:∀b l f r,dz (.tup [b,l,f,r])=true->kW b l=true->jS (d9 b++d9 l) f=true->jl r=true->P (.tup [b,l,f,r])):P x:=by
 unfold QG at h
 split at h
 ·obtain⟨h1,h2,h3,h4⟩:=jd h
  exact k _ _ _ _ h1 h2 h3 h4
 ·cases h
abbrev Qz:Ct:=QD QG λx K X=>br (Ny x) (K .non) (X 1)
abbrev OE:Ct:=Zk (λb l f r=>dz (.tup [b,l,f,r])) λb l f r K X=>l9 (iz b l f r) X (K (.tup [b,l,f,r]))
theorem Px{b l f o:List Pv}{rt:Bool}(n1:b.all O4=true)(n2:l.all O4=true)(n3:f.all O4=true)(h:o.all isStr=true):(jV (.tup b) (.tup l) (.tup f) o rt).ok=true:=by
 show(eY (b.map bC++o)&&(eY (l.map bC)&&((f.map bC).all isStr&&((f.map jR).all isInt&&Nat.beq (f.map bC).length (f.map jR).length))))=true
 rw[mM (by rw[bA,fI n1,h];rfl),mM (fI n2),fI n3,show(f.map jR).all isInt=true by rw[gZ];exact aj.mpr λ_ _=>rfl,ah,ah,lP];rfl
theorem DF(B:LX ca W)(S:SX W)(D5:DX ca W 5 8 (zC 5)):DX ca W 4 9 vT:=by
 refine B.e (k:=7) 4 true [(5,zC 5)] [] (.seq (.set 1 (.R4 .nil))
 (.seq (.fo (.one 2) (.s (.ix (.v 0) (.c (.int 2)))) (.seq (.set 3 (.bi dE (.cons (.v 1) .nil)))
 (.seq (.ex (.mt uM (.v 1) (.cons (.tup (.cons (.v 3) (.cons (.tup (.cons (.c (.str "def")) (.cons (.ix (.v 2) (.c (.int 0))) .nil))) (.cons (.g 3) .nil)))) .nil)))
 (.one (.ex (.cl 5 [0] (.cons (.v 1) (.cons (.ix (.v 2) (.c (.int 3))) (.cons (.v 3) .nil)))))))))
 (.seq (.ex (.cl 5 [0] (.cons (.v 1) (.cons (.ix (.v 0) (.c (.int 3))) (.cons (.g 3) .nil)))))
 (.one (.ret (.v 1)))))) S.s20 rfl ⟨D5,trivial⟩ trivial (tF λx Q xc hp=>?_)
 refine prC hp λb l f r h1 h2 h3 q=>?_
 have q:∀ts:List Pv,ts.length=dF jH f+kE 5 r->Q (.p (.lst ts)) []:=q
 refine fk (λpre post σ h=>(∃ts,h = [.lst ts]/\ts.length=dF jH pre)/\∃v2 v3,σ = [some (.p (.tup [b,l,.tup f,r])),some (.r 0),v2,v3]) ⟨⟨[],rfl,rfl⟩,_,_,rfl⟩ (λpre x post σ h e j=>?_) (λσ h j=>?_)
 ·obtain⟨⟨ts,rfl,l1⟩,v2,v3,rfl⟩:=j
  obtain⟨g1,g2⟩:=ag (aj.mp h1 x (by rw[e];simp):yg x=true)
  rw[e,fJ] at h3
  have h3:dF jH pre+(1+kE 5 (mi x)+dF jH post)+kE 5 r<=uB:=h3
  revert g2 h3
  refine wA g1 λa b' c d _ g2 h3=>?_
  have h3:dF jH pre+(1+kE 5 d+dF jH post)+kE 5 r<=uB:=h3
  have ht:jH (.tup [a,.tup b',.tup c,d])=1+kE 5 d:=rfl
  refine aq (lK (by lia)) ?_
  refine aq (by show(cY (gY 5) d&&Nat.ble ((ts ++ [_]).length+kE 5 d) uB)=true;rw[show cY (gY 5) d=true from g2,ai,ble_iff.mpr (by show ts.length+1+kE 5 d<=uB;lia)];rfl) λYK l3=>?_
  refine⟨⟨YK,rfl,?_⟩,_,_,rfl⟩
  rw[ai] at l3
  rw[fJ,l3,l1]
  show _+1+_=_+(jH (.tup [a,.tup b',.tup c,d])+0)
  lia
 ·obtain⟨⟨ts,rfl,l1⟩,v2,v3,rfl⟩:=j
  refine aq (by show(cY (gY 5) r&&Nat.ble (ts.length+kE 5 r) uB)=true;rw[h2,ble_iff.mpr (by lia)];rfl) λYK l3=>?_
  exact q YK (by rw[l3,l1])
theorem K3(B:LX ca W)(Sr:xI W.K (ca 3) "Scope.__init__" (B1 (fw 40) 0) ["self","boxes","lists","param_counts","may_return"])(hx:W.mg "Scope"=some (.ref (ca 3))):Di (Lx ca) W 3 2:=by
 refine Lk.zc (c:=3) (k:=0) ["self","boxes","lists","param_counts","may_return"] ["self","boxes","lists","param_counts","may_return"] true [] [] B (.seq (.Lh 3 0 (.v 1) (.v 0))
 (.seq (.Lh 3 1 (.v 2) (.v 0))
 (.seq (.Lh 3 2 (.v 3) (.v 0))
 (.one (.Lh 3 3 (.v 4) (.v 0)))))) Sr hx rfl trivial trivial λds h Q xc c=>?_
 change Rx 3 ds h Q xc at c
 unfold Rx at c
 refine nX c λi _ c=>f7 c λ_ _ c=>f7 c λ_ _ c=>f7 c λ_ _ c=>f7 c λ_ _ c=>eI c λc=>aaA c λj _ c=>eI c λc=>?_
 obtain⟨h1,c⟩:=bt c
 obtain⟨h1,h2⟩:=ag h1
 rw[ao h1,ao h2]
 exact⟨rfl,c⟩
theorem wm(B:LX ca W)(S:SX W)(Vx:DX ca W 24 27 (xR 5))(I3:Di (Lx ca) W 3 2):DX ca W 15 28 Qz:=by
 refine B.eN (k:=26) ["program","boxes","lists","functions","rows","param_counts","function","scope"] true [(21,so),(22,QC),(24,xR 5)] [3] (.seq (.unp [1,2,3,4] (.v 0))
 (.seq (.set 5 (.bi QY (.cons (.comp 1 [] (.one 0) (.s (.v 3)) .no (.tup (.cons (.ix (.v 0) (.c (.int 0))) (.cons (.bi dE (.cons (.ix (.v 0) (.c (.int 1))) .nil)) .nil)))) .nil)))
 (.seq (.fo (.one 6) (.s (.v 3)) (.seq (.set 7 (.new 3 (.cons (.b2 dk (.cl 21 [] (.cons (.v 1) .nil)) (.cl 22 [] (.cons (.v 6) .nil))) (.cons (.cl 21 [] (.cons (.v 2) .nil)) (.cons (.v 5) (.cons (.c (.bl true)) .nil))))))
 (.one (.iff (.not (.val (.cl 24 [] (.cons (.ix (.v 6) (.c (.int 3))) (.cons (.v 7) (.cons (.c (.int 1)) .nil)))))) (.one (.raise 1 (.c (.str "a row of a function is none")))) .nil))))
 (.one (.iff (.not (.val (.cl 24 [] (.cons (.v 4) (.cons (.new 3 (.cons (.cl 21 [] (.cons (.v 1) .nil)) (.cons (.cl 21 [] (.cons (.v 2) .nil)) (.cons (.v 5) (.cons (.c (.bl false)) .nil))))) (.cons (.c (.int 1)) .nil)))))) (.one (.raise 1 (.c (.str "a row of the program is none")))) .nil))))) S.s44 rfl ⟨(kF B S).up rfl,(qy B S).up rfl,Vx,trivial⟩ ⟨I3.le (by lia),trivial⟩ (tF λp Q xc hp c=>?_)
 revert c
 refine T_ hp λb l f r hd h1 h2 h3 c=>?_
 have d1:dz f=true:=cm hd (by simp)
 have d2:dz r=true:=cm hd (by simp)
 obtain⟨v1,v2,_⟩:=qQ h1
 obtain⟨f1,f2,h2⟩:=qQ h2
 have c:br (kQ b l f r) (Q (.p .non) []) (xc 1 []):=c
 revert c f2 h2 d1
 refine dB v1 λb lb ab=>dB v2 λl ll al=>dB f1 λf lf af d1 f2 h2 c=>?_
 have n1:=bU (λ_=>rN) ab
 have n2:=bU (λ_=>o9) al
 have n3:=bU (λ_=>wX) af
 refine gF pk rfl (λy hy=>?_) ?_
 ·have z:=aj.mp af y hy
  refine wA z λa b c d _=>?_
  exact λR q=>q
 refine bK (Cr (fI n3)) ?_
 refine aq (ble_iff.mpr (by show(f.map bC).length<=100;rw[ah];lia)) ?_
 have e1:=oR (ks:=f.map bC) (us:=f.map jR) (ks':= []) (us':= []) (by rw[ah,ah]) (fI n3) rfl f2 (λ_ _=>rfl)
 rw[lE,lE] at e1
 dsimp only
 rw[e1]
 refine fk (λpre post σ h=>h = []/\(∃v6 v7,σ = [some (.p (.tup [.tup b,.tup l,.tup f,r])),some (.p (.tup b)),some (.p (.tup l)),some (.p (.tup f)),some (.p r),some (.p (.dct (f.map bC) (f.map jR))),v6,v7])/\br ((post.all λg=>eJ 5 (jV (.tup b) (.tup l) (.tup f) (hZ g) true) (mi g))&&eJ 5 (jV (.tup b) (.tup l) (.tup f) [] false) r) (Q (.p .non) []) (xc 1 [])) ⟨rfl,⟨_,_,rfl⟩,c⟩ (λpre x post σ h e j=>?_) (λσ h j=>?_)
 ·obtain⟨rfl,⟨v6,v7,rfl⟩,j⟩:=j
  have hx:x∈f:=by rw[e];simp
  have z:=aj.mp af x hx
  obtain⟨o1,o2,o3⟩:=rK z
  have dx:=cm d1 hx
  rw[aB,Bool.and_assoc] at j
  have sk:=Px (rt:=true) n1 n2 n3 o2
  revert o1 o2 o3 dx j sk
  refine wA z λa p o d _ j o1 o2 o3 dx sk=>?_
  refine aq (gH n1) (aq o1 (aq (lK (aA (show(b.map bC).length+(hZ (.tup [a,.tup p,.tup o,d])).length<=12 by rw[ah];lia) (by decide))) (aq (gH n2) ?_)))
  refine aq (by show(dz d&&(J2 (jV (.tup b) (.tup l) (.tup f) (hZ (.tup [a,.tup p,.tup o,d])) true).pv&&true))=true;rw[cm dx (by simp),ub sk];rfl) ?_
  exact j9 (a:=eJ 5 (jV (.tup b) (.tup l) (.tup f) (hZ (.tup [a,.tup p,.tup o,d])) true) d) (Z:=xc 1 []) j λ_ j=>⟨rfl,⟨_,_,rfl⟩,j⟩
 ·obtain⟨rfl,⟨v6,v7,rfl⟩,j⟩:=j
  have sk:=Px (o:= []) (rt:=false) n1 n2 n3 rfl
  have es:jV (.tup b) (.tup l) (.tup f) [] false=⟨b.map bC,l.map bC,f.map bC,f.map jR,false⟩:=by
   unfold jV
   rw[bS];rfl
  rw[es] at sk j
  refine aq (gH n1) (aq (gH n2) ?_)
  refine aq (by show(dz r&&(J2 (Sc.pv ⟨b.map bC,l.map bC,f.map bC,f.map jR,false⟩)&&true))=true;rw[d2,ub sk];rfl) ?_
  exact Bs j
theorem wq(B:LX ca W)(S:SX W)(n_:DX ca W 13 7 FC)(o_:DX ca W 14 6 Fw)(p_:DX ca W 15 28 Qz)(D4:DX ca W 4 9 vT):DX ca W 12 29 OE:=by
 refine B.e (k:=27) 5 true [(13,FC),(14,Fw),(15,Qz),(4,vT),(21,so)] [] (.seq (.ex (.cl 13 [] (.cons (.v 0) (.cons (.v 1) .nil))))
 (.seq (.ex (.cl 14 [] (.cons (.v 2) (.cons (.b2 dk (.cl 21 [] (.cons (.v 0) .nil)) (.cl 21 [] (.cons (.v 1) .nil))) .nil))))
 (.seq (.iff (.not (.val (.bi fW (.cons (.v 3) (.cons (.ty 3) .nil))))) (.one (.raise 0 (.c (.str "the program's rows are no tuple")))) .nil)
 (.seq (.set 4 (.tup (.cons (.v 0) (.cons (.v 1) (.cons (.v 2) (.cons (.v 3) .nil))))))
 (.seq (.ex (.cl 15 [] (.cons (.v 4) .nil)))
 (.seq (.iff (.cmp vR (.bi dE (.cons (.cl 4 [] (.cons (.v 4) .nil)) .nil)) (.g 10)) (.one (.raise 2 (.c (.str "the program has more than 60 numbers")))) .nil)
 (.one (.ret (.v 4))))))))) S.s41 rfl ⟨n_.up rfl,o_.up rfl,p_,D4.up rfl,(kF B S).up rfl,trivial⟩ trivial (Wv λb l f r Q xc hd q=>?_)
 have q:l9 (iz b l f r) (λc=>xc c []) (Q (.p (.tup [b,l,f,r])) []):=q
 have d1:dz b=true:=cm hd (by simp)
 have d2:dz l=true:=cm hd (by simp)
 have d3:dz f=true:=cm hd (by simp)
 have d4:dz r=true:=cm hd (by simp)
 refine aq (by show(dz b&&dz l)=true;rw[d1,d2];rfl) (Bh (c:=kW b l) q λc1 q=>?_)
 have M_:=c1
 obtain⟨v1,v2,_⟩:=qQ c1
 revert q M_ hd d1 d2
 refine dB v1 λb lb ab=>dB v2 λl ll al hd d1 d2 q c1=>?_
 have n1:=bU (λ_=>rN) ab
 have n2:=bU (λ_=>o9) al
 refine aq (gH n1) (aq (gH n2) (aq (lK (aA (show(b.map bC).length+(l.map bC).length<=9 by rw[ah,ah];lia) (by decide))) ?_))
 refine aq (by show(dz f&&((b.map bC++l.map bC).all isStr&&Nat.ble (b.map bC++l.map bC).length 9))=true;rw[d3,bA,fI n1,fI n2,ble_iff.mpr (by rw[ai,ah,ah];lia)];rfl) (Bh (c:=jS (b.map bC++l.map bC) f) q λc2 q=>?_)
 revert q hd
 refine lV d4 (λ_=>id) (λ_ _=>id) (λ_ _=>id) (λ_ _ _=>id) (λr d4 hd q=>?_) (λ_ _ _=>id) (λ_ _ _ _=>id)
 have q:l9 (vE (kQ (.tup b) (.tup l) f (.tup r)) 1 (vE (!qm 60 (ko f (.tup r):Nat)) 2 none)) (λc=>xc c []) (Q (.p (.tup [.tup b,.tup l,f,.tup r])) []):=q
 refine aq (by show(dz (.tup [.tup b,.tup l,f,.tup r])&&(kW (.tup b) (.tup l)&&(jS (d9 (.tup b)++d9 (.tup l)) f&&true)))=true;rw[hd,c1,show jS (d9 (.tup b)++d9 (.tup l)) f=true from c2];rfl) (Bh (c:=kQ (.tup b) (.tup l) f (.tup r)) q λc3 q=>?_)
 obtain⟨f1,c2⟩:=ag c2
 obtain⟨r1,r2⟩:=ag c3
 revert q r1 hd
 refine dB f1 λf lf af hd q r1=>?_
 have g1:f.all yg=true:=aj.mpr λg hg=>by
  show(cO g&&cY (gY 5) (mi g))=true
  rw[aj.mp af g hg,CF (aj.mp r1 g hg)];rfl
 have tl:ko (.tup f) (.tup r)<=uB:=by
  have e1:dF jH f<=cE f:=CQ (λx h=>N3 h) af
  have e2:=FK 5 (.tup r)
  have e3:=ble_iff.mp (ag hd).2
  have e4:cU (.tup [.tup b,.tup l,.tup f,.tup r])=1+(cU (.tup b)+(cU (.tup l)+(1+cE f+(cU (.tup r)+0)))):=rfl
  show dF jH f+kE 5 (.tup r)<=uB
  lia
 refine aq (by show(f.all yg&&(cY (gY 5) (.tup r)&&Nat.ble (ko (.tup f) (.tup r)) uB))=true;rw[g1,CF r2,ble_iff.mpr tl];rfl) λts lt=>?_
 have lt:ts.length=ko (.tup f) (.tup r):=lt
 show br (qm 60 (ts.length:Nat)) _ _
 rw[lt]
 exact UC q λq=>q
end
end W2
namespace F
open PySem PySem.Spec PyProof.Rows L2
variable{X:Cx}{E:XK}{A:Es->Hs->KP->Prop}{τ:L2.St}{H:Hp}{QV:VK}{B:Prop}{h1:Hs}{xs:List Pv}{e:Pv->Option Es}{Q:List Pv->Hs->Prop}{c:Bool}
section
variable {Γ:Gm}{t:Tb}
structure Dm (Γ:Gm) (t:Tb) where
 ks:lS7
 m:Sm
 ck:Sx->List (Option Expr)->List Expr->Bool
 pp:∀{k S X E pos xs es},rA Γ t k S X E->ck S xs es=true->∃yO,VD X pos xs es yO/\(xs.all (·.isSome)=true/\xs.length=es.length/\xs.length=ks.length)/\∀τ H (Q:List (V×V)->Hp->Prop),gK (yx t X) E m τ H (λvs H'=>Q ((ks.map V.str).zip vs) H')->uj yO τ H Q
def Dm.nil:Dm Γ t:=⟨[],EF,λ_ xs es=>Au xs&&Au es,λo h=>by
 rw[kL (ag h).1,kL (ag h).2]
 exact⟨[],Np,⟨rfl,rfl,rfl⟩,λτ H Q ⟨G,M,σ,hs,xc,Q',k,q⟩=>k.out [] hs M H [] Ext.refl k.rel trivial q⟩⟩
theorem KN{k:Str}{x:Expr}(h:KL (.str k) x=true):PE X x (tC (.str k)):=by
 refine rW h λc j q h=>?_
 cases c<;>first|(cases h;done)|(rw[aZ.mp h];exact xa)
def Dm.cons(k:Str)(A:Em Γ t)(R:Dm Γ t):Dm Γ t:=⟨k::R.ks,IW A.m R.m,λS xs es=>lM (lc xs) λx=>lM x.1 λy=>lM (lc es) λe=>KL (.str k) y&&(A.ck S e.1&&R.ck S x.2 e.2),λ{_ S X E pos xs es} o h=>by
 obtain⟨⟨x,xs'⟩,e1,h⟩:=cy h
 obtain⟨y,e2,h⟩:=cy h
 obtain⟨⟨e,DJ⟩,e3,h⟩:=cy h
 obtain⟨h1,h⟩:=ag h
 obtain⟨h2,h3⟩:=ag h
 obtain⟨yO,p1,⟨p2,p3,p4⟩,p5⟩:=R.pp (pos:=pos) o h3
 have e2:x=some y:=e2
 rw[vi e1,vi e3,e2]
 refine⟨_,Ip (KN h1) (A.pe o h2) p1,⟨by rw[aB];exact p2,by rw[aF,aF];exact eB (·+ 1) p3,by rw[aF,aF];exact eB (·+ 1) p4⟩,λτ H Q ⟨G,M,σ,hs,xc,Q',kn,q⟩=>?_⟩
 refine⟨G,M,σ,hs,xc,_,⟨kn.rel,kn.env,λd h' M' H' v e r' i q'=>?_,kn.exc⟩,q⟩
 refine p5 τ H' _ ⟨G,M',σ,h',xc,_,⟨r',kn.env.ext kn.rel e,λds h2 M2 H2 ws e2 r2 i2 q2=>?_,λC h1 M1 H1 x r q=>kn.exc C h1 M1 H1 (e.trans x) r q⟩,q'⟩
 exact kn.out (d::ds) h2 M2 H2 (v::ws) (e.trans e2) r2 ⟨i.ext r' e2,i2⟩ q2⟩
def TL(ks:lS7)(A:Sm):Sm:=λxc σ h Q=>A xc σ (h ++ [.dct [] []]) λds h1=>match Ez ds with
 |some us=>match h1[h.length]? with
  |some (.dct [] [])=>gd (Nat.beq us.length ks.length) (Q [.r h.length] (h1.set h.length (.dct (ff (ks.map .str) us ([],[])).1 (ff (ks.map .str) us ([],[])).2)))
  |_=>False
 |none=>False
theorem JN:∀{ks:lS7}{vs:List V},(ks.map V.str).zip vs=((ks.map (Sum.inr:Str->Key)).zip vs).map λkv=>(kV kv.1,kv.2)
 | [],_=>rfl
 |_::_,[]=>rfl
 |k::ks,v::vs=>by
  show(V.str k,v)::(ks.map V.str).zip vs=(kV (Sum.inr k),v)::_
  rw[JN];rfl
theorem JK{Y:T0}{G M:List Addr}{H:Hp}:∀{ks:lS7}{us:List Pv}{vs:List V},us.length=ks.length->aJ (Y.z G) M H us vs->iG Y G M H (ks.map .str) us ((ks.map (Sum.inr:Str->Key)).zip vs)
 | [],[],[],_,_=>iG.nil
 | [],[],_::_,_,i=>by unfold aJ at i;exact i.elim
 | [],_::_,_,e,_=>by cases e
 |_::_,[],_,e,_=>by cases e
 |_::_,_::_,[],_,i=>by unfold aJ at i;exact i.elim
 |k::ks,u::us,v::vs,e,i=>by
  unfold aJ at i
  exact iG.cons.mpr ⟨⟨rfl,i.1⟩,JK (by simpa using e) i.2⟩
theorem QR{ks:lS7}{A:Sm}{yO:List (TE×TE)}(hpp:∀τ H (Q:List (V×V)->Hp->Prop),gK (yx t X) E A τ H (λvs H'=>Q ((ks.map V.str).zip vs) H')->uj yO τ H Q)(hl:ks.length<=15)(h:cV (yx t X) E (TL ks A) τ H QV):PF yO τ H QV:=by
 obtain⟨G,M,σ,h,xc,Q,k,q⟩:=h
 intro p hp
 unfold TL at q
 have pu:=Ext.push (u:=.dK []) k.rel hp
 refine hpp _ _ _ ⟨G,M ++ [p],σ,h ++ [Ob.dct [] []],xc,_,⟨k.rel.push (o:=.dct [] []) hp ⟨[],bE,(iG.nil (Y:=yx t X)).1,(iG.nil (Y:=yx t X)).2⟩,k.env.ext k.rel pu,λds h1 M1 H1 vs e1 r1 i1 q1=>?_,λC h' M' H' x r q=>k.exc C h' M' H' (pu.trans x) r q⟩,q⟩
 split at q1
 ·rename_i us eu
  split at q1
  ·rename_i ho
   obtain⟨c,q2⟩:=bt q1
   have c:=ao c
   have g0:M1[h.length]?=some p:=e1.at (by rw[<-k.rel.ln,bg (au _),Nat.sub_self];rfl)
   obtain⟨Xi,s1,d0⟩:=r1.at' g0 ho
   have z0:Xi = []:=by
    have:=d0.1.len
    rw[ah] at this
    exact pO.mp this.symm
   subst z0
   have i2:=qr (Y:=yx t X) eu i1
   have d1:=JK (Y:=yx t X) (ks:=ks) c i2
   have d2:=rH d1 iG.nil
   have ha:p∈M1:=aS g0
   refine⟨s1,_,JN,?_,?_⟩
   ·rw[List.length_zip,ah]
    exact aA (Nat.min_le_left _ _) hl
   ·exact k.out (.r h.length) _ M1 _ (.ref p) ((pu.trans e1).trans (Ext.put ha)) (r1.put (o:=.dct _ _) g0 ⟨_,bE,d2.1.ext r1 (Ext.put ha),d2.2.ext r1 (Ext.put ha)⟩) ⟨p,g0,rfl⟩ q2
  ·exact q1.elim
 ·exact q1.elim
def Em.Zn(D:Dm Γ t):Em Γ t:=⟨TL D.ks D.m,λS=>Oc λks vs _=>Nat.ble D.ks.length 15&&(!Au ks&&D.ck S ks vs),λo h=>by
 refine C0 h λks vs p h=>?_
 obtain⟨h1,h⟩:=ag h
 obtain⟨h2,h⟩:=ag h
 obtain⟨yO,p1,⟨p2,p3,p4⟩,p5⟩:=D.pp (pos:=p) o h
 have hl:=aU h1
 exact(MS p1 p2 p3 (λz=>by rw[z] at h2;cases h2) (by rw[p4];exact hl)).imp λ_ _ _=>QR p5 hl⟩
def Yj(A B:Sm):Sm:=λxc σ h Q=>A xc σ h λxs h1=>match xs with
 | [.r i]=>match h1[i]? with
  |some (.dct _ _)=>B xc σ h1 λys h2=>match ys with
   | [.r j]=>match h2[i]?,h2[j]? with
    |some (.dct ks us),some (.dct ks' us')=>gd (!Nat.beq i j&&nc (ks.length+ks'.length)) (Q [.p .non] (h2.set i (.dct (ff ks' us' (ks,us)).1 (ff ks' us' (ks,us)).2)))
    |_,_=>False
   |_=>False
  |_=>False
 |_=>False
theorem Uq{A B:Sm}(h:cV (yx t X) E (Yj A B) τ H QV):PD (cV (yx t X) E A) (cV (yx t X) E B) τ H QV:=by
 obtain⟨G,M,σ,h,xc,Q,k,q⟩:=h
 refine⟨G,M,σ,h,xc,_,⟨k.rel,k.env,λd h1 M1 H1 v e1 r1 i1 q1=>?_,k.exc⟩,q⟩
 cases d with
 |p _=>exact q1.elim
 |r i=>
  change (match h1[i]? with
   |some (.dct _ _)=>B xc σ h1 λys h2=>match ys with
    | [.r j]=>match h2[i]?,h2[j]? with
     |some (.dct ks us),some (.dct ks' us')=>gd (!Nat.beq i j&&nc (ks.length+ks'.length)) (Q [.p .non] (h2.set i (.dct (ff ks' us' (ks,us)).1 (ff ks' us' (ks,us)).2)))
     |_,_=>False
    |_=>False
   |_=>False) at q1
  split at q1
  ·rename_i ho
   obtain⟨a,g1,rfl⟩:=i1
   obtain⟨Xi,s0,_⟩:=r1.at' g1 ho
   refine⟨a,rfl,.inl ⟨_,.inl s0⟩,G,M1,σ,h1,xc,_,k.on e1 r1 λd2 h2 M2 H2 w e2 r2 i2 q2=>?_,q1⟩
   cases d2 with
   |p _=>exact q2.elim
   |r j=>
    change (match h2[i]?,h2[j]? with
     |some (.dct ks us),some (.dct ks' us')=>gd (!Nat.beq i j&&nc (ks.length+ks'.length)) (Q [.p .non] (h2.set i (.dct (ff ks' us' (ks,us)).1 (ff ks' us' (ks,us)).2)))
     |_,_=>False) at q2
    split at q2
    ·rename_i ks us ks' us' o1 o2
     obtain⟨c,q2⟩:=bt q2
     obtain⟨c1,c2⟩:=ag c
     obtain⟨b,f1,rfl⟩:=i2
     have f0:=e2.at g1
     obtain⟨kvs,s1,d1⟩:=r2.at' f0 o1
     obtain⟨more,s2,d2⟩:=r2.at' f1 o2
     have ne:a≠b:=λz=>by
      subst z
      obtain⟨l3,e3⟩:=aw.mp f0
      obtain⟨l4,e4⟩:=aw.mp f1
      have:=(g5 r2.nd).mp (e3.trans e4.symm)
      subst this
      rw[lP] at c1;cases c1
     have l1:=d1.1.len
     have l2:=d2.1.len
     rw[ah] at l1 l2
     have ha:a∈M2:=aS f0
     have d3:=rH (Y:=yx t X) (show iG (yx t X) G M2 H2 ks' us' more from d2) (show iG (yx t X) G M2 H2 ks us kvs from d1)
     refine⟨b,kvs,more,rfl,ne,s1,s2,by rw[<-l1,<-l2];exact fN c2,?_⟩
     exact k.out _ _ M2 _ _ ((e1.trans e2).trans (Ext.put ha)) (r2.put (o:=.dct _ _) f0 ⟨_,bE,d3.1.ext r2 (Ext.put ha),d3.2.ext r2 (Ext.put ha)⟩) o5 q2
    ·exact q2.elim
  ·exact q1.elim
def Em.upd(O B:Em Γ t):Em Γ t:=⟨Yj O.m B.m,λS=>ZM S "update" O λes=>lM (l1 es) λe=>bY e&&B.ck S e,λ{k S X E x} o h=>AH h λob es apos du h1 h2 h3 h4=>by
 obtain⟨e,e1,h⟩:=cy h1
 obtain⟨g1,g2⟩:=ag h
 rw[fL e1]
 have pl:([e]:List Expr).all bY=true:=by rw[aB,g1];rfl
 exact(MT (O.pe o h2) (B.pe o g2) ⟨rB h3,zX pl (by show 1<30;decide),h4,by rw[cF g1];rfl⟩).imp λ_ _ _=>Uq⟩
theorem rE{T:Es->Hs->KP->Prop}(g:Pv->Bool)(hb:bH h1.length h1=true)
  (step:∀y∈xs,match e y with
   |some σ2=>(∀R:KP,R [.p (.bl (g y))] h1->T σ2 h1 R)/\(∀R:KP,R [.p y] h1->A σ2 h1 R)
   |none=>False) (q:Q (xs.filter g) h1):uE h1 xs e T A Q:=by
 refine we g (λy=>y) hb (λy hy=>?_) (by rw[List.map_id'];exact q)
 have z:=step y hy
 cases he:e y with
 |none=>rw[he] at z;exact z
 |some σ2=>rw[he] at z;exact⟨z.1,λ_=>z.2⟩
theorem ph{Q:Dv->Hs->Prop}{h:Hs}{g:Pv->Bool}(q:Q (.p (.bl (xs.all g))) h):oEq (.p (.lst (xs.filter λy=>!g y))) (.p (.lst [])) h Q:=Mo (by simp only[Bool.not_not];exact q)
theorem OY{a b:Int}:qm a b = !hV b a:=by
 rw[cq,dN,ze,bG,Ne,bN];lia
theorem gE{A:Prop}(h:c=false)(b:B):br c A B:=by subst h;exact b
theorem sg{A:Prop}(h:c=true)(a:A):br c A B:=by subst h;exact a
theorem wg(J:List Pv->List Pv->Hs->Prop)(h0:J [] [] h1)
  (step:∀pre y post acc h',xs=pre++y::post->J pre acc h'->match e y with
   |some σ2=>A σ2 h' λys h3=>match ys with
    | [.p v]=>KR h1.length (J (pre ++ [y]) (acc ++ [v])) h3
    |_=>False
   |none=>False) (fin:∀acc h',J xs acc h'->Q acc h'):uE h1 xs e (λ_ h R=>R [.p (.bl true)] h) A Q:=by
 unfold uE
 refine⟨λi acc h'=>J (xs.take i) acc h',(by dsimp only;rw[jB];exact h0),λi y acc h' hy j=>?_,λacc h' j=>fin acc h' (by dsimp only at j;rw[fG] at j;exact j)⟩
 have z:=step _ y _ acc h' (p9 hy) j
 rw[<-Dj hy] at z
 cases he:e y with
 |none=>rw[he] at z;exact z
 |some σ2=>rw[he] at z;exact z
end
end F
namespace W2
open PySem L2 F
variable{ca:Nat->Addr}{W:Wd}{d n k o c sh:Nat}{bs ls a b xs bx lx ts us dd rs l f:List Pv}{x v u r p:Pv}{s:Sc}{y w z:Str}{P:Pv->Prop}{m i j mo lf:Int}{g:Pv->Bool}{rt:Bool}{ws:lS7}{A B:Prop}{ds:List Dv}{h:Hs}{Q:Dv->Hs->Prop}{xc:XP}
theorem Cd(c:Nat):yw (.str ⟨#[c]⟩)=yM c:=by
 show(!decide ((⟨#[c]⟩:Str).cps.toList<("a":Str).cps.toList) && !decide (("z":Str).cps.toList<(⟨#[c]⟩:Str).cps.toList))=yM c
 rw[aaF,aaG];rfl
def Hi:Pv->Bool
 |.lst l=>l.all aE
 |_=>false
@[elab_as_elim] theorem Xy {a:Pv} (h:Hi a=true) (k:∀l,l.all aE=true->P (.lst l)):P a:=by cases a<;>first|exact k _ h|cases h
theorem tS(h:l.all aE=true):eY l=true:=mM (bU (λ_=>eW) h)
theorem Gy{x:Str}:∀{l:List Pv},l.all aE=true->gX (.str x) l=true->aE (.str x)=true
 | [],_,h=>by cases h
 |y::r,n,h=>by
  rw[aB] at n
  obtain⟨n1,n2⟩:=ag n
  have h:(iZ y (.str x)||gX (.str x) r)=true:=h
  rcases (dX _ _).mp h with h|h
  ·revert n1 h
   refine jv (eW (ag n).1) λz n1 h=>?_
   rw[<-aZ.mp (show aR z x=true from h)];exact n1
  ·exact Gy n2 h
theorem j8(n:l.all aE=true)(p:Pv):(aE p&&gX p l)=(isStr p&&gX p l):=by
 cases p with
 |str x=>
  show(aE (.str x)&&gX (.str x) l)=gX (.str x) l
  cases h:gX (.str x) l with
  |true=>rw[Gy n h];rfl
  |false=>rw[mO]
 |_=>rfl
abbrev zD:Ct:=cA2 (λx l=>dz x&&oV l) λx l=>.bl (isStr x&&gX x (mZ l))
abbrev uX (n:Nat):Ct:=Zh (λx b l d=>dz x&&(Hi b&&(Hi l&&DW n d))) λx b l d=>.bl (val n (mZ b) (mZ l) x)
def in3(w:Str):Bool:=gX (.str w) [.str "number",.str "box",.str "size"]
def Vc(w:Str):Bool:=gX (.str w) [.str "plus",.str "minus",.str "times",.str "over",.str "rest",.str "less",.str "same"]
theorem fu{a b:Str}(h:aR a b=false):aR b a=false:=bG.mpr λe=>by
 rw[aZ.mp e,aZ.mpr rfl] at h;cases h
@[elab_as_elim] theorem vtC {P:Str->Prop} (w:Str) (h1:P "number") (h2:P "box") (h3:P "size") (h4:P "item") (h5:P "not") (h6:∀w,lk w iU=some (["value","value"]:lS7)->in3 w=false->aR w "item"=false->aR w "not"=false->Vc w=true->P w)
  (h7:∀w,lk w iU=none->in3 w=false->aR w "item"=false->aR w "not"=false->Vc w=false->P w):P w:=by
 have Ds:∀z:Str,aR w z=true->P z->P w:=λz e p=>by rw[aZ.mp e];exact p
 cases e1:aR w "number" with|true=>exact Ds _ e1 h1|false=>?_
 cases e2:aR w "box" with|true=>exact Ds _ e2 h2|false=>?_
 cases e3:aR w "size" with|true=>exact Ds _ e3 h3|false=>?_
 cases e4:aR w "item" with|true=>exact Ds _ e4 h4|false=>?_
 cases e5:aR w "not" with|true=>exact Ds _ e5 h5|false=>?_
 cases e6:aR w "plus" with|true=>exact Ds _ e6 (h6 _ rfl rfl rfl rfl rfl)|false=>?_
 cases e7:aR w "minus" with|true=>exact Ds _ e7 (h6 _ rfl rfl rfl rfl rfl)|false=>?_
 cases e8:aR w "times" with|true=>exact Ds _ e8 (h6 _ rfl rfl rfl rfl rfl)|false=>?_
 cases e9:aR w "over" with|true=>exact Ds _ e9 (h6 _ rfl rfl rfl rfl rfl)|false=>?_
 cases J':aR w "rest" with|true=>exact Ds _ J' (h6 _ rfl rfl rfl rfl rfl)|false=>?_
 cases K':aR w "less" with|true=>exact Ds _ K' (h6 _ rfl rfl rfl rfl rfl)|false=>?_
 cases L':aR w "same" with|true=>exact Ds _ L' (h6 _ rfl rfl rfl rfl rfl)|false=>?_
 refine h7 w ?_ ?_ e4 e5 ?_
 ·simp only[lk,iU,e1,e2,e3,e4,e5,e6,e7,e8,e9,J',K',L']
 ·show(aR "number" w||(aR "box" w||(aR "size" w||false)))=false
  rw[fu e1,fu e2,fu e3];rfl
 ·show(aR "plus" w||(aR "minus" w||(aR "times" w||(aR "over" w||(aR "rest" w||(aR "less" w||(aR "same" w||false)))))))=false
  rw[fu e6,fu e7,fu e8,fu e9,fu J',fu K',fu L'];rfl
def Xt(i:Int):Pv->Bool
 |.tup (a::r)=>lj ((r.length+1:Nat):Int) i&&aE a
 |_=>false
def GQ:Pv->Bool
 |.int (.ofNat (_+1))=>true
 |_=>false
@[elab_as_elim] theorem aa3 {a:Pv} (h:GQ a=true) (k:∀n:Nat,P (.int (.ofNat (n+1)))):P a:=by
 unfold GQ at h
 split at h
 ·exact k _
 ·cases h
abbrev vS:Ct:=cA2 (λx s=>dz x&&GQ s) λx s=>.bl (Xt (ym s) x)
theorem QJ{l:lS7}:(∀x∈l,l.count x<=1)↔l.Nodup:=by
 rw[List.nodup_iff_count]
 refine⟨λh x=>?_,λh x _=>h x⟩
 by_cases z:x∈l
 ·exact h x z
 ·rw[List.count_eq_zero_of_not_mem z];exact cI _
theorem rF(B:LX ca W)(S:SX W):DX ca W 35 2 (je aE):=by
 refine B.e (k:=0) 1 true [] [] (.seq (.iff (.bo (Wm.oc (.not (.val (.bi fW (.cons (.v 0) (.cons (.ty 0) .nil))))) (Wm.o1 (.not (.ch JU JU (.c (.int 1)) (.bi dE (.cons (.v 0) .nil)) (.c (.int 6))))))) (.one (.ret (.c (.bl false)))) .nil)
 (.one (.ret (.cmp gN (.comp 1 [] (.one 0) (.c (.v 0)) (.one (.cmp VT (.v 0) (.c (.str "abcdefghijklmnopqrstuvwxyz")))) (.v 0)) (.lst .nil))))) S.s65 rfl trivial trivial (tF λx Q xc hd=>?_)
 refine lV hd id (λ_=>id) (λ_=>id) (λz hd q=>?_) (λ_ _=>id) (λ_ _=>id) (λ_ _ _=>id)
 have hz:=lK (FX hd)
 refine aq hz (fj (Q:=Q) q λ_ q=>gD (Q:=Q) q λ_ q=>aq hz ?_)
 refine rE (λy=>!yw y) rfl (λy hy=>?_) (ph q)
 obtain⟨c,_,rfl⟩:=eh.mp hy
 refine⟨λR q=>?_,λR q=>q⟩
 have e:AI true (!(Builtin.Str.occurrences EZ ⟨#[c]⟩ 0 EZ.length 1).isEmpty) = !yw (.str ⟨#[c]⟩):=by rw[MB,Cd];rfl
 show R [.p (.bl (AI true (!(Builtin.Str.occurrences EZ ⟨#[c]⟩ 0 EZ.length 1).isEmpty)))] []
 rw[e];exact q
theorem mD(B:LX ca W)(S:SX W):DX ca W 36 2 (je fc):=by
 refine B.e (k:=0) 1 true [] [] (.one (.ret (.bo (Bm.ac (.bi fW (.cons (.v 0) (.cons (.ty 1) .nil))) (Bm.ac (.not (.bi fW (.cons (.v 0) (.cons (.ty 2) .nil)))) (Bm.a1 (.ch JU Fy (.c (.int 0)) (.v 0) (.c (.int 1000000))))))))) S.s66 rfl trivial trivial (tF λx Q xc hd=>?_)
 refine lV hd id (λ_=>id) (λi q=>?_) (λ_ _=>id) (λ_ _=>id) (λ_ _=>id) (λ_ _ _=>id)
 have e:hV i 999999=qm i 1000000:=by rw[cq,bN,dN];lia
 have q:Q (.p (.bl (hV 0 i&&hV i 999999))) []:=q
 rw[e] at q
 exact fj (Q:=Q) q λ_ q=>q
theorem BF(B:LX ca W)(S:SX W):DX ca W 37 2 zD:=by
 refine B.e (k:=0) 2 true [] [] (.one (.ret (.bo (Bm.ac (.bi fW (.cons (.v 0) (.cons (.ty 0) .nil))) (Bm.a1 (.cmp OC (.v 0) (.v 1))))))) S.s67 rfl trivial trivial (Wu λx l Q xc hp=>?_)
 obtain⟨hd,hl⟩:=ag hp
 refine F7 hl λl hl=>?_
 exact lV hd id (λ_=>id) (λ_=>id) (λz _ q=>aq hl q) (λ_ _=>id) (λ_ _=>id) (λ_ _ _=>id)
def VS:Nat->Ct
 |0=>E3
 |n+1=>uX n
theorem u3(B:LX ca W)(S:SX W)(n:Nat)(UT:DX ca W 38 (n+2) (VS n)):DX ca W 38 (n+3) (uX n):=by
 refine B.e (k:=n+1) 4 true [(36,je fc),(37,zD),(38,VS n)] [] (.seq (.iff (.bo (Wm.oc (.cmp gN (.v 3) (.c (.int 0))) (Wm.oc (.not (.val (.bi fW (.cons (.v 0) (.cons (.ty 3) .nil))))) (Wm.oc (.cmp Fy (.bi dE (.cons (.v 0) .nil)) (.c (.int 2))) (Wm.o1 (.not (.val (.bi fW (.cons (.ix (.v 0) (.c (.int 0))) (.cons (.ty 0) .nil)))))))))) (.one (.ret (.c (.bl false)))) .nil)
 (.seq (.iff (.cmp OC (.ix (.v 0) (.c (.int 0))) (.lst (.cons (.c (.str "number")) (.cons (.c (.str "box")) (.cons (.c (.str "size")) .nil))))) (.seq (.iff (.cmp gN (.ix (.v 0) (.c (.int 0))) (.c (.str "number"))) (.one (.ret (.bo (Bm.ac (.cmp gN (.bi dE (.cons (.v 0) .nil)) (.c (.int 2))) (Bm.a1 (.cl 36 [] (.cons (.ix (.v 0) (.c (.int 1))) .nil))))))) .nil)
 (.one (.ret (.bo (Bm.ac (.cmp gN (.bi dE (.cons (.v 0) .nil)) (.c (.int 2))) (Bm.a1 (.cl 37 [] (.cons (.ix (.v 0) (.c (.int 1))) (.cons (.ix (.lst (.cons (.v 1) (.cons (.v 2) .nil))) (.bi Wc (.cons (.cmp gN (.ix (.v 0) (.c (.int 0))) (.c (.str "size"))) .nil))) .nil))))))))) .nil)
 (.seq (.iff (.cmp gN (.ix (.v 0) (.c (.int 0))) (.c (.str "item"))) (.one (.ret (.bo (Bm.ac (.cmp gN (.bi dE (.cons (.v 0) .nil)) (.c (.int 3))) (Bm.ac (.cl 37 [] (.cons (.ix (.v 0) (.c (.int 1))) (.cons (.v 2) .nil))) (Bm.a1 (.cl 38 [] (.cons (.ix (.v 0) (.c (.int 2))) (.cons (.v 1) (.cons (.v 2) (.cons (.b2 pX (.v 3) (.c (.int 1))) .nil))))))))))) .nil)
 (.seq (.iff (.cmp gN (.ix (.v 0) (.c (.int 0))) (.c (.str "not"))) (.one (.ret (.bo (Bm.ac (.cmp gN (.bi dE (.cons (.v 0) .nil)) (.c (.int 2))) (Bm.a1 (.cl 38 [] (.cons (.ix (.v 0) (.c (.int 1))) (.cons (.v 1) (.cons (.v 2) (.cons (.b2 pX (.v 3) (.c (.int 1))) .nil)))))))))) .nil)
 (.seq (.iff (.bo (Wm.oc (.cmp VT (.ix (.v 0) (.c (.int 0))) (.lst (.cons (.c (.str "plus")) (.cons (.c (.str "minus")) (.cons (.c (.str "times")) (.cons (.c (.str "over")) (.cons (.c (.str "rest")) (.cons (.c (.str "less")) (.cons (.c (.str "same")) .nil))))))))) (Wm.o1 (.cmp Kx (.bi dE (.cons (.v 0) .nil)) (.c (.int 3)))))) (.one (.ret (.c (.bl false)))) .nil)
 (.one (.ret (.bo (Bm.ac (.cl 38 [] (.cons (.ix (.v 0) (.c (.int 1))) (.cons (.v 1) (.cons (.v 2) (.cons (.b2 pX (.v 3) (.c (.int 1))) .nil))))) (Bm.a1 (.cl 38 [] (.cons (.ix (.v 0) (.c (.int 2))) (.cons (.v 1) (.cons (.v 2) (.cons (.b2 pX (.v 3) (.c (.int 1))) .nil))))))))))))))) S.s68 rfl ⟨(mD B S).le (by lia),(BF B S).le (by lia),UT,trivial⟩ trivial (Wv λx b l d Q xc hp=>?_)
 obtain⟨h1,h2,h3,h4⟩:=jd hp
 cases n with
 |zero=>exact tK h4 λq=>q
 |succ n=>
  refine Xy h2 λb h2=>Xy h3 λl h3=>tK h4 ?_
  refine lV h1 id (λ_=>id) (λ_=>id) (λ_ _=>id) (λxs h1=>?_) (λ_ _=>id) (λ_ _ _=>id)
  have f1:=tS h2
  have f2:=tS h3
  have rc:∀{a:Pv}{R:Prop},dz a=true->R->gd (dz a&&(Hi (.lst b)&&(Hi (.lst l)&&DW n (.int ((n+1:Nat)-1))))) R:=λda q=>aq (by rw[da,show Hi (.lst b)=true from h2,show Hi (.lst l)=true from h3,show DW n (.int ((n+1:Nat)-1))=true from cK.mpr (by lia)];rfl) q
  have am:∀{a:Pv}{v:List Pv}{R:Prop},dz a=true->eY v=true->R->gd (dz a&&oV (.lst v)) R:=λda fv q=>aq (by rw[da,show oV (.lst _)=true from fv];rfl) q
  rcases xs with _|⟨w,r⟩
  ·exact id
  refine lV (nq h1) ?_ (λ_=>?_) (λ_=>?_) (λw _=>?_) (λ_ _=>?_) (λ_ _=>?_) (λ_ _ _=>?_)
  case refine_4=>
   rcases r with _|⟨a,r⟩
   ·refine vtC w id id id id id (λw e _ _ _ _ q=>?_) (λw e _ _ _ _ q=>?_)
    ·have q:Q (.p (.bl (kr (val n b l) b l [] (lk w iU)))) []:=q
     rw[e] at q;exact q
    ·have q:Q (.p (.bl (kr (val n b l) b l [] (lk w iU)))) []:=q
     rw[e] at q;exact q
   have da:dz a=true:=cm h1 (by simp)
   have nl:∀{z:Bool},lj ((r.length+1+1:Nat):Int) 2=z->(z=true->r = []):=λe z=>by
    rw[<-e] at z
    have:=cK.mp z
    exact pO.mp (by lia)
   refine vtC w ?_ ?_ ?_ ?_ ?_ (λw e g1 g2 g3 g4=>?_) (λw e g1 g2 g3 g4=>?_)
   ·rcases r with _|⟨c,r⟩
    ·refine λq=>aq da ?_
     have q:Q (.p (.bl (fc a&&true))) []:=q
     rw[cZ] at q;exact q
    ·exact id
   ·rcases r with _|⟨c,r⟩
    ·refine λq=>am da f1 ?_
     have q:Q (.p (.bl ((aE a&&gX a b)&&true))) []:=q
     rw[cZ,j8 h2] at q;exact q
    ·exact id
   ·rcases r with _|⟨c,r⟩
    ·refine λq=>am da f2 ?_
     have q:Q (.p (.bl ((aE a&&gX a l)&&true))) []:=q
     rw[cZ,j8 h3] at q;exact q
    ·exact id
   ·rcases r with _|⟨c,_|⟨c',r⟩⟩
    ·exact id
    ·refine λq=>am da f2 ?_
     have q:Q (.p (.bl ((aE a&&gX a l)&&(val n b l c&&true)))) []:=q
     rw[cZ,j8 h3] at q
     exact fj (Q:=Q) q λ_ q=>rc (cm h1 (by simp)) q
    ·exact id
   ·rcases r with _|⟨c,r⟩
    ·refine λq=>rc da ?_
     have q:Q (.p (.bl (val n b l a&&true))) []:=q
     rw[cZ] at q;exact q
    ·exact id
   ·intro q
    have q:Q (.p (.bl (kr (val n b l) b l (a::r) (lk w iU)))) []:=q
    rw[e] at q
    rcases r with _|⟨c,_|⟨c',r⟩⟩
    ·exact gE g1 (gE g2 (gE g3 (gE (show AI true (Vc w)=false by rw[g4];rfl) q)))
    ·refine gE g1 (gE g2 (gE g3 (gE (show AI true (Vc w)=false by rw[g4];rfl) (rc da ?_))))
     have q:Q (.p (.bl (val n b l a&&(val n b l c&&true)))) []:=q
     rw[cZ] at q
     exact fj (Q:=Q) q λ_ q=>rc (cm h1 (by simp)) q
    ·exact gE g1 (gE g2 (gE g3 (gE (show AI true (Vc w)=false by rw[g4];rfl) q)))
   ·intro q
    have q:Q (.p (.bl (kr (val n b l) b l (a::r) (lk w iU)))) []:=q
    rw[e] at q
    exact gE g1 (gE g2 (gE g3 (sg (show AI true (Vc w)=true by rw[g4];rfl) q)))
  all_goals (rcases r with _|⟨a,r⟩<;>exact id)
theorem xY(B:LX ca W)(S:SX W):∀n,DX ca W 38 (n+3) (uX n)
 |0=>u3 B S 0 (Dt.no S.s68)
 |n+1=>u3 B S (n+1) (xY B S n)
theorem zQ(B:LX ca W)(S:SX W)(k:Nat)(l:List (Nat×(Pv->Bool)))(D:All (Lx ca) W (k+1) (QF l)):DX ca W 44 (k+2) (sA l):=by
 refine B.eT ["_law_thing","_law_most","_law_good"] ["_law_thing","_law_most","_law_good"] true l (.seq (.iff (.bo (Wm.oc (.not (.val (.bi fW (.cons (.v 0) (.cons (.ty 3) .nil))))) (Wm.o1 (.cmp vR (.bi dE (.cons (.v 0) .nil)) (.v 1))))) (.one (.ret (.c (.bl false)))) .nil)
 (.one (.ret (.cmp gN (.comp 1 [2] (.one 0) (.s (.v 0)) (.one (.not (.val (.clv [] 1 (.cons (.v 0) .nil))))) (.v 0)) (.lst .nil))))) S.s74 rfl D (U4 λx m f Q xc hp=>?_)
 obtain⟨h1,h2,h3⟩:=qQ hp
 refine As h2 λm=>fnC h3 λj hj=>?_
 refine lV h1 id (λ_=>id) (λ_=>id) (λ_ _=>id) (λxs h1 q=>?_) (λ_ _=>id) (λ_ _ _=>id)
 show br (qm m (xs.length:Nat)) _ _
 rw[OY]
 refine gD (Q:=Q) q λ_ q=>?_
 refine rE (λy=>!Q5 l j y) rfl (λy hy=>⟨λR q=>?_,λR q=>q⟩) (ph q)
 refine aq hj (aq (cm h1 hy) q)
theorem wo(B:LX ca W)(S:SX W):DX ca W 45 3 vS:=by
 refine B.e (k:=1) 2 true [(35,je aE)] [] (.one (.ret (.bo (Bm.ac (.bi fW (.cons (.v 0) (.cons (.ty 3) .nil))) (Bm.ac (.cmp gN (.bi dE (.cons (.v 0) .nil)) (.v 1)) (Bm.a1 (.cl 35 [] (.cons (.ix (.v 0) (.c (.int 0))) .nil)))))))) S.s75 rfl ⟨(rF B S),trivial⟩ trivial (Wu λx s Q xc hp=>?_)
 obtain⟨h1,h2⟩:=ag hp
 refine aa3 h2 λn=>?_
 refine lV h1 id (λ_=>id) (λ_=>id) (λ_ _=>id) (λxs h1 q=>?_) (λ_ _=>id) (λ_ _ _=>id)
 rcases xs with _|⟨a,r⟩
 ·exact q
 ·exact fj (Q:=Q) q λ_ q=>aq (nq h1) q
theorem QM(B:LX ca W)(S:SX W):DX ca W 46 4 (je ef):=by
 refine B.e (k:=2) 1 true [(45,vS),(36,je fc)] [] (.one (.ret (.bo (Bm.ac (.cl 45 [] (.cons (.v 0) (.cons (.c (.int 2)) .nil))) (Bm.a1 (.cl 36 [] (.cons (.ix (.v 0) (.c (.int 1))) .nil))))))) S.s76 rfl ⟨(wo B S),(mD B S).up rfl,trivial⟩ trivial (tF λx Q xc hd q=>aq (by show(dz x&&true)=true;rw[hd];rfl) ?_)
 revert q
 refine lV hd id (λ_=>id) (λ_=>id) (λ_ _=>id) (λxs hd=>?_) (λ_ _=>id) (λ_ _ _=>id)
 rcases xs with _|⟨a,_|⟨b,_|⟨c,r⟩⟩⟩
 ·exact id
 ·exact id
 ·exact λq=>fj (Q:=Q) q λ_ q=>aq (cm hd (by simp)) q
 ·exact id
theorem KY(B:LX ca W)(S:SX W)(Vz:DX ca W 44 3 (jQ 36 fc)):DX ca W 47 4 (je isList):=by
 refine B.e (k:=2) 1 true [(45,vS),(44,jQ 36 fc),(36,je fc)] [] (.one (.ret (.bo (Bm.ac (.cl 45 [] (.cons (.v 0) (.cons (.c (.int 2)) .nil))) (Bm.a1 (.cl 44 [] (.cons (.ix (.v 0) (.c (.int 1))) (.cons (.c (.int 12)) (.cons (.f 36) .nil))))))))) S.s77 rfl ⟨(wo B S),Vz,(mD B S).up rfl,trivial⟩ trivial (tF λx Q xc hd q=>aq (by show(dz x&&true)=true;rw[hd];rfl) ?_)
 revert q
 refine lV hd id (λ_=>id) (λ_=>id) (λ_ _=>id) (λxs hd=>?_) (λ_ _=>id) (λ_ _ _=>id)
 rcases xs with _|⟨a,_|⟨b,_|⟨c,r⟩⟩⟩
 ·exact id
 ·exact id
 ·exact λq=>fj (Q:=Q) q λ_ q=>aq (by show(dz b&&true)=true;rw[cm hd (by simp)];rfl) q
 ·exact id
theorem QO(B:LX ca W)(S:SX W)(Vz:DX ca W 44 3 (jQ 35 aE)):DX ca W 48 4 (je cO):=by
 refine B.e (k:=2) 1 true [(45,vS),(44,jQ 35 aE),(35,je aE)] [] (.seq (.iff (.bo (Wm.oc (.not (.val (.cl 45 [] (.cons (.v 0) (.cons (.c (.int 4)) .nil))))) (Wm.o1 (.not (.val (.bi fW (.cons (.ix (.v 0) (.c (.int 3))) (.cons (.ty 3) .nil)))))))) (.one (.ret (.c (.bl false)))) .nil)
 (.one (.ret (.bo (Bm.ac (.cl 44 [] (.cons (.ix (.v 0) (.c (.int 1))) (.cons (.c (.int 3)) (.cons (.f 35) .nil)))) (Bm.a1 (.cl 44 [] (.cons (.ix (.v 0) (.c (.int 2))) (.cons (.c (.int 3)) (.cons (.f 35) .nil)))))))))) S.s78 rfl ⟨(wo B S),Vz,(rF B S).up rfl,trivial⟩ trivial (tF λx Q xc hd q=>aq (by show(dz x&&true)=true;rw[hd];rfl) ?_)
 revert q
 refine lV hd id (λ_=>id) (λ_=>id) (λ_ _=>id) (λxs hd=>?_) (λ_ _=>id) (λ_ _ _=>id)
 rcases xs with _|⟨a,_|⟨b,_|⟨c,_|⟨d,_|⟨e,r⟩⟩⟩⟩⟩
 ·exact id
 ·exact id
 ·exact id
 ·exact id
 ·refine λq=>gD (Q:=Q) q λ_ q=>?_
  have tl:(eg 3 aE b&&(eg 3 aE c&&jl d))=(jl d&&(eg 3 aE b&&eg 3 aE c)):=by
   cases eg 3 aE b<;>cases eg 3 aE c<;>cases jl d<;>rfl
  have q:Q (.p (.bl (eg 3 aE b&&(eg 3 aE c&&jl d)))) []:=q
  rw[tl] at q
  revert q
  have hb:∀{z:Pv}{R:Prop},z ∈ [a,b,c,d]->R->gd (dz z&&(isInt (.int 3)&&B4 [(35,aE)] (.fn 35))) R:=λm q=>aq (by show(dz _&&true)=true;rw[cm hd m];rfl) q
  refine lV (cm (x:=d) hd (by simp)) id (λ_=>id) (λ_=>id) (λ_ _=>id) (λds _ q=>?_) (λ_ _=>id) (λ_ _ _=>id)
  exact hb (by simp) (fj (Q:=Q) q λ_ q=>hb (by simp) q)
 ·exact id
theorem DE(B:LX ca W)(S:SX W):DX ca W 49 2 my:=by
 refine B.e (k:=0) 1 true [] [] (.one (.ret (.cmp gN (.comp 1 [0] (.one 0) (.s (.v 0)) (.one (.cmp vR (.mt aaL (.v 1) (.cons (.v 0) .nil)) (.c (.int 1)))) (.v 0)) (.lst .nil)))) S.s79 rfl trivial trivial (tF λx Q xc hd=>?_)
 cases x<;>first|(cases hd;done)|skip
 rename_i l
 obtain⟨h1,_⟩:=ag (show(l.all isStr&&Nat.ble l.length 60)=true from hd)
 intro q
 have q:Q (.p (.bl (jO l))) []:=q
 have e:jO l=l.all λy=>hV ((gT l).count (jG y):Nat) 1:=by
  unfold jO
  rw[cq,mI,<-QJ,aj]
  refine⟨λh y hy=>bN.mpr ?_,λh x hx=>?_⟩
  ·have:=h (jG y) (List.mem_map_of_mem hy)
   lia
  ·obtain⟨y,hy,rfl⟩:=eh.mp hx
   have:=bN.mp (h y hy)
   lia
 rw[e] at q
 refine rE (λy=>!hV ((gT l).count (jG y):Nat) 1) rfl (λy hy=>⟨λR q=>?_,λR q=>q⟩) (ph q)
 have hy:=aj.mp h1 y hy
 revert q
 refine jv hy λz q=>?_
 refine bK (rR h1) ?_
 show R [.p (.bl (qm 1 ((gT l).count z:Nat)))] []
 rw[OY];exact q
noncomputable def nQ:List (Str×Str):= [("set","bv"),("push","lv"),("pop","bl"),("put","lvv"),("ask","bd"),("tell","v"),("if","vrr"),("while","vr"),("try","rbr"),("fail","v"),("call","bfa"),("return","v")]
noncomputable def kdL:List (Nat×Str)->Nat->Str
 | [],_=>""
 |(d,z)::r,c=>match Nat.beq c d with
  |true=>z
  |false=>kdL r c
def kd:Nat->Str:=kdL [(98,"box"),(118,"value"),(108,"list"),(100,"door"),(114,"rows"),(102,"function"),(97,"values")]
def LY(z:Str):lS7:=z.cps.toList.map kd
theorem NA:gS=nQ.map λp=>(p.1,LY p.2):=by decide +kernel
theorem G5{α β:Type}{g:α->β}{w:Str}:∀{l:List (Str×α)},lk w (l.map λp=>(p.1,g p.2))=(lk w l).map g
 | []=>rfl
 |(k,v)::r=>by
  show(match aR w k with|true=>some (g v)|false=>lk w (r.map λp=>(p.1,g p.2)))=(match aR w k with|true=>some v|false=>lk w r).map g
  cases aR w k with
  |true=>rfl
  |false=>exact G5
theorem Xm(w:Str):lk w gS=(lk w nQ).map LY:=by rw[NA,G5]
theorem EJ(a b:Str):aR a b=aR b a:=by
 cases h:aR a b with
 |true=>rw[aZ.mp h,aZ.mpr rfl]
 |false=>rw[fu h]
theorem BK{w:Str}:∀{l:List (Str×Str)},eV (.str w) (l.map λp=>.str p.1) (l.map λp=>.str p.2)=(lk w l).map Pv.str
 | []=>rfl
 |(k,v)::r=>by
  show(match aR k w with|true=>some (Pv.str v)|false=>eV (.str w) (r.map λp=>.str p.1) (r.map λp=>.str p.2))=(match aR w k with|true=>some v|false=>lk w r).map Pv.str
  rw[EJ k w]
  cases aR w k with
  |true=>rfl
  |false=>exact BK
theorem Ca{α:Type}{f:α->Bool}{w:Str}{v:α}:∀{l:List (Str×α)},(l.all λp=>f p.2)=true->lk w l=some v->f v=true
 | [],_,h=>by cases h
 |(k,u)::r,a,h=>by
  rw[aB] at a
  have h:(match aR w k with|true=>some u|false=>lk w r)=some v:=h
  split at h
  ·cases h;exact(ag a).1
  ·exact Ca (ag a).2 h
def Vf:List Nat:= [98,118,108,100,114,102,97]
def Ym(z:Str):Bool:=z.cps.toList.all λc=>hU c Vf
theorem Xn(h:lk w nQ=some z):Ym z=true:=Ca (f:=Ym) (by decide +kernel) h
theorem R1(h:lk w nQ=some z):z.cps.all (·< 128)=true:=Ca (f:=λz=>z.cps.all (·< 128)) (by decide +kernel) h
theorem R3(h:lk w nQ=some z):Nat.ble z.length 3=true:=Ca (f:=λz=>Nat.ble z.length 3) (by decide +kernel) h
def sgO(x:Pv):Nat:=(jG x).cps.toList.headD 0
@[elab_as_elim] theorem sgC {P:Nat->Prop} (h:hU c Vf=true) (h1:P 98) (h2:P 118) (h3:P 108) (h4:P 100) (h5:P 114) (h6:P 102) (h7:P 97):P c:=by
 have:=dM.mp h
 simp only[Vf,aN,ek,pT] at this
 rcases this with rfl|rfl|rfl|rfl|rfl|rfl|rfl<;>assumption
def yC(f:Pv->Bool)(s:Sc):Pv->Bool
 |.tup [k,p]=>fX f s (kd (sgO k)) p
 |_=>false
theorem UK{f:Pv->Bool}{r:List Pv}:(fh (iS z) r).all (yC f s)=(fh ((LY z).map .str) r).all (nA f s):=by
 unfold iS LY
 rw[zh]
 generalize z.cps.toList=l
 induction l generalizing r with
 |nil=>rfl
 |cons c l ih=>
  cases r with
  |nil=>rfl
  |cons p r=>
   show(fX f s (kd c) p&&_)=(fX f s (kd c) p&&_)
   rw[ih]
noncomputable def eF:List Pv->List Pv->List Pv
 |k::ks,u::us=>.tup [k,u]::eF ks us
 |_,_=> []
def ks4:List Pv:= [.str "lists",.str "functions",.str "boxes",.str "inside"]
def Sc.us4(s:Sc):List Pv:= [.lst s.ls,.lst (eF s.ks s.us),.lst s.bs,.bl s.rt]
def Sc.ob(s:Sc):Ob:=.dct ks4 s.us4
structure Sc.Ok (s:Sc):Prop where
 b:s.bs.all aE=true
 l:s.ls.all aE=true
 k:s.ks.all aE=true
 n:jO s.ks=true
 i:s.us.all isInt=true
 e:s.ks.length=s.us.length
 m:s.ks.length<=100
theorem pq:∀{ks us:List Pv},ks.all aE=true->ks.length=us.length->qH (eF ks us)=some (ks,us)
 | [],[],_,_=>rfl
 | [],_::_,_,e=>by cases e
 |_::_,[],_,e=>by cases e
 |k::ks,u::us,h,e=>by
  rw[aB] at h
  show(match lH k,qH (eF ks us) with|some _,some (ks,vs)=>some (k::ks,u::vs)|_,_=>none)=_
  rw[pq (ag h).2 (by simpa using e),show lH k=some (.inr (jG k)) from jv (eW (ag h).1) λz=>rfl]
theorem Ci(h:l.all aE=true):l.all isStr=true:=bU (λ_=>eW) h
theorem Sc.Ok.ff(o:s.Ok):F.ff s.ks s.us ([],[])=(s.ks,s.us):=by
 have:=oR (ks':= []) (us':= []) o.e (Ci o.k) rfl o.n (λ_ _=>rfl)
 rw[lE,lE] at this
 exact this
theorem BJ{x:Str}:∀{ks us:List Pv},ks.all aE=true->ks.length=us.length->(eV (.str x) ks us).isSome=gX (.str x) ks
 | [],[],_,_=>rfl
 | [],_::_,_,e=>by cases e
 |_::_,[],_,e=>by cases e
 |k::ks,u::us,h,e=>by
  rw[aB] at h
  have ih:=BJ (x:=x) (us:=us) (ag h).2 (by simpa using e)
  refine jv (a:=k) (eW (ag h).1) λz=>?_
  show(match aR z x with|true=>some u|false=>eV (.str x) ks us).isSome=(aR z x||gX (.str x) ks)
  cases aR z x with
  |true=>rfl
  |false=>exact ih
theorem Q4(o:s.Ok)(p:Pv):(aE p&&(eV p s.ks s.us).isSome)=(isStr p&&gX p s.ks):=by
 rw[<-j8 o.k]
 cases p with
 |str x=>rw[BJ o.k o.e]
 |_=>rfl
def Zi(R:Sc->Pv->Bool)(m:Int):Ct:=λds h Q _=>pC ds λx r=>rC r λi r=>pC r λd r=>nC r (∃s:Sc,h = [s.ob]/\s.Ok/\gd (Nat.beq i 0&&(dz x&&DW m d)) (Q (.p (.bl (R s x))) [s.ob]))
theorem hL3{b:Ss}{R:Sc->Pv->Bool}(H:∀x (s:Sc) (Q:Dv->Hs->Prop) (xc:XP),dz x=true->s.Ok->Q (.p (.bl (R s x))) [s.ob]->b (eE true 1 Q xc) (j5 n [.p x,.r 0,.p (.int m)]) [s.ob]):∀ds h Q xc,Zi R m ds h Q xc->ds.length=3/\b (eE true h.length Q xc) (j5 n ds) h:=by
 intro ds h Q xc c
 unfold Zi at c
 refine f7 c λx _ c=>nX c λi _ c=>f7 c λd _ c=>eI c λc=>?_
 obtain⟨s,rfl,o,c⟩:=c
 obtain⟨h1,c⟩:=bt c
 obtain⟨h2,h3,h4⟩:=qQ h1
 rw[ao h2]
 exact⟨rfl,tK h4 (H _ s Q xc h3 o c)⟩
theorem Fx{d:Int}(h1:dz x=true)(h2:d=m):(true&&(dz x&&DW m (.int d)))=true:=by
 show(dz x&&lj d m)=true
 rw[h1,cK.mpr h2];rfl
abbrev sj (n:Nat):Ct:=Zi (λs x=>eJ n s x) (6-n)
abbrev Bx (n:Nat):Ct:=Zi (λs x=>row n s x) (6-n)
def Bw(n:Nat):Ct:=λds h Q _=>pC ds λz r=>pC r λx r=>rC r λi r=>pC r λd r=>nC r (∃(s:Sc) (c:Nat),h = [s.ob]/\s.Ok/\z=.str ⟨#[c]⟩/\gd (hU c Vf&&(Nat.beq i 0&&(dz x&&DW (5-n) d))) (Q (.p (.bl (fX (eJ n s) s (kd c) x))) [s.ob]))
theorem Wq{b:Ss}(H:∀c x (s:Sc) (Q:Dv->Hs->Prop) (xc:XP),hU c Vf=true->dz x=true->s.Ok->Q (.p (.bl (fX (eJ k s) s (kd c) x))) [s.ob]->b (eE true 1 Q xc) (j5 n [.p (.str ⟨#[c]⟩),.p x,.r 0,.p (.int (5-k))]) [s.ob]):∀ds h Q xc,Bw k ds h Q xc->ds.length=4/\b (eE true h.length Q xc) (j5 n ds) h:=by
 intro ds h Q xc c
 unfold Bw at c
 refine f7 c λz _ c=>f7 c λx _ c=>nX c λi _ c=>f7 c λd _ c=>eI c λc=>?_
 obtain⟨s,c',rfl,o,rfl,c9⟩:=c
 obtain⟨h1,c9⟩:=bt c9
 obtain⟨h0,h2,h3,h4⟩:=jd h1
 rw[ao h2]
 exact⟨rfl,tK h4 (H _ _ s Q xc h0 h3 o c9)⟩
theorem FP(B:LX ca W)(S:SX W)(n:Nat)(D:DX ca W 42 (3*n+8) (Bx n)):DX ca W 41 (3*n+9) (sj n):=by
 refine B.e (k:=3*n+7) 3 true [(42,Bx n)] [] (.seq (.iff (.not (.val (.bi fW (.cons (.v 0) (.cons (.ty 3) .nil))))) (.one (.ret (.c (.bl false)))) .nil)
 (.one (.ret (.cmp gN (.comp 1 [1,2] (.one 0) (.s (.v 0)) (.one (.not (.val (.cl 42 [0] (.cons (.v 0) (.cons (.v 1) (.cons (.v 2) .nil))))))) (.v 0)) (.lst .nil))))) S.s71 rfl ⟨D,trivial⟩ trivial (hL3 λx s Q xc hd o=>?_)
 refine lV hd id (λ_=>id) (λ_=>id) (λ_ _=>id) (λxs h1 q=>?_) (λ_ _=>id) (λ_ _ _=>id)
 refine rE (λy=>!row n s y) rfl (λy hy=>⟨λR q=>?_,λR q=>q⟩) (ph q)
 exact Exists.intro s (And.intro rfl (And.intro o (aq (Fx (cm h1 hy) rfl) q)))
theorem QN(B:LX ca W)(S:SX W)(UT:DX ca W 38 7 (uX 4))(n:Nat)(r_:DX ca W 41 (3*n+9) (sj n)):DX ca W 43 (3*n+10) (Bw n):=by
 refine B.e (k:=3*n+8) 6 true [(38,uX 4),(41,sj n),(35,je aE),(37,zD)] [] (.seq (.iff (.cmp gN (.v 0) (.c (.str "v"))) (.one (.ret (.cl 38 [] (.cons (.v 1) (.cons (.BN (.v 2) (.c (.str "boxes"))) (.cons (.BN (.v 2) (.c (.str "lists"))) (.cons (.c (.int 4)) .nil))))))) .nil)
 (.seq (.iff (.cmp gN (.v 0) (.c (.str "r"))) (.one (.ret (.cl 41 [0] (.cons (.v 1) (.cons (.v 2) (.cons (.b2 dk (.v 3) (.c (.int 1))) .nil)))))) .nil)
 (.seq (.iff (.cmp gN (.v 0) (.c (.str "a"))) (.seq (.iff (.not (.val (.bi fW (.cons (.v 1) (.cons (.ty 3) .nil))))) (.one (.ret (.c (.bl false)))) .nil)
 (.seq (.fo (.one 4) (.s (.v 1)) (.one (.iff (.not (.val (.cl 38 [] (.cons (.v 4) (.cons (.BN (.v 2) (.c (.str "boxes"))) (.cons (.BN (.v 2) (.c (.str "lists"))) (.cons (.c (.int 4)) .nil))))))) (.one (.ret (.c (.bl false)))) .nil)))
 (.one (.ret (.c (.bl true)))))) .nil)
 (.seq (.iff (.cmp gN (.v 0) (.c (.str "d"))) (.one (.ret (.cl 35 [] (.cons (.v 1) .nil)))) .nil)
 (.seq (.set 5 (.Zn (.cons "b" (.BN (.v 2) (.c (.str "boxes"))) (.cons "l" (.BN (.v 2) (.c (.str "lists"))) (.cons "f" (.bi P' (.cons (.bi QY (.cons (.BN (.v 2) (.c (.str "functions"))) .nil)) .nil)) .nil)))))
 (.one (.ret (.cl 37 [] (.cons (.v 1) (.cons (.BN (.v 5) (.v 0)) .nil)))))))))) S.s73 rfl ⟨UT.le (by lia),r_,(rF B S).le (by lia),(BF B S).le (by lia),trivial⟩ trivial (Wq λc x s Q xc hc hd o=>?_)
 have vl:∀{y:Pv}{R:Prop},dz y=true->R->gd (dz y&&(Hi (.lst s.bs)&&(Hi (.lst s.ls)&&DW (4:Nat) (.int 4)))) R:=λhy q=>aq (by rw[hy,show Hi (.lst s.bs)=true from o.b,show Hi (.lst s.ls)=true from o.l];rfl) q
 have am:∀{v:List Pv}{R:Prop},v.all aE=true->R->gd (dz x&&oV (.lst v)) R:=λfv q=>aq (by rw[hd,show oV (.lst _)=true from tS fv];rfl) q
 have e2:(F.ff s.ks s.us ([],[])).1=s.ks:=by rw[o.ff]
 have e3:kS (F.ff s.ks s.us ([],[])).1=some (gT s.ks):=by rw[e2];exact rR (Ci o.k)
 refine sgC hc (λq=>?_) (λq=>?_) (λq=>?_) (λq=>?_) (λq=>?_) (λq=>?_) (λq=>?_)
 ·have q:Q (.p (.bl (aE x&&gX x s.bs))) [s.ob]:=q
  rw[j8 o.b] at q
  exact bK (pq o.k o.e) (aq (ble_iff.mpr o.m) (bK e3 (am o.b q)))
 ·exact vl hd q
 ·have q:Q (.p (.bl (aE x&&gX x s.ls))) [s.ob]:=q
  rw[j8 o.l] at q
  exact bK (pq o.k o.e) (aq (ble_iff.mpr o.m) (bK e3 (am o.l q)))
 ·have q:Q (.p (.bl (aE x&&true))) [s.ob]:=q
  rw[cZ] at q
  exact aq hd q
 ·exact Exists.intro s (And.intro rfl (And.intro o (aq (Fx hd (by lia)) q)))
 ·have q:Q (.p (.bl (aE x&&(eV x s.ks s.us).isSome))) [s.ob]:=q
  rw[Q4 o,<-e2] at q
  exact bK (pq o.k o.e) (aq (ble_iff.mpr o.m) (bK e3 (am (by rw[e2];exact o.k) q)))
 ·revert q
  refine lV hd id (λ_=>id) (λ_=>id) (λ_ _=>id) (λxs hd q=>?_) (λ_ _=>id) (λ_ _ _=>id)
  have q:Q (.p (.bl (xs.all (val 4 s.bs s.ls)))) [s.ob]:=q
  refine fk (λpre post σ h=>h = [s.ob]/\(∃v w,σ = [some (.p (.str ⟨#[97]⟩)),some (.p (.tup xs)),some (.r 0),some (.p (.int (5-n))),v,w])/\xs.all (val 4 s.bs s.ls)=post.all (val 4 s.bs s.ls)) ⟨rfl,⟨_,_,rfl⟩,rfl⟩ (λpre x post σ h e j=>?_) (λσ h j=>?_)
  ·obtain⟨rfl,⟨v,w,rfl⟩,j⟩:=j
   refine vl (cm hd (by rw[e];simp)) ?_
   rw[aB] at j
   rw[j] at q
   exact gD (Q:=Q) q λc _=>⟨rfl,⟨_,_,rfl⟩,by rw[j,show val 4 s.bs s.ls x=true from c];rfl⟩
  ·obtain⟨rfl,⟨v,w,rfl⟩,j⟩:=j
   rw[j] at q
   exact q
noncomputable def JZ:List (Str×Str):= [("set","bv"),("push","lv"),("pop","bl"),("put","lvv"),("ask","bd"),("tell","v")]
noncomputable def wO:List (Str×Str):= [("if","vrr"),("while","vr"),("try","rbr"),("fail","v"),("call","bfa"),("return","v")]
def fK(l:List (Str×Str)):List Pv:=l.map λp=>.str p.1
def fU(l:List (Str×Str)):List Pv:=l.map λp=>.str p.2
theorem p8:∀{l:List (Str×Str)},(fK l).all isStr=true/\gT (fK l)=l.map (·.1)
 | []=>⟨rfl,rfl⟩
 |p::r=>⟨p8 (l:=r).1,by show p.1::gT (fK r)=_;rw[p8.2];rfl⟩
theorem Cg:∀{a b:lS7},zd (a++b)=true->zd b=true/\∀x∈b,iu x a=false
 | [],b,h=>⟨h,λ_ _=>rfl⟩
 |y::a,b,h=>by
  obtain⟨h1,h2⟩:=ag (show(!iu y (a++b)&&zd (a++b))=true from h)
  obtain⟨i1,i2⟩:=Cg h2
  refine⟨i1,λx hx=>?_⟩
  show(aR x y||iu x a)=false
  rw[i2 x hx,xB]
  refine bG.mpr λe=>?_
  rw[oY (aM a (by rw[<-aZ.mp e];exact hx))] at h1
  cases h1
theorem x8{l l':List (Str×Str)}(h:zd ((l'++l).map (·.1))=true):F.ff (fK l) (fU l) (fK l',fU l')=(fK (l'++l),fU (l'++l)):=by
 rw[bR] at h
 obtain⟨h1,h2⟩:=Cg h
 rw[oR (by unfold fK fU;rw[ah,ah]) p8.1 p8.1 (by rw[p8.2];exact h1) (λx hx=>by rw[p8.2] at hx⊢;exact h2 x hx)]
 unfold fK fU
 rw[bR,bR]
def VR:Nat->Ct
 |0=>E3
 |n+1=>Bw n
theorem BI(B:LX ca W)(S:SX W)(n:Nat)(D43:DX ca W 43 (3*n+7) (VR n)):DX ca W 42 (3*n+8) (Bx n):=by
 refine B.e (k:=3*n+6) 6 true [(43,VR n)] [] (.seq (.iff (.bo (Wm.oc (.cmp vR (.v 2) (.c (.int 5))) (Wm.oc (.not (.val (.bi fW (.cons (.v 0) (.cons (.ty 3) .nil))))) (Wm.oc (.cmp gN (.v 0) (.tup .nil)) (Wm.o1 (.not (.val (.bi fW (.cons (.ix (.v 0) (.c (.int 0))) (.cons (.ty 0) .nil)))))))))) (.one (.ret (.c (.bl false)))) .nil)
 (.seq (.set 3 (.Zn (.cons "set" (.c (.str "bv")) (.cons "push" (.c (.str "lv")) (.cons "pop" (.c (.str "bl")) (.cons "put" (.c (.str "lvv")) (.cons "ask" (.c (.str "bd")) (.cons "tell" (.c (.str "v")) .nil))))))))
 (.cut (.ex (.upd (.v 3) (.Zn (.cons "if" (.c (.str "vrr")) (.cons "while" (.c (.str "vr")) (.cons "try" (.c (.str "rbr")) (.cons "fail" (.c (.str "v")) (.cons "call" (.c (.str "bfa")) (.cons "return" (.c (.str "v")) .nil)))))))))
 (.seq (.iff (.bo (Wm.oc (.F' true (.ix (.v 0) (.c (.int 0))) (.v 3)) (Wm.o1 (.cmp Kx (.bi dE (.cons (.BN (.v 3) (.ix (.v 0) (.c (.int 0)))) .nil)) (.b2 pX (.bi dE (.cons (.v 0) .nil)) (.c (.int 1))))))) (.one (.ret (.c (.bl false)))) .nil)
 (.seq (.iff (.bo (Wm.ac (.cmp gN (.ix (.v 0) (.c (.int 0))) (.c (.str "return"))) (Wm.a1 (.not (.val (.BN (.v 1) (.c (.str "inside")))))))) (.one (.ret (.c (.bl false)))) .nil)
 (.seq (.fo (.many [4,5]) (.x (.cons (.BN (.v 3) (.ix (.v 0) (.c (.int 0)))) (.cons (.sl (.v 0) (.of (.c (.int 1))) .no) .nil))) (.one (.iff (.not (.val (.cl 43 [0] (.cons (.v 4) (.cons (.v 5) (.cons (.v 1) (.cons (.v 2) .nil))))))) (.one (.ret (.c (.bl false)))) .nil)))
 (.one (.ret (.bo (Bm.oc (.cmp Kx (.ix (.v 0) (.c (.int 0))) (.c (.str "call"))) (Bm.o1 (.cmp gN (.bi dE (.cons (.ix (.v 0) (.c (.int 3))) .nil)) (.BN (.bi QY (.cons (.BN (.v 1) (.c (.str "functions"))) .nil)) (.ix (.v 0) (.c (.int 2)))))))))))))))) S.s72 rfl ⟨D43,trivial⟩ trivial (hL3 λx s Q xc hd o q=>?_)
 cases n with
 |zero=>exact q
 |succ n=>
  refine gE (bG.mpr λc=>absurd (dN.mp c) (by show ¬ ((5:Int)<6-(n+1:Nat));lia)) ?_
  revert q
  refine lV hd id (λ_=>id) (λ_=>id) (λ_ _=>id) (λxs hd=>?_) (λ_ _=>id) (λ_ _ _=>id)
  rcases xs with _|⟨w,r⟩
  ·exact id
  refine lV (nq hd) id (λ_=>id) (λ_=>id) (λw _ q=>?_) (λ_ _=>id) (λ_ _=>id) (λ_ _ _=>id)
  have q:Q (.p (.bl (yH (eJ n s) s w r (lk w gS)))) [s.ob]:=q
  rw[Xm] at q
  refine Exists.intro (λσ h=>σ = [some (.p (.tup (.str w::r))),some (.r 0),some (.p (.int (6-(n+1:Nat)))),some (.r 1),none,none]/\∃a b,h = [s.ob,.dct (fK nQ) (fU nQ),.dct a b]) (And.intro ?_ ?_)
  ·refine And.intro rfl (Exists.intro (F.ff (fK wO) (fU wO) (fK [],fU [])).1 (Exists.intro (F.ff (fK wO) (fU wO) (fK [],fU [])).2 ?_))
   show [s.ob,Ob.dct (F.ff (fK wO) (fU wO) ((F.ff (fK JZ) (fU JZ) (fK [],fU [])).1,(F.ff (fK JZ) (fU JZ) (fK [],fU [])).2)).1 (F.ff (fK wO) (fU wO) ((F.ff (fK JZ) (fU JZ) (fK [],fU [])).1,(F.ff (fK JZ) (fU JZ) (fK [],fU [])).2)).2,Ob.dct (F.ff (fK wO) (fU wO) (fK [],fU [])).1 (F.ff (fK wO) (fU wO) (fK [],fU [])).2]=_
   rw[x8 (l:=JZ) (by decide +kernel),x8 (l:=wO) (l':= []++JZ) (by decide +kernel)];rfl
  rintro σ' h' ⟨rfl,a0,b0,rfl⟩
  have dg:eV (.str w) (fK nQ) (fU nQ)=(lk w nQ).map .str:=BK
  cases e:lk w nQ with
  |none=>
   rw[e] at q dg
   exact sg (show AI true (eV (.str w) (fK nQ) (fU nQ)).isSome=true by rw[dg];rfl) q
  |some z=>
   rw[e] at q dg
   have lz:=ble_iff.mp (R3 e)
   refine gE (show AI true (eV (.str w) (fK nQ) (fU nQ)).isSome=false by rw[dg];rfl) (bK dg (aq (lK (aA lz (by decide))) ?_))
   have q:Q (.p (.bl (lj ((r.length+1:Nat):Int) (1+(((LY z).map Pv.str).length:Nat))&&((!(aR w "return" && !s.rt))&&((fh ((LY z).map .str) r).all (nA (eJ n s) s)&&(!aR w "call"||sI s r)))))) [s.ob]:=q
   have he:lj ((r.length+1:Nat):Int) (1+(((LY z).map Pv.str).length:Nat))=lj (z.length:Nat) (((r.length+1:Nat):Int)-1):=by
    have:((LY z).map Pv.str).length=z.length:=by unfold LY;rw[ah,ah,bX];rfl
    rw[this,cq,cK,cK];lia
   rw[he,<-UK] at q
   refine gD (Q:=Q) (a:=lj (z.length:Nat) (((r.length+1:Nat):Int)-1)) q λc q=>Br (Q:=Q) q λq=>?_
   refine bK dg (aq (R1 e) ?_)
   have q:Q (.p (.bl ((fh (iS z) r).all (yC (eJ n s) s)&&(!aR w "call"||sI s r)))) [s.ob]:=q
   refine fk (λpre post σ h=>(∃a b c d,h = [s.ob,.dct a b,.dct c d])/\(∃v v',σ = [some (.p (.tup (.str w::r))),some (.r 0),some (.p (.int (6-(n+1:Nat)))),some (.r 1),v,v'])/\Q (.p (.bl (post.all (yC (eJ n s) s)&&(!aR w "call"||sI s r)))) [s.ob]/\pre.all (yC (eJ n s) s)=true) ⟨⟨_,_,_,_,rfl⟩,⟨_,_,rfl⟩,q,rfl⟩ (λpre y post σ h ex j=>?_) (λσ h j=>?_)
   ·obtain⟨⟨_,_,_,_,rfl⟩,⟨v,v',rfl⟩,q,pa⟩:=j
    have hy:y∈fh (iS z) r:=by rw[show fh (iS z) r=_ from ex];simp
    obtain⟨k,p,hk,hp,rfl⟩:=kY hy
    obtain⟨ch,E5,rfl⟩:=eh.mp hk
    rw[aB,Bool.and_assoc] at q
    refine Exists.intro s (Exists.intro ch (And.intro rfl (And.intro o (And.intro rfl (aq ?_ ?_)))))
    ·show(hU ch Vf&&(dz p&&lj (6-(n+1:Nat)) (5-n)))=true
     rw[aj.mp (Xn e) ch E5,cm hd (ax _ hp),cK.mpr (by lia)];rfl
    ·exact gD (Q:=Q) (a:=yC (eJ n s) s (.tup [.str ⟨#[ch]⟩,p])) q λc q=>⟨⟨_,_,_,_,rfl⟩,⟨_,_,rfl⟩,q,by rw[bA,pa,aB,c];rfl⟩
   ·obtain⟨⟨_,_,_,_,rfl⟩,⟨v,v',rfl⟩,q,pa⟩:=j
    have q:Q (.p (.bl (!aR w "call"||sI s r))) [s.ob]:=q
    refine OB (Q:=Q) (a:=!aR w "call") q λc3 q3=>?_
    have hw:w="call":=aZ.mp (not_not c3)
    subst hw
    have e:some ("bfa":Str)=some z:=e
    cases e
    have c:=cK.mp (show lj ((3:Nat):Int) (((r.length+1:Nat):Int)-1)=true from c)
    have hr:r.length=3:=by lia
    obtain⟨x,f,v,rfl⟩:∃x f v,r = [x,f,v]:=by
     rcases r with _|⟨x,_|⟨f,_|⟨v,_|⟨z,r⟩⟩⟩⟩<;>first|exact⟨_,_,_,rfl⟩|(simp at hr;done)
    have pa:(fX (eJ n s) s "box" x&&(fX (eJ n s) s "function" f&&(fX (eJ n s) s "values" v&&true)))=true:=pa
    obtain⟨_,cf,cv,_⟩:=jd pa
    have cf:(aE f&&(eV f s.ks s.us).isSome)=true:=cf
    have cv:(jl v&&(nh v).all (val 4 s.bs s.ls))=true:=cv
    obtain⟨cn,cf⟩:=ag cf
    obtain⟨u,hu⟩:=dH.mp cf
    have hi:=aj.mp o.i u (wu hu)
    revert q3 hu
    refine jv (eW cn) λf=>N5 (ag cv).1 λv=>As hi λu q hu=>?_
    refine bK (pq o.k o.e) (aq (ble_iff.mpr o.m) ?_)
    refine bK (show eV (.str f) (F.ff s.ks s.us ([],[])).1 (F.ff s.ks s.us ([],[])).2=some (.int u) by rw[o.ff];exact hu) ?_
    have q:Q (.p (.bl (match eV (.str f) s.ks s.us with|some c=>lj (v.length:Nat) (ym c)|none=>false))) [s.ob]:=q
    rw[hu] at q
    exact q
theorem FQ(B:LX ca W)(S:SX W)(UT:DX ca W 38 7 (uX 4)):∀n,DX ca W 42 (3*n+8) (Bx n)
 |0=>BI B S 0 (Dt.no S.s73)
 |n+1=>BI B S (n+1) (QN B S UT n (FP B S n (FQ B S UT n)))
theorem wN{α:Type}{f:Str->α->Bool}{w:Str}{v:α}:∀{l:List (Str×α)},(l.all λp=>f p.1 p.2)=true->lk w l=some v->f w v=true
 | [],_,h=>by cases h
 |(k,u)::r,a,h=>by
  rw[aB] at a
  have h:(match aR w k with|true=>some u|false=>lk w r)=some v:=h
  cases e:aR w k with
  |true=>
   rw[e] at h;cases h
   rw[aZ.mp e];exact(ag a).1
  |false=>rw[e] at h;exact wN (ag a).2 h
def E4(w:Str):Bool:=gX (.str w) [.str "if",.str "while",.str "try"]
def yp(w k:Str):Bool:=match aR k "rows" with
 |true=>E4 w
 |false=>!E4 w||(aR k "value"||aR k "box")
theorem Me{ks:lS7}(h:lk w gS=some ks):ks.all (yp w)=true:=wN (f:=λw ks=>ks.all (yp w)) (by decide +kernel) h
def jt:Pv->Bool
 |.tup []=>true
 |.tup (.tup _::_)=>true
 |_=>false
theorem IM(h:eJ n s p=true):jt p=true:=by
 refine iT h λxs hx=>?_
 cases xs with
 |nil=>rfl
 |cons y r=>
  rw[aB] at hx
  cases n with
  |zero=>exact nU ((ag hx).1)
  |succ n=>
   obtain⟨w,z,e,_⟩:=mh (ag hx).1
   rw[e];rfl
theorem Oj(h:val n b l p=true):jt p=false:=by
 cases n with
 |zero=>exact nU h
 |succ n=>
  cases p with
  |tup xs=>cases xs with
   |nil=>exact nU h
   |cons a r=>cases a with
    |str w=>rfl
    |_=>exact nU h
  |_=>rfl
theorem R9(h:aE p=true):jt p=false:=by cases p<;>first|rfl|cases h
theorem SN{k:Str}(g:yp w k=true)(h:fX (eJ n s) s k p=true):(E4 w&&jt p)=aR k "rows"/\(aR k "rows"=true->eJ n s p=true):=by
 unfold yp at g
 unfold fX at h
 cases e:aR k "rows" with
 |true=>
  rw[e] at g h
  exact⟨by rw[show E4 w=true from g,IM h];rfl,λ_=>h⟩
 |false=>
  rw[e] at g h
  refine⟨?_,λz=>by cases z⟩
  rcases (dX _ _).mp g with g|g
  ·rw[gI g];rfl
  ·cases e2:aR k "value" with
   |true=>rw[e2] at h;rw[Oj h,mO]
   |false=>
    rw[e2] at h g
    have e3:aR k "box"=true:=g
    have hk:=aZ.mp e3
    subst hk
    rw[R9 (ag (show(aE p&&gX p s.bs)=true from h)).1,mO]
def cw(n:Nat)(w:Str)(p:Pv):Nat:=match E4 w&&jt p with
 |true=>kE n p
 |false=>0
theorem Pz{n:Nat}{s:Sc}{w:Str}:∀{ks:lS7}{r:List Pv},r.length=ks.length->ks.all (yp w)=true->(fh (ks.map .str) r).all (nA (eJ n s) s)=true->dF (cw n w) r=dF (kE n) (nN r (some ks))/\∀p∈r,(E4 w&&jt p)=true->eJ n s p=true
 | [],[],_,_,_=>⟨rfl,λ_ h=>by cases h⟩
 | [],_::_,e,_,_=>by cases e
 |_::_,[],e,_,_=>by cases e
 |k::ks,p::r,e,g,h=>by
  rw[aB] at g
  obtain⟨h1,h2⟩:=ag (show(fX (eJ n s) s k p&&(fh (ks.map .str) r).all (nA (eJ n s) s))=true from h)
  obtain⟨c1,c2⟩:=SN (ag g).1 h1
  obtain⟨i1,i2⟩:=Pz (by simpa using e) (ag g).2 h2
  refine⟨?_,λy hy hc=>?_⟩
  ·show cw n w p+dF (cw n w) r=dF (kE n) (((Pv.tup [.str k,p]::fh (ks.map .str) r).filter nz).map A5)
   have e1:cw n w p=match aR k "rows" with|true=>kE n p|false=>0:=by unfold cw;rw[c1]
   rw[i1,e1]
   cases er:aR k "rows" with
   |true=>
    rw[fD (show nz (.tup [.str k,p])=true from er)];rfl
   |false=>
    rw[fC (by show ¬aR k "rows"=true;rw[er];exact aH)]
    show 0+_=_
    rw[Vn];rfl
  ·rcases aN.mp hy with rfl|hy
   ·exact c2 (by rw[<-c1];exact hc)
   ·exact i2 y hy hc
theorem Nx(h:row (n+1) s x=true):∃w r,x=.tup (.str w::r)/\1+dF (cw n w) r=dD (n+1) x/\∀p∈r,(E4 w&&jt p)=true->eJ n s p=true:=by
 obtain⟨w,r,e0,h'⟩:=mh h
 clear h
 have h:=h'
 clear h'
 subst e0
 refine⟨w,r,rfl,?_⟩
 show 1+_=1+dF (kE n) (nN r (lk w gS))/\_
 cases e:lk w gS with
 |none=>rw[e] at h;cases h
 |some ks=>
  rw[e] at h
  obtain⟨h1,_,h,_⟩:=jd h
  have hl:=cK.mp h1
  rw[ah] at hl
  obtain⟨a,b⟩:=Pz (w:=w) (by lia) (Me e) h
  exact⟨by rw[a],b⟩
abbrev si (n:Nat):Ct:=Zj dz λx K=>∃s,eJ n s x=true/\K (.int (kE n x:Nat))
theorem CT{n:Nat}:∀{xs:List Pv},(∀x∈xs,1<=dD n x)->dF (dD n) xs=xs.length+dF (λx=>dD n x-1) xs
 | [],_=>rfl
 |x::r,h=>by
  show dD n x+dF (dD n) r=r.length+1+(dD n x-1+dF (λx=>dD n x-1) r)
  rw[CT λy hy=>h y (ax _ hy)]
  have:=h x aL
  lia
def cCm:Nat->Ct
 |0=>E3
 |n+1=>si n
theorem xW(B:LX ca W)(S:SX W)(n:Nat)(s_:DX ca W 50 (n+1) (cCm n)):DX ca W 50 (n+2) (si n):=by
 refine B.e (k:=n) 4 true [(50,cCm n)] [] (.seq (.set 1 (.bi dE (.cons (.v 0) .nil)))
 (.seq (.fo (.one 2) (.s (.v 0)) (.one (.fo (.one 3) (.s (.sl (.v 2) (.of (.c (.int 1))) .no)) (.one (.iff (.bo (Wm.ac (.cmp OC (.ix (.v 2) (.c (.int 0))) (.lst (.cons (.c (.str "if")) (.cons (.c (.str "while")) (.cons (.c (.str "try")) .nil))))) (Wm.a1 (.val (.bi fW (.cons (.v 3) (.cons (.ty 3) .nil))))))) (.one (.iff (.bo (Wm.oc (.cmp gN (.v 3) (.tup .nil)) (Wm.o1 (.val (.bi fW (.cons (.ix (.v 3) (.c (.int 0))) (.cons (.ty 3) .nil))))))) (.one (.set 1 (.b2 dk (.v 1) (.cl 50 [] (.cons (.v 3) .nil))))) .nil)) .nil)))))
 (.one (.ret (.v 1))))) S.s80 rfl ⟨s_,trivial⟩ trivial (tF λx Q xc hd c=>?_)
 obtain⟨s,h,q⟩:=c
 revert q hd
 refine iT h λxs hx hd q=>?_
 have q:Q (.p (.int (dF (dD n) xs:Nat))) []:=q
 rw[CT λx hm=>by cases n with|zero=>exact nU (aj.mp hx x hm)|succ n=>exact de 1 _] at q
 refine fk (λpre post σ h=>h = []/\∃v3 v4,σ = [some (.p (.tup xs)),some (.p (.int ((xs.length+dF (λx=>dD n x-1) pre:Nat):Int))),v3,v4]) ⟨rfl,_,_,rfl⟩ (λpre x post σ h e j=>?_) (λσ h j=>?_)
 ·obtain⟨rfl,v3,v4,rfl⟩:=j
  have hm:x∈xs:=by rw[e];simp
  have hr:=aj.mp hx x hm
  cases n with
  |zero=>exact nU hr
  |succ n=>
   obtain⟨w,r,rfl,hc,hp⟩:=Nx hr
   have dx:=cm hd hm
   refine fk (λlI tW σ h=>h = []/\∃v4,σ = [some (.p (.tup xs)),some (.p (.int ((xs.length+dF (λx=>dD (n+1) x-1) pre+dF (cw n w) lI:Nat):Int))),some (.p (.tup (.str w::r))),v4]) ⟨rfl,_,rfl⟩ (λlI p tW σ h e2 j=>?_) (λσ h j=>?_)
   ·obtain⟨rfl,v4,rfl⟩:=j
    have e2:r=lI++p::tW:=e2
    have hpm:p∈r:=by rw[e2];simp
    have dp:dz p=true:=cm dx (ax _ hpm)
    have hp:=hp p hpm
    have no:(E4 w&&jt p)=false->(xs.length+dF (λx=>dD (n+1) x-1) pre+dF (cw n w) (lI ++ [p]))=xs.length+dF (λx=>dD (n+1) x-1) pre+dF (cw n w) lI:=λz=>by
     rw[fJ]
     show _+(_+((match E4 w&&jt p with|true=>kE n p|false=>0)+0))=_
     rw[z];rfl
    have yes:(E4 w&&jt p)=true->(xs.length+dF (λx=>dD (n+1) x-1) pre+dF (cw n w) (lI ++ [p]))=xs.length+dF (λx=>dD (n+1) x-1) pre+dF (cw n w) lI+kE n p:=λz=>by
     rw[fJ]
     show _+(_+((match E4 w&&jt p with|true=>kE n p|false=>0)+0))=_
     rw[z]
     show _+(_+(kE n p+0))=_
     lia
    refine dC (c:=E4 w) (λc=>?_) λc=>⟨rfl,_,by rw[no (by rw[c];rfl)];rfl⟩
    revert hp no yes
    rw[c]
    refine lV dp ?_ (λ_=>?_) (λ_=>?_) (λ_ _=>?_) (λps dp=>?_) (λ_ _=>?_) (λ_ _ _=>?_)
    case refine_5=>
     intro hp no yes
     cases ps with
     |nil=>exact aq dp (Exists.intro s (And.intro (hp rfl) ⟨rfl,_,by rw[yes rfl];rfl⟩))
     |cons a ps=>
      have da:dz a=true:=nq dp
      revert dp hp no yes
      refine lV da ?_ (λ_=>?_) (λ_=>?_) (λ_ _=>?_) (λps da=>?_) (λ_ _=>?_) (λ_ _ _=>?_)
      case refine_5=>exact λdp hp no yes=>aq dp (Exists.intro s (And.intro (hp rfl) ⟨rfl,_,by rw[yes rfl];rfl⟩))
      all_goals exact λdp hp no yes=>⟨rfl,_,by rw[no rfl];rfl⟩
    all_goals exact λhp no yes=>⟨rfl,_,by rw[no rfl];rfl⟩
   ·obtain⟨rfl,v4,rfl⟩:=j
    have ec:dF (λx=>dD (n+1) x-1) (pre ++ [.tup (.str w::r)])=dF (λx=>dD (n+1) x-1) pre+dF (cw n w) r:=by
     rw[fJ]
     show _+(dD (n+1) (.tup (.str w::r))-1+0)=_
     rw[<-hc];lia
    exact⟨rfl,_,_,by rw[ec,<-Nat.add_assoc];rfl⟩
 ·obtain⟨rfl,v3,v4,rfl⟩:=j
  exact q
theorem BG(B:LX ca W)(S:SX W):∀n,DX ca W 50 (n+2) (si n)
 |0=>xW B S 0 (Dt.no S.s80)
 |n+1=>xW B S (n+1) (BG B S n)
def eA:Option Nat->Str
 |none=>""
 |some 0=>"program"
 |some 1=>"row"
 |some _=>"long"
abbrev Bv:Ct:=Zh (λb l f r=>dz (.tup [b,l,f,r])) λb l f r=>.str (eA (iz b l f r))
def gU(b l f r:Pv):Bool:=eg 6 ef b&&(eg 3 isList l&&(jl r&&(eg 4 cO f&&(jO (d9 b++d9 l)&&(jO (d9 f)&&(nh f).all λg=>jO (d9 b++d9 l++hZ g))))))
theorem Fj{b l f:Pv}:iz b l f r=vE (gU b l f r) 0 (vE (kQ b l f r) 1 (vE (!qm 60 (ko f r:Nat)) 2 none)):=by
 unfold iz kW jS gU
 cases eg 6 ef b<;>cases eg 3 isList l<;>cases jl r<;>cases eg 4 cO f<;>cases jO (d9 b++d9 l)<;>cases jO (d9 f)<;>cases ((nh f).all λg=>jO (d9 b++d9 l++hZ g))<;>rfl
theorem yE:∀{f:List Pv},eF (f.map bC) (f.map jR)=f.map pk
 | []=>rfl
 |x::r=>by
  show Pv.tup [bC x,jR x]::eF (r.map bC) (r.map jR)=_
  rw[yE];rfl
def ly(r:Pv):Pv:=.tup [.str "",.tup [],.tup [],r]
def LB(g:Pv):Bool:=!iZ (bC g) (.str "")
def rk(b l f g:Pv):Bool:=eJ 5 (jV b l f (hZ g) (LB g)) (mi g)
theorem Xz(h:aE (.str z)=true):aR z ""=false:=bG.mpr λe=>by
 rw[aZ.mp e] at h
 exact nU h
theorem B3{g:Pv}(h:cO g=true):LB g=true:=by
 unfold cO at h
 split at h
 ·rename_i a b c d
  have n:=(ag h).1
  show(!iZ a (.str ""))=true
  revert n
  refine jv (eW (ag h).1) λz n=>?_
  show(!aR z "")=true
  rw[Xz n];rfl
 ·cases h
theorem Nz{b l:Pv}(h:f.all cO=true):kQ b l (.tup f) r=(f ++ [ly r]).all (rk b l (.tup f)):=by
 rw[bA]
 show((f.all λg=>eJ 5 (jV b l (.tup f) (hZ g) true) (mi g))&&eJ 5 (jV b l (.tup f) [] false) r)=(_&&(eJ 5 (jV b l (.tup f) [] false) r&&true))
 rw[cZ]
 congr 1
 rw[cq,aj,aj]
 refine⟨λk g hg=>?_,λk g hg=>?_⟩
 ·have:=k g hg
  unfold rk
  rw[B3 (aj.mp h g hg)];exact this
 ·have:=k g hg
  unfold rk at this
  rw[B3 (aj.mp h g hg)] at this;exact this
def cr(g:Pv):Nat:=kE 5 (mi g)
theorem Jw{r:Pv}:∀{f:List Pv},ko (.tup f) r=f.length+dF cr (f ++ [ly r])
 | []=>by
  show 0+kE 5 r=0+(kE 5 r+0)
  lia
 |x::f=>by
  have:=Jw (r:=r) (f:=f)
  show(1+cr x+dF jH f)+kE 5 r=f.length+1+(cr x+dF cr (f ++ [ly r]))
  have h:dF jH f+kE 5 r=f.length+dF cr (f ++ [ly r]):=this
  lia
theorem wY(i:∀x,g x=true->aE (bC x)=true)(h:xs.all g=true):(xs.map bC).all aE=true:=by
 rw[gZ]
 exact bU i h
theorem Qw(h:ef x=true):aE (bC x)=true:=by
 unfold ef at h
 split at h
 ·exact(ag h).1
 ·cases h
theorem Md(h:isList x=true):aE (bC x)=true:=by
 unfold isList at h
 split at h
 ·exact(ag h).1
 ·cases h
theorem BR(h:cO x=true):aE (bC x)=true:=by
 unfold cO at h
 split at h
 ·exact(ag h).1
 ·cases h
theorem SM(h:cO x=true):(hZ x).all aE=true:=by
 unfold cO at h
 split at h
 ·rename_i a b c d
  obtain⟨_,h1,h2,h⟩:=jd h
  refine dB h1 λb l1 b1=>dB h2 λc l2 c1=>?_
  show(b++c).all aE=true
  rw[bA,b1,c1];rfl
 ·cases h
theorem HC(af:f.all cO=true)(h:x∈f ++ [ly r]):∃a p o d,x=.tup [a,.tup p,.tup o,d]/\(p++o).all aE=true/\p.length+o.length<=6/\isStr a=true:=by
 rcases bu.mp h with h|h
 ·have z:=aj.mp af x h
  have n:=SM z
  have l:=(rK z).2.2
  have m:=eW (BR z)
  revert n l m
  refine wA z λa b c d _ n l m=>⟨a,b,c,d,rfl,n,?_,m⟩
  rw[<-ai];exact l
 ·rw[aO.mp h]
  exact⟨_,_,_,_,rfl,rfl,by decide,rfl⟩
theorem abh{o:List Pv}(ab:b.all ef=true)(al:l.all isList=true)(af:f.all cO=true)(lf:(f.length:Int)<=4)(uf:jO (f.map bC)=true)(no:o.all aE=true):(jV (.tup b) (.tup l) (.tup f) o rt).Ok where
 b:=by show(b.map bC++o).all aE=true;rw[bA,wY (λ_=>Qw) ab,no];rfl
 l:=wY (λ_=>Md) al
 k:=wY (λ_=>BR) af
 n:=uf
 i:=by show(f.map jR).all isInt=true;rw[gZ];exact aj.mpr λ_ _=>rfl
 e:=by show(f.map bC).length=(f.map jR).length;rw[ah,ah]
 m:=by show(f.map bC).length<=100;rw[ah];lia
def VE(ks us:List Pv)(x y:Pv):Prop:=∀u v,gj (.str "inside") (gj (.str "boxes") ks)=ks4/\jh (.str "inside") v (gj (.str "boxes") ks) (jh (.str "boxes") u ks us) = [x,y,u,v]
theorem DI(k:Pv)(ks:List Pv):(gj k ks).length<=ks.length+1:=by
 unfold gj
 split
 ·lia
 ·rw[ai];exact au _
theorem KW(B:LX ca W)(S:SX W)(Vz:DX ca W 44 5 (sA [(46,ef),(47,isList),(48,cO)]))(D46:DX ca W 46 4 (je ef))(D47:DX ca W 47 4 (je isList))(D48:DX ca W 48 4 (je cO))(D49:DX ca W 49 2 my)(r_:DX ca W 41 24 (sj 5))(s_:DX ca W 50 7 (si 5)):DX ca W 51 25 Bv:=by
 refine B.eN (k:=23) ["_law_boxes","_law_lists","_law_functions","_law_rows_here","_law_names_here","_law_one","_law_scope","_law_found"] true [(44,sA [(46,ef),(47,isList),(48,cO)]),(46,je ef),(47,je isList),(48,je cO),(49,my),(41,sj 5),(50,si 5)] [] (.seq (.iff (.bo (Wm.oc (.not (.val (.cl 44 [] (.cons (.v 0) (.cons (.c (.int 6)) (.cons (.f 46) .nil)))))) (Wm.o1 (.not (.val (.cl 44 [] (.cons (.v 1) (.cons (.c (.int 3)) (.cons (.f 47) .nil))))))))) (.one (.ret (.c (.str "program")))) .nil)
 (.seq (.iff (.not (.val (.bi fW (.cons (.v 3) (.cons (.ty 3) .nil))))) (.one (.ret (.c (.str "program")))) .nil)
 (.seq (.set 4 (.b2 dk (.comp 1 [] (.one 0) (.s (.v 0)) .no (.ix (.v 0) (.c (.int 0)))) (.comp 1 [] (.one 0) (.s (.v 1)) .no (.ix (.v 0) (.c (.int 0))))))
 (.seq (.iff (.bo (Wm.oc (.not (.val (.cl 44 [] (.cons (.v 2) (.cons (.c (.int 4)) (.cons (.f 48) .nil)))))) (Wm.o1 (.not (.val (.cl 49 [] (.cons (.v 4) .nil))))))) (.one (.ret (.c (.str "program")))) .nil)
 (.seq (.iff (.not (.val (.cl 49 [] (.cons (.comp 1 [] (.one 0) (.s (.v 2)) .no (.ix (.v 0) (.c (.int 0)))) .nil)))) (.one (.ret (.c (.str "program")))) .nil)
 (.seq (.fo (.one 5) (.s (.v 2)) (.one (.iff (.not (.val (.cl 49 [] (.cons (.b2 dk (.b2 dk (.v 4) (.bi zW (.cons (.ix (.v 5) (.c (.int 1))) .nil))) (.bi zW (.cons (.ix (.v 5) (.c (.int 2))) .nil))) .nil)))) (.one (.ret (.c (.str "program")))) .nil)))
 (.seq (.set 6 (.Zn (.cons "lists" (.comp 1 [] (.one 0) (.s (.v 1)) .no (.ix (.v 0) (.c (.int 0)))) .nil)))
 (.seq (.dput (.comp 1 [] (.one 0) (.s (.v 2)) .no (.tup (.cons (.ix (.v 0) (.c (.int 0))) (.cons (.bi dE (.cons (.ix (.v 0) (.c (.int 1))) .nil)) .nil)))) (.v 6) (.c (.str "functions")))
 (.seq (.set 7 (.bi dE (.cons (.v 2) .nil)))
 (.seq (.fo (.one 5) (.s (.b2 dk (.v 2) (.tup (.cons (.tup (.cons (.c (.str "")) (.cons (.tup .nil) (.cons (.tup .nil) (.cons (.v 3) .nil))))) .nil)))) (.seq (.dput (.b2 dk (.b2 dk (.comp 1 [] (.one 0) (.s (.v 0)) .no (.ix (.v 0) (.c (.int 0)))) (.bi zW (.cons (.ix (.v 5) (.c (.int 1))) .nil))) (.bi zW (.cons (.ix (.v 5) (.c (.int 2))) .nil))) (.v 6) (.c (.str "boxes")))
 (.cut (.dput (.cmp Kx (.ix (.v 5) (.c (.int 0))) (.c (.str ""))) (.v 6) (.c (.str "inside")))
 (.seq (.iff (.not (.val (.cl 41 [0] (.cons (.ix (.v 5) (.c (.int 3))) (.cons (.v 6) (.cons (.c (.int 1)) .nil)))))) (.one (.ret (.c (.str "row")))) .nil)
 (.one (.set 7 (.b2 dk (.v 7) (.cl 50 [] (.cons (.ix (.v 5) (.c (.int 3))) .nil)))))))))
 (.one (.ret (.ix (.lst (.cons (.c (.str "")) (.cons (.c (.str "long")) .nil))) (.bi Wc (.cons (.cmp vR (.v 7) (.c (.int 60))) .nil))))))))))))))) S.s81 rfl ⟨Vz.up rfl,D46.up rfl,D47.up rfl,D48.up rfl,D49.up rfl,r_,s_.up rfl,trivial⟩ trivial (Wv λb l f r Q xc hd q=>?_)
 have q:Q (.p (.str (eA (iz b l f r)))) []:=q
 rw[Fj] at q
 have d1:dz b=true:=cm hd (by simp)
 have d2:dz l=true:=cm hd (by simp)
 have d3:dz f=true:=cm hd (by simp)
 have d4:dz r=true:=cm hd (by simp)
 have qp:gU b l f r=false->Q (.p (.str "program")) []:=λe=>by rw[e] at q;exact q
 have q:gU b l f r=true->Q (.p (.str (eA (vE (kQ b l f r) 1 (vE (!qm 60 (ko f r:Nat)) 2 none))))) []:=λe=>by rw[e] at q;exact q
 have tg:∀{x:Pv}{m:Int}{j:Nat}{R:Prop},dz x=true->hU j [46,47,48]=true->R->gd (dz x&&(isInt (.int m)&&B4 [(46,ef),(47,isList),(48,cO)] (.fn j))) R:=λh1 h2 q=>aq (by rw[h1];exact h2) q
 refine tg d1 rfl (dC (c:=!eg 6 ef b) (λc=>qp (by unfold gU;rw[gI c];rfl)) λc1=>?_)
 have c1:=not_not c1
 refine tg d2 rfl (dC (c:=!eg 3 isList l) (λc=>qp (by unfold gU;rw[c1,gI c];rfl)) λc2=>?_)
 have c2:=not_not c2
 revert hd qp q
 refine lV d4 (λ_ qp _=>qp (by unfold gU;rw[c1,c2];rfl)) (λ_ _ qp _=>qp (by unfold gU;rw[c1,c2];rfl)) (λ_ _ qp _=>qp (by unfold gU;rw[c1,c2];rfl)) (λ_ _ _ qp _=>qp (by unfold gU;rw[c1,c2];rfl)) (λr d4 hd qp q=>?_) (λ_ _ _ qp _=>qp (by unfold gU;rw[c1,c2];rfl)) (λ_ _ _ _ qp _=>qp (by unfold gU;rw[c1,c2];rfl))
 have M_:=c1
 have c2':=c2
 revert hd qp q M_ c2'
 refine dB c1 λb lb ab=>dB c2 λl ll al hd qp q c1 c2=>?_
 have n1:=bU (λ_=>rN) ab
 have n2:=bU (λ_=>o9) al
 have OI:∀{h:Hs}{e:Pv->Option Es}{A:Es->Hs->KP->Prop}{Q:List Pv->Hs->Prop},bH h.length h=true->(∀a r,match e (.tup (a::r)) with|some σ2=>∀R:KP,R [.p a] h->A σ2 h R|none=>False)->Q (b.map bC) h->uE h b e (λ_ h R=>R [.p (.bl true)] h) A Q:=λhb st q=>gF bC hb (λy hy=>by
  have z:=aj.mp (gH n1) y hy
  cases y<;>first|(cases z;done)|skip
  rename_i ys
  cases ys with
  |nil=>cases z
  |cons a r=>exact st a r) q
 have cmL:∀{h:Hs}{e:Pv->Option Es}{A:Es->Hs->KP->Prop}{Q:List Pv->Hs->Prop},bH h.length h=true->(∀a r,match e (.tup (a::r)) with|some σ2=>∀R:KP,R [.p a] h->A σ2 h R|none=>False)->Q (l.map bC) h->uE h l e (λ_ h R=>R [.p (.bl true)] h) A Q:=λhb st q=>gF bC hb (λy hy=>by
  have z:=aj.mp (gH n2) y hy
  cases y<;>first|(cases z;done)|skip
  rename_i ys
  cases ys with
  |nil=>cases z
  |cons a r=>exact st a r) q
 have ln:(b.map bC++l.map bC).length<=9:=by rw[ai,ah,ah];lia
 have sn:(b.map bC++l.map bC).all isStr=true:=by rw[bA,fI n1,fI n2];rfl
 refine OI rfl (λa r R q=>q) (cmL rfl (λa r R q=>q) (aq (lK (aA (by rw[ai] at ln;exact ln) (by decide))) ?_))
 refine tg d3 rfl (dC (c:=!eg 4 cO f) (λc=>qp (by unfold gU;rw[c1,c2,gI c];rfl)) λc3=>?_)
 have c3:=not_not c3
 refine aq (Vg sn (by lia)) (dC (c:=!jO (b.map bC++l.map bC)) (λc=>qp (by unfold gU;rw[c1,c2,c3,show jO (d9 (.tup b)++d9 (.tup l))=false from gI c];rfl)) λc4=>?_)
 have c4:=not_not c4
 have c3':=c3
 revert hd qp q c3' d3
 refine dB c3 λf lf af d3 hd qp q c3=>?_
 have n3:=bU (λ_=>wX) af
 refine gF bC rfl (λy hy=>by
  refine wA (aj.mp af y hy) λa b c d _=>?_
  exact λR q=>q) (aq (Vg (l:=f.map bC) (fI n3) (by rw[ah];lia)) (dC (c:=!jO (f.map bC)) (λc=>qp (by unfold gU;rw[c1,c2,c3,show jO (d9 (.tup b)++d9 (.tup l))=true from c4,show jO (d9 (.tup f))=false from gI c];rfl)) λc5=>?_))
 have c5:=not_not c5
 refine fk (λpre post σ h=>h = []/\(∃v5 v6 v7,σ = [some (.p (.tup b)),some (.p (.tup l)),some (.p (.tup f)),some (.p (.tup r)),some (.p (.lst (b.map bC++l.map bC))),v5,v6,v7])/\(pre.all λg=>jO (b.map bC++l.map bC++hZ g))=true) ⟨rfl,⟨_,_,_,rfl⟩,rfl⟩ (λpre x post σ h e j=>?_) (λσ h j=>?_)
 ·obtain⟨rfl,⟨v5,v6,v7,rfl⟩,pa⟩:=j
  have hx:x∈f:=by rw[e];simp
  have z:=aj.mp af x hx
  obtain⟨o1,o2,o3⟩:=rK z
  have no:jO (b.map bC++l.map bC++hZ x)=false->gU (.tup b) (.tup l) (.tup f) (.tup r)=false:=λe=>by
   unfold gU
   rw[show((nh (.tup f)).all λg=>jO (d9 (.tup b)++d9 (.tup l)++hZ g))=false from bG.mpr λz=>by
    have:=aj.mp z x hx
    rw[show jO (d9 (.tup b)++d9 (.tup l)++hZ x)=false from e] at this;cases this]
   simp only[mO]
  have ZU:jO (b.map bC++l.map bC++hZ x)=true->((pre ++ [x]).all λg=>jO (b.map bC++l.map bC++hZ g))=true:=λe=>by rw[bA,pa,aB,e];rfl
  revert o1 o2 o3 no ZU
  refine wA z λa p o d _ o1 o2 o3 no ZU=>?_
  have o2:(p++o).all isStr=true:=o2
  have o3:(p++o).length<=6:=o3
  have as:b.map bC++l.map bC++hZ (.tup [a,.tup p,.tup o,d])=b.map bC++l.map bC++p++o:=(dq _ _ _).symm
  rw[as] at no ZU
  rw[ai] at o3
  refine aq (lK (aA (show(b.map bC++l.map bC).length+p.length<=20 by lia) (by decide))) (aq (lK (aA (show(b.map bC++l.map bC++p).length+o.length<=20 by rw[ai];lia) (by decide))) ?_)
  refine aq (Vg (by rw[dq,bA,sn,o2];rfl) (by rw[ai,ai];lia)) (dC (c:=!jO (b.map bC++l.map bC++p++o)) (λc=>qp (no (gI c))) λc=>⟨rfl,⟨_,_,_,rfl⟩,ZU (not_not c)⟩)
 obtain⟨rfl,⟨v5,v6,v7,rfl⟩,c6⟩:=j
 have q:=q (by unfold gU;rw[c1,c2,c3,show jO (d9 (.tup b)++d9 (.tup l))=true from c4,show jO (d9 (.tup f))=true from c5,show((nh (.tup f)).all λg=>jO (d9 (.tup b)++d9 (.tup l)++hZ g))=true from c6];rfl)
 rw[Nz af,Jw] at q
 refine cmL rfl (λa r R q=>q) (gF pk rfl (λy hy=>by
  refine wA (aj.mp af y hy) λa b c d _=>?_
  exact λR q=>q) ?_)
 rw[<-yE]
 refine aq (lK (aA (show f.length+1<=5 by lia) (by decide))) ?_
 refine fk (λpre post σ h=>(∃ks us,h = [.dct ks us]/\ks.length<=4/\VE ks us (.lst (l.map bC)) (.lst (eF (f.map bC) (f.map jR))))/\(∃v5,σ = [some (.p (.tup b)),some (.p (.tup l)),some (.p (.tup f)),some (.p (.tup r)),some (.p (.lst (b.map bC++l.map bC))),v5,some (.r 0),some (.p (.int ((f.length+dF cr pre:Nat):Int)))])/\Q (.p (.str (eA (vE (post.all (rk (.tup b) (.tup l) (.tup f))) 1 (vE (!qm 60 ((f.length+dF cr (f ++ [ly (.tup r)]):Nat):Int)) 2 none))))) []) ⟨⟨_,_,rfl,aU rfl,λ_ _=>⟨rfl,rfl⟩⟩,⟨_,rfl⟩,q⟩ (λpre x post σ h e j=>?_) (λσ h j=>?_)
 ·obtain⟨hh,⟨v5,rfl⟩,q⟩:=j
  have hx:x∈f ++ [ly (.tup r)]:=by rw[show f ++ [ly (.tup r)]=_ from e];simp
  have dd:dz (mi x)=true:=by
   rcases bu.mp hx with h|h
   ·have:=cm d3 h
    revert this
    refine wA (aj.mp af x h) λa b c d _ dx=>?_
    exact cm dx (x:=d) (by simp)
   ·rw[aO.mp h];exact d4
  obtain⟨a,p,o,d,rfl,no,lo,sa⟩:=HC af hx
  have dd:dz d=true:=dd
  revert q e hx
  refine jv sa λa e q hx=>?_
  rw[aB] at q
  obtain⟨ks,us,rfl,lk,tw⟩:=hh
  have lk2:=DI (.str "boxes") ks
  have sk:=abh (rt:=LB (.tup [.str a,.tup p,.tup o,d])) ab al af lf c5 no
  refine OI rfl (λa r R q=>q) (aq (lK (aA (show(b.map bC).length+p.length<=20 by rw[ah];lia) (by decide))) (aq (lK (aA (show(b.map bC++p).length+o.length<=20 by rw[ai,ah];lia) (by decide))) (aq (lK (aA (show ks.length+1<=5 by lia) (by decide))) ?_)))
  refine Exists.intro (λσ h=>h = [(jV (.tup b) (.tup l) (.tup f) (p++o) (LB (.tup [.str a,.tup p,.tup o,d]))).ob]/\σ = [some (.p (.tup b)),some (.p (.tup l)),some (.p (.tup f)),some (.p (.tup r)),some (.p (.lst (b.map bC++l.map bC))),some (.p (.tup [.str a,.tup p,.tup o,d])),some (.r 0),some (.p (.int ((f.length+dF cr pre:Nat):Int)))]) (And.intro ?_ ?_)
  ·refine aq (lK (aA (show(gj (.str "boxes") ks).length+1<=6 by lia) (by decide))) (And.intro ?_ rfl)
   show [Ob.dct (gj (.str "inside") (gj (.str "boxes") ks)) (jh (.str "inside") (.bl (!iZ (.str a) (.str ""))) (gj (.str "boxes") ks) (jh (.str "boxes") (.lst (b.map bC++p++o)) ks us))]=_
   rw[(tw .non .non).1,(tw _ _).2,dq];rfl
  rintro σ' h' ⟨rfl,rfl⟩
  refine Exists.intro _ (And.intro rfl (And.intro sk (aq (Fx dd rfl) ?_)))
  refine dC (c:=!rk (.tup b) (.tup l) (.tup f) (.tup [.str a,.tup p,.tup o,d])) (λc=>?_) λc=>?_
  ·rw[gI c] at q
   exact q
  ·have c:=not_not c
   rw[c,f9] at q
   have ec:f.length+dF cr (pre ++ [.tup [.str a,.tup p,.tup o,d]])=f.length+dF cr pre+kE 5 d:=by
    rw[fJ]
    show _+(_+(kE 5 d+0))=_
    lia
   exact aq dd (Exists.intro _ (And.intro c ⟨⟨_,_,rfl,aU rfl,λ_ _=>⟨rfl,rfl⟩⟩,⟨_,by rw[ec];rfl⟩,q⟩))
 ·obtain⟨hh,⟨v5,rfl⟩,q⟩:=j
  have q:Q (.p (.str (eA (vE (!qm 60 ((f.length+dF cr (f ++ [ly (.tup r)]):Nat):Int)) 2 none)))) []:=q
  cases e:qm 60 ((f.length+dF cr (f ++ [ly (.tup r)]):Nat):Int) with
  |true=>
   rw[e] at q
   obtain⟨ks,us,rfl,_⟩:=hh
   exact bK (show qR [Pv.str "",.str "long"] (b2 (qm 60 ((f.length+dF cr (f ++ [ly (.tup r)]):Nat):Int)))=some (.str "long") by rw[e];rfl) q
  |false=>
   rw[e] at q
   obtain⟨ks,us,rfl,_⟩:=hh
   exact bK (show qR [Pv.str "",.str "long"] (b2 (qm 60 ((f.length+dF cr (f ++ [ly (.tup r)]):Nat):Int)))=some (.str "") by rw[e];rfl) q
def gz(n:Int):Bool:=hV 0 n&&qm n 2147483629
theorem A9{n:Int}:gz n=true↔0<=n/\n<2147483629:=by
 unfold gz
 rw[ay,bN,dN]
def B5:Pv->Bool
 |.scr xs=>xs.all isInt
 |_=>false
def W8:Pv->Bool
 |.int (.ofNat _)=>true
 |_=>false
abbrev Bu:Ct:=cR2 (λs k=>B5 s&&W8 k) λ_ _ K=>∀i:Int,K (.int i)
def sy:Ct:=λds h Q _=>iC ds λ_ r=>iC r λ_ r=>nC r (nC h (∀n:Int,gz n=true->Q (.r 0) [.lst [.int n]]))
def kf:Ct:=λds h Q _=>rC ds λi r=>iC r λm r=>nC r (mC h λn g=>nC g (gd (Nat.beq i 0&&(gz n&&(hV 1 m&&hV m 1000000))) (∀(n':Int) (k:Nat),gz n'=true->(k:Int)<m->Q (.p (.int (k:Nat))) [.lst [.int n']])))
theorem Ef{n:Int}(h:gz n=true)(h1:1<=m)(h2:m<=1000000):(true&&(gz n&&(hV 1 m&&hV m 1000000)))=true:=by
 rw[h,bN.mpr h1,bN.mpr h2];rfl
theorem jM{n:Int}(h:gz n=true)(h1:(hV 1 m&&hV m 1000000)=true):(true&&(gz n&&(hV 1 m&&hV m 1000000)))=true:=by
 rw[h,h1];rfl
theorem gW(h:(k:Int)<(xs.length:Nat)):∃x,x∈xs/\qR xs (k:Nat)=some x:=by
 have h:k<xs.length:=by lia
 exact⟨xs[k],j6 h,aK h⟩
theorem Wr{b:Ss}(H:∀(m v:Int) (Q:Dv->Hs->Prop) (xc:XP),gz v=true->1<=m->m<=1000000->(∀(n':Int) (k:Nat),gz n'=true->(k:Int)<m->Q (.p (.int (k:Nat))) [.lst [.int n']])->b (eE true 1 Q xc) (j5 n [.r 0,.p (.int m)]) [.lst [.int v]]):∀ds h Q xc,kf ds h Q xc->ds.length=2/\b (eE true h.length Q xc) (j5 n ds) h:=by
 intro ds h Q xc c
 unfold kf at c
 refine nX c λi _ c=>tJ c λm _ c=>eI c λc=>tP c λn _ c=>eI c λc=>?_
 obtain⟨h1,c⟩:=bt c
 obtain⟨h2,h3,h4,h5⟩:=jd h1
 rw[ao h2]
 exact⟨rfl,H _ _ Q xc h3 (bN.mp h4) (bN.mp h5) c⟩
theorem Xr(h:VJ i=true):zE i j=true:=by unfold zE;rw[h,zf]
theorem Xq(h0:0<=j)(h1:j<2147483647):zE i j=true:=by
 unfold zE VJ
 rw[aT (by lia),aT (by lia)];rfl
def D7(c:Nat):Str:=⟨#[97+c]⟩
structure Kh (sh k:Nat) (ws:lS7):Prop where
 len:ws.length=k
 nd:ws.Nodup
 nm:∀w∈ws,aE (.str w)=true
 one:∀w∈ws,w.length=1->∃j,j<k/\w=D7 ((sh+j)%26)
def UU(z:Str)(n:Nat):Prop:=z.length=n/\(iS z).all yw=true
theorem Je(h:UU z n)(h1:1<=n)(h2:n<=6):aE (.str z)=true:=by
 show(Nat.ble 1 z.length&&(Nat.ble z.length 6&&(iS z).all yw))=true
 rw[h.1,h.2,ble_iff.mpr h1,ble_iff.mpr h2];rfl
theorem NI(x y:Str):iS (x++y)=iS x++iS y:=by
 unfold iS
 rw[zK,Array.toList_append,bR]
theorem NM{x:Str}{m:Nat}(a:UU x n)(b:UU y m):UU (x++y) (n+m):=⟨by rw[jm,a.1,b.1],by rw[NI,bA,a.2,b.2];rfl⟩
theorem A4(h:c<26):UU (D7 c) 1:=⟨rfl,by
 show(yw (.str ⟨#[97+c]⟩)&&true)=true
 rw[Cd,cZ]
 unfold yM
 rw[aT (by lia),aT (by lia)];rfl⟩
theorem Bn(h0:0<=i)(h1:i<26):∃c:Nat,c<26/\i=(c:Nat)/\qR EZ.cps.toList i=some (97+c):=by
 obtain⟨c,rfl⟩:=fB h0
 have hc:c<26:=by lia
 refine⟨c,hc,rfl,?_⟩
 show EZ.cps.toList[c]?=some (97+c)
 rw[xM]
 have:∀d,d<26 -> [97,98,99,100,101,102,103,104,105,106,107,108,109,110,111,112,113,114,115,116,117,118,119,120,121,122][d]?=some (97+d):=by decide
 exact this c hc
theorem B2{x:Str}:∀{ws:lS7},gX (.str x) (ws.map .str)=true↔x∈ws
 | []=>Iff.intro (λh=>nU h) (λh=>nomatch h)
 |w::ws=>by
  show(aR w x||gX (.str x) (ws.map .str))=true↔_
  rw[dX,aZ,B2,aN]
  exact⟨λh=>h.elim (λe=>.inl e.symm) .inr,λh=>h.elim (λe=>.inl e.symm) .inr⟩
theorem u9:∀{ws:lS7},eY (ws.map .str)=true
 | []=>rfl
 |_::ws=>u9 (ws:=ws)
theorem R6{a b:Nat}(h:D7 a=D7 b):a=b:=by
 unfold D7 at h
 injection h with h
 have : [97+a] = [97+b]:=by simpa using eB Array.toList h
 injection this with h
 lia
theorem Kh.base(h:Kh sh k ws)(hk:k<26):Kh sh (k+1) (ws ++ [D7 ((sh+k)%26)]) where
 len:=by rw[ai,h.len];rfl
 nd:=dW.mpr ⟨h.nd,by simp,λa ha b hb e=>by
  rw[aO.mp hb] at e
  subst e
  obtain⟨j,hj,e⟩:=h.one _ ha rfl
  have:=R6 e
  lia⟩
 nm:=λw hw=>(bu.mp hw).elim (h.nm w) λz=>by
  rw[aO.mp z];exact Je (A4 (Nat.mod_lt _ (by decide))) (by decide) (by decide)
 one:=λw hw l=>(bu.mp hw).elim (λz=>let ⟨j,hj,e⟩:=h.one w z l;⟨j,by lia,e⟩) λz=>⟨k,by lia,aO.mp z⟩
theorem Kh.more(h:Kh sh k ws)(hn:z∉ws)(nm:aE (.str z)=true)(one:z.length=1->z=D7 ((sh+k)%26)):Kh sh (k+1) (ws ++ [z]) where
 len:=by rw[ai,h.len];rfl
 nd:=dW.mpr ⟨h.nd,by simp,λa ha b hb e=>by
  rw[aO.mp hb] at e
  subst e;exact hn ha⟩
 nm:=λw hw=>(bu.mp hw).elim (h.nm w) λz=>by rw[aO.mp z];exact nm
 one:=λw hw l=>(bu.mp hw).elim (λz=>let ⟨j,hj,e⟩:=h.one w z l;⟨j,by lia,e⟩) λz=>⟨k,by lia,by rw[aO.mp z] at l⊢;exact one l⟩
structure Dn (k:Nat) (xs:List Pv):Prop where
 len:xs.length=k
 nm:xs.all aE=true
 un:jO xs=true
theorem Kh.out(h:Kh sh k ws):Dn k (ws.map .str) where
 len:=by rw[ah,h.len]
 nm:=by rw[gZ];exact aj.mpr h.nm
 un:=by
  unfold jO gT
  rw[zh]
  show zd (ws.map λz=>z)=true
  rw[List.map_id',mI];exact h.nd
theorem A1{pre post:List Pv}(e:kP 0 n=pre++x::post):x=.int (0+(pre.length:Nat))/\pre.length<n:=by
 have h:(kP 0 n)[pre.length]?=some x:=by rw[e];simp
 unfold kP at h
 rw[bP] at h
 have hl:pre.length<n:=by
  have:(kP 0 n).length=(pre++x::post).length:=by rw[e]
  unfold kP at this
  rw[ah,dU,ai,aF] at this
  lia
 rw[abN hl] at h
 cases h
 exact⟨rfl,hl⟩
noncomputable def PU:List Pv:= [.str "box",.str "list",.str "def",.str "end",.str "else",.str "catch",.str "own",.str "set",.str "push",.str "while",.str "try"] ++ [.str "number",.str "size",.str "plus",.str "item",.str "not",.str "ask"]
def oK:Ct:=λds h Q _=>rC ds λi r=>iC r λa r=>nC r (mC h λn g=>nC g (gd (Nat.beq i 0&&(gz n&&(hV 0 a&&hV a 9))) (∀(n':Int) (xs:List Pv),gz n'=true->Dn a.toNat xs->Q (.p (.lst xs)) [.lst [.int n']])))
theorem Lq{b:Ss}(H:∀(a:Nat) (v:Int) (Q:Dv->Hs->Prop) (xc:XP),gz v=true->a<=9->(∀(n':Int) (xs:List Pv),gz n'=true->Dn a xs->Q (.p (.lst xs)) [.lst [.int n']])->b (eE true 1 Q xc) (j5 n [.r 0,.p (.int (a:Nat))]) [.lst [.int v]]):∀ds h Q xc,oK ds h Q xc->ds.length=2/\b (eE true h.length Q xc) (j5 n ds) h:=by
 intro ds h Q xc c
 unfold oK at c
 refine nX c λi _ c=>tJ c λa _ c=>eI c λc=>tP c λn _ c=>eI c λc=>?_
 obtain⟨h1,c⟩:=bt c
 obtain⟨h2,h3,h4,h5⟩:=jd h1
 rw[ao h2]
 refine⟨rfl,?_⟩
 obtain⟨a,rfl⟩:=fB (bN.mp h4)
 exact H a _ Q xc h3 (by have:=bN.mp h5;lia) c
theorem QL(B:LX ca W)(S:SX W):DX ca W 27 2 Bu:=by
 refine B.e (k:=0) 2 true [] [] (.seq (.iff (.cmp Fy (.v 1) (.bi dE (.cons (.v 0) .nil))) (.one (.ret (.ix (.v 0) (.v 1)))) .nil)
 (.one (.ret (.c (.int 0))))) S.s57 rfl trivial trivial (Wu λs k Q xc hp q=>?_)
 obtain⟨h1,h2⟩:=ag hp
 cases s<;>first|(cases h1;done)|skip
 rename_i xs
 cases k<;>first|(cases h2;done)|skip
 rename_i k
 cases k with
 |negSucc k=>cases h2
 |ofNat k=>
  refine dC (λc=>?_) λ_=>q 0
  obtain⟨x,hx,e⟩:=gW (xs:=xs) (k:=k) (dN.mp c)
  have hi:=aj.mp (show xs.all isInt=true from h1) x hx
  revert e
  exact As hi λi e=>bK e (q i)
theorem K4(B:LX ca W)(S:SX W):DX ca W 28 2 sy:=by
 refine B.e (k:=0) 3 false [] [] (.seq (.set 2 (.b2 zA (.b2 zB (.b2 dk (.b2 dk (.v 0) (.b2 zB (.c (.int 7919)) (.v 1))) (.c (.int 1))) (.c (.int 48271))) (.c (.int 2147483647))))
 (.one (.ret (.R4 (.cons (.b2 zA (.b2 dk (.b2 dk (.b2 zB (.v 2) (.v 2)) (.b2 zB (.c (.int 7)) (.v 2))) (.v 1)) (.c (.int 2147483629))) .nil))))) S.s58 rfl trivial trivial λds h Q xc c=>?_
 unfold sy at c
 refine tJ c λx _ c=>tJ c λk _ c=>eI c λc=>eI c λc=>⟨rfl,?_⟩
 have WA:0<=(x+7919*k+1)*48271%2147483647:=lD _ (by decide)
 have WB:(x+7919*k+1)*48271%2147483647<2147483647:=iN _ (by decide)
 exact aq (Xr rfl) (aq (Xq WA WB) (aq (Xr rfl) (c _ (A9.mpr ⟨lD _ (by decide),iN _ (by decide)⟩))))
theorem lU(B:LX ca W)(S:SX W):DX ca W 29 2 kf:=by
 refine B.e (k:=0) 3 true [] [] (.seq (.put (.b2 zA (.b2 dk (.b2 zB (.ix (.v 0) (.c (.int 0))) (.c (.int 69621))) (.c (.int 11))) (.c (.int 2147483629))) (.v 0) (.c (.int 0)))
 (.seq (.set 2 (.b2 zA (.b2 zB (.ix (.v 0) (.c (.int 0))) (.ix (.v 0) (.c (.int 0)))) (.c (.int 2147483587))))
 (.one (.ret (.b2 zA (.b2 VL (.v 2) (.c (.int 7))) (.v 1)))))) S.s59 rfl trivial trivial (Wr λm v Q xc hv h1 h2 q=>?_)
 have hs:gz ((v*69621+11)%2147483629)=true:=A9.mpr ⟨lD _ (by decide),iN _ (by decide)⟩
 obtain⟨g1,g2⟩:=A9.mp hs
 refine aq (Xq (j:=(v*69621+11)%2147483629) g1 (by lia)) ?_
 refine aq (aT (show(0:Int)<m by lia)) ?_
 have k0:0<=((v*69621+11)%2147483629*((v*69621+11)%2147483629)%2147483587 / 7%m):=lD _ (by lia)
 have k1:((v*69621+11)%2147483629*((v*69621+11)%2147483629)%2147483587 / 7%m)<m:=iN _ (by lia)
 have q:=q _ (((v*69621+11)%2147483629*((v*69621+11)%2147483629)%2147483587 / 7%m)).toNat hs (by rw[abM k0];exact k1)
 rw[abM k0] at q
 exact q
theorem KZ(B:LX ca W)(S:SX W):DX ca W 30 3 oK:=by
 refine B.e (k:=1) 9 true [(29,kf)] [] (.seq (.set 2 (.c (.str "abcdefghijklmnopqrstuvwxyz")))
 (.seq (.set 3 (.cl 29 [0] (.cons (.v 0) (.cons (.c (.int 26)) .nil))))
 (.seq (.set 4 (.R4 .nil))
 (.seq (.fo (.one 5) (.r (.cons (.v 1) .nil)) (.seq (.set 6 (.ix (.v 2) (.b2 zA (.b2 dk (.v 3) (.v 5)) (.c (.int 26)))))
 (.seq (.fo (.one 7) (.r (.cons (.ix (.lst (.cons (.c (.int 0)) (.cons (.c (.int 0)) (.cons (.c (.int 1)) (.cons (.c (.int 5)) (.cons (.cl 29 [0] (.cons (.v 0) (.cons (.c (.int 6)) .nil))) .nil)))))) (.cl 29 [0] (.cons (.v 0) (.cons (.c (.int 5)) .nil)))) .nil)) (.one (.set 6 (.b2 dk (.ix (.v 2) (.cl 29 [0] (.cons (.v 0) (.cons (.c (.int 26)) .nil)))) (.v 6)))))
 (.cut (.iff (.cmp gN (.cl 29 [0] (.cons (.v 0) (.cons (.c (.int 6)) .nil))) (.c (.int 0))) (.seq (.set 8 (.lst (.cons (.c (.str "box")) (.cons (.c (.str "list")) (.cons (.c (.str "def")) (.cons (.c (.str "end")) (.cons (.c (.str "else")) (.cons (.c (.str "catch")) (.cons (.c (.str "own")) (.cons (.c (.str "set")) (.cons (.c (.str "push")) (.cons (.c (.str "while")) (.cons (.c (.str "try")) .nil)))))))))))))
 (.one (.set 6 (.ix (.b2 dk (.v 8) (.lst (.cons (.c (.str "number")) (.cons (.c (.str "size")) (.cons (.c (.str "plus")) (.cons (.c (.str "item")) (.cons (.c (.str "not")) (.cons (.c (.str "ask")) .nil)))))))) (.cl 29 [0] (.cons (.v 0) (.cons (.c (.int 17)) .nil))))))) .nil)
 (.seq (.iff (.cmp OC (.v 6) (.v 4)) (.one (.set 6 (.ix (.v 2) (.b2 zA (.b2 dk (.v 3) (.v 5)) (.c (.int 26)))))) .nil)
 (.one (.ex (.mt uM (.v 4) (.cons (.v 6) .nil)))))))))
 (.one (.ret (.v 4))))))) S.s60 rfl ⟨(lU B S),trivial⟩ trivial (Lq λa v Q xc hv ha q=>?_)
 refine aq (jM hv rfl) λv1 sh hv1 hsh=>?_
 have ez:Int.toNat (a:Nat)=a:=rfl
 refine aq (by show(nc a&&decide ((-4611686018427387904:Int)<=(a:Nat)))=true;rw[lK (aA (show a<=9 from ha) (by decide)),aT (by lia)];rfl) ?_
 refine fk (λpre post σ h=>(∃n ws,h = [.lst [.int n],.lst (ws.map .str)]/\gz n=true/\Kh sh pre.length ws)/\∃v5 v6 v7 v8,σ = [some (.r 0),some (.p (.int (a:Nat))),some (.p (.str EZ)),some (.p (.int (sh:Nat))),some (.r 1),v5,v6,v7,v8]) ⟨⟨v1,[],rfl,hv1,⟨rfl,fF,(λ_ h=>by cases h),(λ_ h=>by cases h)⟩⟩,_,_,_,_,rfl⟩ (λpre x post σ h e j=>?_) (λσ h j=>?_)
 ·obtain⟨⟨n,ws,rfl,hn,nm⟩,v5,v6,v7,v8,rfl⟩:=j
  obtain⟨rfl,hk⟩:=A1 e
  have hk:pre.length<a:=hk
  obtain⟨c,hc,ec,at1⟩:=Bn (i:=((sh:Nat)+(0+(pre.length:Nat)):Int)%26) (lD _ (by decide)) (iN _ (by decide))
  have ec:c=(sh+pre.length)%26:=by lia
  refine bK at1 ?_
  refine aq (jM hn rfl) λn2 t Lu ht=>aq (jM Lu rfl) λn3 u hn3 hu=>?_
  have ht:(t:Int)<6:=ht
  obtain⟨τ,hτ,at2⟩:∃τ:Nat,τ<=5/\qR [Pv.int 0,.int 0,.int 1,.int 5,.int (t:Nat)] (u:Nat)=some (.int (τ:Nat)):=by
   have hu:u<5:=by have hu:(u:Int)<5:=hu;lia
   rcases u with _|_|_|_|_|u
   ·exact⟨0,by decide,rfl⟩
   ·exact⟨0,by decide,rfl⟩
   ·exact⟨1,by decide,rfl⟩
   ·exact⟨5,by decide,rfl⟩
   ·exact⟨t,by lia,rfl⟩
   ·lia
  refine bK at2 (aq (by show(nc τ&&decide ((-4611686018427387904:Int)<=(τ:Nat)))=true;rw[lK (aA hτ (by decide)),aT (by lia)];rfl) ?_)
  refine fk (λlI tW σ h=>(∃n z,h = [.lst [.int n],.lst (ws.map .str)]/\gz n=true/\UU z (1+lI.length)/\(z.length=1->z=D7 c)/\∃v7 v8,σ = [some (.r 0),some (.p (.int (a:Nat))),some (.p (.str EZ)),some (.p (.int (sh:Nat))),some (.r 1),some (.p (.int (0+(pre.length:Nat)))),some (.p (.str z)),v7,v8])) ⟨n3,D7 c,rfl,hn3,A4 hc,(λ_=>rfl),_,_,rfl⟩ (λlI x2 tW σ h e2 j=>?_) (λσ h j=>?_)
  ·obtain⟨n4,z,rfl,OT,sz,oz,v7,v8,rfl⟩:=j
   refine aq (jM OT rfl) λn5 y Gs hy=>?_
   obtain⟨d,hd,ed,VH⟩:=Bn (i:=(y:Nat)) (by lia) hy
   have hl:lI.length<τ:=(A1 e2).2
   have sz2:=NM (A4 hd) sz
   refine bK VH (aq (lK (aA (show(D7 d).length+z.length<=7 by rw[sz.1];show 1+_<=7;lia) (by decide))) ?_)
   refine⟨n5,D7 d++z,rfl,Gs,?_,λh=>?_,_,_,rfl⟩
   ·rw[ai]
    have:1+(1+lI.length)=1+(lI.length + [x2].length):=by show _=1+(lI.length+1);lia
    rw[<-this];exact sz2
   ·rw[sz2.1] at h;lia
  ·obtain⟨n4,z,rfl,OT,sz,oz,v7,v8,rfl⟩:=j
   have hz:aE (.str z)=true:=Je sz (by lia) (by
    have:(kP 0 (Int.toNat (τ:Nat))).length=τ:=by unfold kP;rw[ah,dU];rfl
    rw[this];lia)
   refine Exists.intro (λσ h=>∃n z v7 v8,h = [.lst [.int n],.lst (ws.map .str)]/\σ = [some (.r 0),some (.p (.int (a:Nat))),some (.p (.str EZ)),some (.p (.int (sh:Nat))),some (.r 1),some (.p (.int (0+(pre.length:Nat)))),some (.p (.str z)),v7,v8]/\gz n=true/\aE (.str z)=true/\(z.length=1->z=D7 c)) (And.intro ?_ ?_)
   ·refine aq (jM OT rfl) λn5 y Gs hy=>dC (λ_=>?_) λ_=>⟨n5,z,_,_,rfl,rfl,Gs,hz,oz⟩
    refine aq (jM Gs rfl) λn6 k6 hn6 hk6=>?_
    obtain⟨w,hw,J_⟩:=gW (xs:=PU) hk6
    have good:=aj.mp (show(PU.all λw=>isStr w&&(aE w&&Nat.ble 2 (jG w).length))=true by decide +kernel) w hw
    obtain⟨g1,g⟩:=ag good
    revert J_ g
    refine jv g1 λw J_ g=>bK J_ ?_
    exact⟨n6,w,_,_,rfl,rfl,hn6,(ag g).1,λh=>by have:=ble_iff.mp (ag g).2;have h2:(jG (.str w)).length=w.length:=rfl;lia⟩
   ·rintro σ' h' ⟨n5,z,v7,v8,rfl,rfl,Gs,hz,oz⟩
    have lw:(ws.map Pv.str).length=pre.length:=by rw[ah,nm.len]
    refine aq (by show(true&&eY (ws.map .str))=true;rw[u9];rfl) (dC (c:=gX (.str z) (ws.map .str)) (λ_=>?_) λcn=>?_)
    ·refine bK at1 (aq (lK (aA (show(ws.map Pv.str).length+1<=10 by lia) (by decide))) ?_)
     refine⟨⟨n5,ws ++ [D7 c],by rw[bR];rfl,Gs,?_⟩,_,_,_,_,rfl⟩
     rw[ai,ec];exact nm.base (by lia)
    ·refine aq (lK (aA (show(ws.map Pv.str).length+1<=10 by lia) (by decide))) ?_
     refine⟨⟨n5,ws ++ [z],by rw[bR];rfl,Gs,?_⟩,_,_,_,_,rfl⟩
     rw[ai]
     exact nm.more (λh=>by rw[B2.mpr h] at cn;cases cn) hz (λh=>by rw[<-ec];exact oz h)
 ·obtain⟨⟨n,ws,rfl,hn,nm⟩,v5,v6,v7,v8,rfl⟩:=j
  have:=nm.out
  rw[show(kP 0 (Int.toNat (a:Nat))).length=a by unfold kP;rw[ah,dU];rfl] at this
  exact q n _ hn this
theorem oH{c d:Bool}(a:c=true->d=true->A)(b:B):br c (br d A B) B:=by
 cases c with
 |false=>exact b
 |true=>cases d with
  |true=>exact a rfl rfl
  |false=>exact b
theorem Ks{c d:Bool}(a:A)(k:c=false->d=false->B):br c A (br d A B):=by
 cases c with
 |true=>exact a
 |false=>cases d with
  |true=>exact a
  |false=>exact k rfl rfl
structure GV (d:Nat) (bs ls:List Pv) (v:Pv):Prop where
 vv:val d bs ls v=true
 dd:dP v=true
 ss:cU v<=13*(2 ^ d-1)
theorem mG{x:Pv}:∀{l:List Pv},l.all aE=true->x∈l->gX x l=true/\aE x=true
 | [],_,h=>nomatch h
 |y::r,n,h=>by
  rw[aB] at n
  show(iZ y x||gX x r)=true/\_
  rcases aN.mp h with rfl|h
  ·refine⟨?_,(ag n).1⟩
   refine jv (a:=x) (eW (ag n).1) λz=>?_
   show(aR z z||_)=true
   rw[aZ.mpr rfl];rfl
  ·obtain⟨a,b⟩:=mG (ag n).2 h
   exact⟨by rw[a,zf],b⟩
theorem jq(h:aE x=true):dP x=true/\cU x<=7:=by
 cases x<;>first|(cases h;done)|skip
 refine⟨rfl,?_⟩
 have:=ble_iff.mp (ag (ag h).2).1
 show 1+_<=7
 lia
theorem two_pow(h:1<=d):2<=2 ^ d:=by
 obtain⟨e,rfl⟩:∃e,d=e+1:=⟨d-1,by lia⟩
 rw[zk]
 have:=mT (n:=e)
 lia
theorem Ag(hd:1<=d)(hb:bs.all aE=true)(hx:x∈bs):GV d bs ls (.tup [.str "box",x]):=by
 obtain⟨e,rfl⟩:∃e,d=e+1:=⟨d-1,by lia⟩
 obtain⟨h1,h2⟩:=mG hb hx
 obtain⟨h3,h4⟩:=jq h2
 have:=two_pow hd
 refine⟨?_,?_,?_⟩
 ·show((aE x&&gX x bs)&&true)=true
  rw[h1,h2];rfl
 ·show(true&&(dP x&&true))=true
  rw[h3];rfl
 ·show 1+(1+3+(cU x+0))<=_
  lia
theorem Lp(hd:1<=d)(hb:ls.all aE=true)(hx:x∈ls):GV d bs ls (.tup [.str "size",x]):=by
 obtain⟨e,rfl⟩:∃e,d=e+1:=⟨d-1,by lia⟩
 obtain⟨h1,h2⟩:=mG hb hx
 obtain⟨h3,h4⟩:=jq h2
 have:=two_pow hd
 refine⟨?_,?_,?_⟩
 ·show((aE x&&gX x ls)&&true)=true
  rw[h1,h2];rfl
 ·show(true&&(dP x&&true))=true
  rw[h3];rfl
 ·show 1+(1+4+(cU x+0))<=_
  lia
theorem tE{i:Nat}(hd:1<=d)(h:i<=999999):GV d bs ls (.tup [.str "number",.int (i:Nat)]):=by
 obtain⟨e,rfl⟩:∃e,d=e+1:=⟨d-1,by lia⟩
 have:=two_pow hd
 refine⟨?_,rfl,?_⟩
 ·show((hV 0 (i:Nat)&&hV (i:Nat) 999999)&&true)=true
  rw[bN.mpr (by lia),bN.mpr (by lia)];rfl
 ·show 1+(1+6+(1+0))<=_
  lia
theorem Rf(h:GV d bs ls v):GV (d+1) bs ls (.tup [.str "not",v]):=by
 have h1:=h.ss
 have h2:=mT (n:=d)
 refine⟨?_,?_,?_⟩
 ·show(val d bs ls v&&true)=true
  rw[h.vv];rfl
 ·show(true&&(dP v&&true))=true
  rw[h.dd];rfl
 ·show 1+(1+3+(cU v+0))<=_
  rw[zk];lia
theorem Lo(hb:ls.all aE=true)(hx:x∈ls)(h:GV d bs ls v):GV (d+1) bs ls (.tup [.str "item",x,v]):=by
 obtain⟨g1,g2⟩:=mG hb hx
 obtain⟨g3,g4⟩:=jq g2
 have h1:=h.ss
 have h2:=mT (n:=d)
 refine⟨?_,?_,?_⟩
 ·show((aE x&&gX x ls)&&(val d bs ls v&&true))=true
  rw[g1,g2,h.vv];rfl
 ·show(true&&(dP x&&(dP v&&true)))=true
  rw[g3,h.dd];rfl
 ·show 1+(1+4+(cU x+(cU v+0)))<=_
  rw[zk];lia
def Qt(w:Pv):Bool:=isStr w&&(Nat.ble (jG w).length 5&&match lk (jG w) iU with
 |some ks=>uh ks ["value","value"]
 |none=>false)
theorem Gh(hw:Qt (.str w)=true)(h:GV d bs ls v)(g:GV d bs ls u):GV (d+1) bs ls (.tup [.str w,v,u]):=by
 have hw:(Nat.ble w.length 5&&match lk w iU with|some ks=>uh ks ["value","value"]|none=>false)=true:=hw
 obtain⟨w1,w2⟩:=ag hw
 have w1:=ble_iff.mp w1
 have h1:=h.ss
 have h2:=g.ss
 have h3:=mT (n:=d)
 refine⟨?_,?_,?_⟩
 ·show kr (val d bs ls) bs ls [v,u] (lk w iU)=true
  cases e:lk w iU with
  |none=>rw[e] at w2;cases w2
  |some ks=>
   rw[e] at w2
   rw[qu w2]
   show(val d bs ls v&&(val d bs ls u&&true))=true
   rw[h.vv,g.vv];rfl
 ·show(true&&(dP v&&(dP u&&true)))=true
  rw[h.dd,g.dd];rfl
 ·show 1+(1+w.length+(cU v+(cU u+0)))<=_
  rw[zk];lia
structure EX (l:List Pv):Prop where
 n:l.all aE=true
 m:l.length<=100
def Ee(l:List Pv):Bool:=l.all aE&&Nat.ble l.length 100
theorem pd:Ee l=true↔EX l:=by
 unfold Ee
 rw[ay,ble_iff]
 exact⟨λh=>⟨h.1,h.2⟩,λh=>⟨h.n,h.m⟩⟩
def lg(n:Nat):Ct:=λds h Q _=>rC ds λi r=>iC r λd r=>lC r λbs r=>lC r λls r=>nC r (mC h λm g=>nC g (gd (Nat.beq i 0&&(gz m&&(hV 1 d&&(hV d n&&(Ee bs&&Ee ls))))) (∀(m':Int) v,gz m'=true->GV d.toNat bs ls v->Q (.p v) [.lst [.int m']])))
theorem QS{d:Int}(h:gz m=true)(h1:1<=d)(h2:d<=n)(hb:EX bs)(hl:EX ls):(true&&(gz m&&(hV 1 d&&(hV d n&&(Ee bs&&Ee ls)))))=true:=by
 rw[h,bN.mpr h1,bN.mpr h2,pd.mpr hb,pd.mpr hl];rfl
theorem Wo{b:Ss}(H:∀(d:Nat) (m:Int) bs ls (Q:Dv->Hs->Prop) (xc:XP),gz m=true->1<=d->d<=n->EX bs->EX ls->(∀(m':Int) v,gz m'=true->GV d bs ls v->Q (.p v) [.lst [.int m']])->b (eE true 1 Q xc) (j5 k [.r 0,.p (.int (d:Nat)),.p (.lst bs),.p (.lst ls)]) [.lst [.int m]]):∀ds h Q xc,lg n ds h Q xc->ds.length=4/\b (eE true h.length Q xc) (j5 k ds) h:=by
 intro ds h Q xc c
 unfold lg at c
 refine nX c λi _ c=>tJ c λd _ c=>Ma c λbs _ c=>Ma c λls _ c=>eI c λc=>tP c λm _ c=>eI c λc=>?_
 obtain⟨h1,c⟩:=bt c
 obtain⟨h2,h3,h4,h5,h6⟩:=Kj h1
 rw[ao h2]
 refine⟨rfl,?_⟩
 have h4:=bN.mp h4
 have h5:=bN.mp h5
 obtain⟨a,rfl⟩:=fB (show 0<=d by lia)
 exact H a _ _ _ Q xc h3 (by lia) (by lia) (pd.mp (ag h6).1) (pd.mp (ag h6).2) c
theorem Sa(c:lg 0 ds h Q xc):False:=by
 unfold lg at c
 refine nX c λi _ c=>tJ c λd _ c=>Ma c λbs _ c=>Ma c λls _ c=>eI c λc=>tP c λm _ c=>eI c λc=>?_
 obtain⟨h1,_⟩:=bt c
 obtain⟨_,_,h4,h1⟩:=jd h1
 have h4:=bN.mp h4
 have h5:=bN.mp (ag h1).1
 lia
noncomputable def UG:List Pv:= [.str "plus",.str "minus",.str "less",.str "same",.str "times",.str "over",.str "rest"]
theorem FN(B:LX ca W)(S:SX W):∀n,DX ca W 31 (n+3) (lg n)
 |0=>Dt.imp (C:=E3) (Dt.no S.s61) λ_ _ _ _ c=>Sa c
 |n+1=>by
  refine B.e (k:=n+2) 8 true [(29,kf),(31,lg n)] [] (.seq (.set 4 (.cl 29 [0] (.cons (.v 0) (.cons (.c (.int 10)) .nil))))
 (.seq (.iff (.bo (Wm.oc (.cmp Fy (.v 1) (.c (.int 2))) (Wm.o1 (.cmp Fy (.v 4) (.c (.int 4)))))) (.cut (.iff (.bo (Wm.ac (.cmp vR (.bi dE (.cons (.v 2) .nil)) (.c (.int 0))) (Wm.a1 (.cmp vR (.cl 29 [0] (.cons (.v 0) (.cons (.c (.int 3)) .nil))) (.c (.int 0)))))) (.one (.ret (.tup (.cons (.c (.str "box")) (.cons (.ix (.v 2) (.cl 29 [0] (.cons (.v 0) (.cons (.bi dE (.cons (.v 2) .nil)) .nil)))) .nil))))) .nil)
 (.cut (.iff (.bo (Wm.ac (.cmp vR (.bi dE (.cons (.v 3) .nil)) (.c (.int 0))) (Wm.a1 (.cmp gN (.cl 29 [0] (.cons (.v 0) (.cons (.c (.int 6)) .nil))) (.c (.int 0)))))) (.one (.ret (.tup (.cons (.c (.str "size")) (.cons (.ix (.v 3) (.cl 29 [0] (.cons (.v 0) (.cons (.bi dE (.cons (.v 3) .nil)) .nil)))) .nil))))) .nil)
 (.one (.ret (.tup (.cons (.c (.str "number")) (.cons (.ix (.lst (.cons (.cl 29 [0] (.cons (.v 0) (.cons (.c (.int 4)) .nil))) (.cons (.cl 29 [0] (.cons (.v 0) (.cons (.c (.int 1000000)) .nil))) .nil))) (.b2 VL (.cl 29 [0] (.cons (.v 0) (.cons (.c (.int 6)) .nil))) (.c (.int 5)))) .nil))))))) .nil)
 (.seq (.set 5 (.cl 31 [0] (.cons (.v 0) (.cons (.b2 pX (.v 1) (.c (.int 1))) (.cons (.v 2) (.cons (.v 3) .nil))))))
 (.seq (.iff (.cmp gN (.v 4) (.c (.int 4))) (.one (.ret (.tup (.cons (.c (.str "not")) (.cons (.v 5) .nil))))) .nil)
 (.seq (.iff (.bo (Wm.ac (.cmp gN (.v 4) (.c (.int 5))) (Wm.a1 (.cmp vR (.bi dE (.cons (.v 3) .nil)) (.c (.int 0)))))) (.one (.ret (.tup (.cons (.c (.str "item")) (.cons (.ix (.v 3) (.cl 29 [0] (.cons (.v 0) (.cons (.bi dE (.cons (.v 3) .nil)) .nil)))) (.cons (.v 5) .nil)))))) .nil)
 (.seq (.set 6 (.lst (.cons (.c (.str "plus")) (.cons (.c (.str "minus")) (.cons (.c (.str "less")) (.cons (.c (.str "same")) (.cons (.c (.str "times")) (.cons (.c (.str "over")) (.cons (.c (.str "rest")) .nil)))))))))
 (.seq (.set 7 (.ix (.v 6) (.ix (.lst (.cons (.c (.int 0)) (.cons (.c (.int 1)) (.cons (.c (.int 2)) (.cons (.c (.int 3)) (.cons (.cl 29 [0] (.cons (.v 0) (.cons (.c (.int 7)) .nil))) .nil)))))) (.cl 29 [0] (.cons (.v 0) (.cons (.c (.int 5)) .nil))))))
 (.one (.ret (.tup (.cons (.v 7) (.cons (.v 5) (.cons (.cl 31 [0] (.cons (.v 0) (.cons (.b2 pX (.v 1) (.c (.int 1))) (.cons (.v 2) (.cons (.v 3) .nil))))) .nil))))))))))))) S.s61 rfl ⟨(lU B S).le (by lia),FN B S n,trivial⟩ trivial (Wo λd m bs ls Q xc hm d1 d2 hb hl q=>?_)
  refine aq (jM hm rfl) λm1 kd uI hkd=>Ks ?_ λc1 c2=>?_
  ·refine Exists.intro (λσ h=>∃m,h = [.lst [.int m]]/\gz m=true/\σ = [some (.r 0),some (.p (.int (d:Nat))),some (.p (.lst bs)),some (.p (.lst ls)),some (.p (.int (kd:Nat))),none,none,none]) (And.intro ?_ ?_)
   ·refine dC (λc=>?_) λ_=>⟨m1,rfl,uI,rfl⟩
    have hlen:0<bs.length:=by have:(0:Int)<(bs.length:Nat):=dN.mp c;lia
    refine aq (jM uI rfl) λm2 t lX _=>dC (λ_=>?_) λ_=>⟨m2,rfl,lX,rfl⟩
    refine aq (Ef lX (by lia) (by have:=hb.m;lia)) λm3 t3 qf Gw=>?_
    obtain⟨x,hx,e⟩:=gW Gw
    exact bK e (q _ _ qf (Ag d1 hb.n hx))
   ·rintro σ' h' ⟨m2,rfl,lX,rfl⟩
    refine Exists.intro (λσ h=>∃m,h = [.lst [.int m]]/\gz m=true/\σ = [some (.r 0),some (.p (.int (d:Nat))),some (.p (.lst bs)),some (.p (.lst ls)),some (.p (.int (kd:Nat))),none,none,none]) (And.intro ?_ ?_)
    ·refine dC (λc=>?_) λ_=>⟨m2,rfl,lX,rfl⟩
     have hlen:0<ls.length:=by have:(0:Int)<(ls.length:Nat):=dN.mp c;lia
     refine aq (jM lX rfl) λm3 t qf _=>dC (λ_=>?_) λ_=>⟨m3,rfl,qf,rfl⟩
     refine aq (Ef qf (by lia) (by have:=hl.m;lia)) λm4 t4 qg Gx=>?_
     obtain⟨x,hx,e⟩:=gW Gx
     exact bK e (q _ _ qg (Lp d1 hl.n hx))
    ·rintro σ' h' ⟨m3,rfl,qf,rfl⟩
     refine aq (jM qf rfl) λm4 t4 qg Gx=>aq (jM qg rfl) λm5 t5 rM zb=>aq (jM rM rfl) λm6 t6 uJ E7=>?_
     have Gx:(t4:Int)<4:=Gx
     have zb:(t5:Int)<1000000:=zb
     have E7:(t6:Int)<6:=E7
     obtain⟨i,hi,e⟩:∃i:Nat,i<=999999/\qR [Pv.int (t4:Nat),.int (t5:Nat)] ((t6:Int) / 5)=some (.int (i:Nat)):=by
      have h6:(t6:Int) / 5=0\/(t6:Int) / 5=1:=by lia
      rcases h6 with h|h
      ·exact⟨t4,by lia,by rw[h];rfl⟩
      ·exact⟨t5,by lia,by rw[h];rfl⟩
     exact bK e (q _ _ uJ (tE d1 hi))
  ·have c1 : ¬ ((d:Int)<2):=λz=>by rw[dN.mpr z] at c1;cases c1
   obtain⟨d',rfl⟩:∃d',d=d'+1:=⟨d-1,by lia⟩
   have ed:(((d'+1:Nat):Int)-1).toNat=d':=by lia
   refine aq (QS (d:=((d'+1:Nat):Int)-1) uI (by lia) (by lia) hb hl) λm2 v lX gv=>?_
   rw[ed] at gv
   refine dC (λ_=>q _ _ lX (Rf gv)) λ_=>oH (λ_ c=>?_) ?_
   ·have hlen:0<ls.length:=by have:(0:Int)<(ls.length:Nat):=dN.mp c;lia
    refine aq (Ef lX (by lia) (by have:=hl.m;lia)) λm4 t4 qg Gx=>?_
    obtain⟨x,hx,e⟩:=gW Gx
    exact bK e (q _ _ qg (Lo hl.n hx gv))
   ·refine aq (jM lX rfl) λm3 t qf ht=>aq (jM qf rfl) λm4 u qg hu=>?_
    have ht:(t:Int)<7:=ht
    obtain⟨τ,hτ,at2⟩:∃τ:Nat,τ<7/\qR [Pv.int 0,.int 1,.int 2,.int 3,.int (t:Nat)] (u:Nat)=some (.int (τ:Nat)):=by
     have hu:u<5:=by have hu:(u:Int)<5:=hu;lia
     rcases u with _|_|_|_|_|u
     ·exact⟨0,by decide,rfl⟩
     ·exact⟨1,by decide,rfl⟩
     ·exact⟨2,by decide,rfl⟩
     ·exact⟨3,by decide,rfl⟩
     ·exact⟨t,by lia,rfl⟩
     ·lia
    refine bK at2 ?_
    obtain⟨w,hw,VH⟩:=gW (xs:=UG) (k:=τ) (by show(τ:Int)<7;lia)
    have good:=aj.mp (show UG.all Qt=true by decide +kernel) w hw
    revert VH good
    refine jv (ag (aj.mp (show UG.all Qt=true by decide +kernel) w hw)).1 λw VH good=>bK VH ?_
    refine aq (QS (d:=((d'+1:Nat):Int)-1) qg (by lia) (by lia) hb hl) λm5 u rM gu=>?_
    rw[ed] at gu
    exact q _ _ rM (Gh good gv gu)
theorem El{f:Pv->Bool}(i:∀x,f x=true->g x=true){k:Str}(h:qF f bs ls k p=true):qF g bs ls k p=true:=by
 unfold qF at h⊢
 split at h
 ·exact h
 ·split at h
  ·exact h
  ·split at h
   ·exact h
   ·exact i _ h
theorem yT{bs ls:List Pv}:∀{n:Nat}{x:Pv},val n bs ls x=true->val (n+1) bs ls x=true
 |0,_,h=>nU h
 |n+1,x,h=>by
  cases x with
  |tup xs=>cases xs with
   |nil=>exact nU h
   |cons a r=>cases a with
    |str w=>
     have h:kr (val n bs ls) bs ls r (lk w iU)=true:=h
     show kr (val (n+1) bs ls) bs ls r (lk w iU)=true
     cases e:lk w iU with
     |none=>rw[e] at h;cases h
     |some ks=>
      rw[e] at h
      obtain⟨h1,h2⟩:=ag h
      show(_&&_)=true
      rw[h1,f9,aj]
      intro y hy
      have:=aj.mp h2 y hy
      obtain⟨k,p,_,_,rfl⟩:=kY hy
      exact El (λz hz=>yT hz) this
    |_=>exact nU h
  |_=>exact nU h
theorem UA{m:Nat}(h:val n bs ls x=true)(l:n<=m):val m bs ls x=true:=by
 obtain⟨k,rfl⟩:∃k,m=n+k:=⟨m-n,by lia⟩
 clear l
 induction k with
 |zero=>exact h
 |succ k ih=>exact yT ih
structure V4 (s:Sc) (v:Pv):Prop where
 vv:val 4 s.bs s.ls v=true
 dd:dP v=true
 ss:cU v<=100
theorem GV.v4(h:GV d s.bs s.ls v)(hd:d<=3):V4 s v:=⟨UA h.vv (by lia),h.dd,by
 have:=h.ss
 have:2 ^ d<=2 ^ 3:=Nat.pow_le_pow_right (by decide) hd
 lia⟩
structure GP (s:Sc) (x:Pv):Prop where
 r:∀n,row (n+1) s x=true
 d:dP x=true
 z:cU x<=900
 c:dD 5 x=1
def vd:Pv->Bool
 |.int (.ofNat k)=>Nat.ble k 3
 |_=>false
structure GS (s:Sc) (ds:List Pv):Prop where
 o:s.Ok
 b:s.bs.length<=100
 l:s.ls.length<=100
 u:s.us.all vd=true
 d:EX ds
def R8(s:Sc)(ds:List Pv):Pv:=.tup [.lst s.bs,.lst s.ls,.lst (eF s.ks s.us),.lst ds,.bl s.rt]
section
variable {y:Pv}
theorem sf(h:s.bs.all aE=true)(hx:x∈s.bs):(aE x&&gX x s.bs)=true/\dP x=true/\cU x<=7:=by
 obtain⟨a,b⟩:=mG h hx
 exact⟨by rw[a,b];rfl,jq b⟩
theorem BV(h:V4 s v):GP s (.tup [.str "tell",v]):=⟨λn=>by show((val 4 s.bs s.ls v&&true)&&true)=true;rw[h.vv];rfl,by show(true&&(dP v&&true))=true;rw[h.dd];rfl,by have:=h.ss;show 1+(1+4+(cU v+0))<=_;lia,rfl⟩
theorem Ln(h:V4 s v):GP s (.tup [.str "fail",v]):=⟨λn=>by show((val 4 s.bs s.ls v&&true)&&true)=true;rw[h.vv];rfl,by show(true&&(dP v&&true))=true;rw[h.dd];rfl,by have:=h.ss;show 1+(1+4+(cU v+0))<=_;lia,rfl⟩
theorem Gf(hr:s.rt=true)(h:V4 s v):GP s (.tup [.str "return",v]):=⟨λn=>by show((!(true && !s.rt))&&((val 4 s.bs s.ls v&&true)&&true))=true;rw[h.vv,hr];rfl,by show(true&&(dP v&&true))=true;rw[h.dd];rfl,by have:=h.ss;show 1+(1+6+(cU v+0))<=_;lia,rfl⟩
theorem wB(o:s.Ok)(hx:x∈s.bs)(h:V4 s v):GP s (.tup [.str "set",x,v]):=by
 obtain⟨a,b,c⟩:=sf o.b hx
 exact⟨λn=>by show(((aE x&&gX x s.bs)&&(val 4 s.bs s.ls v&&true))&&true)=true;rw[a,h.vv];rfl,by show(true&&(dP x&&(dP v&&true)))=true;rw[b,h.dd];rfl,by have:=h.ss;show 1+(1+3+(cU x+(cU v+0)))<=_;lia,rfl⟩
theorem AD(h:s.ls.all aE=true)(hx:x∈s.ls):(aE x&&gX x s.ls)=true/\dP x=true/\cU x<=7:=by
 obtain⟨a,b⟩:=mG h hx
 exact⟨by rw[a,b];rfl,jq b⟩
theorem BU(o:s.Ok)(hx:x∈s.ls)(h:V4 s v):GP s (.tup [.str "push",x,v]):=by
 obtain⟨a,b,c⟩:=AD o.l hx
 exact⟨λn=>by show(((aE x&&gX x s.ls)&&(val 4 s.bs s.ls v&&true))&&true)=true;rw[a,h.vv];rfl,by show(true&&(dP x&&(dP v&&true)))=true;rw[b,h.dd];rfl,by have:=h.ss;show 1+(1+4+(cU x+(cU v+0)))<=_;lia,rfl⟩
theorem Ra(o:s.Ok)(hx:x∈s.bs)(hy:y∈s.ls):GP s (.tup [.str "pop",x,y]):=by
 obtain⟨a,b,c⟩:=sf o.b hx
 obtain⟨a',b',c'⟩:=AD o.l hy
 exact⟨λn=>by show(((aE x&&gX x s.bs)&&((aE y&&gX y s.ls)&&true))&&true)=true;rw[a,a'];rfl,by show(true&&(dP x&&(dP y&&true)))=true;rw[b,b'];rfl,by show 1+(1+3+(cU x+(cU y+0)))<=_;lia,rfl⟩
theorem Rb(o:s.Ok)(hx:x∈s.ls)(g:V4 s u)(h:V4 s v):GP s (.tup [.str "put",x,u,v]):=by
 obtain⟨a,b,c⟩:=AD o.l hx
 exact⟨λn=>by show(((aE x&&gX x s.ls)&&(val 4 s.bs s.ls u&&(val 4 s.bs s.ls v&&true)))&&true)=true;rw[a,g.vv,h.vv];rfl,by show(true&&(dP x&&(dP u&&(dP v&&true))))=true;rw[b,g.dd,h.dd];rfl,by have:=h.ss;have:=g.ss;show 1+(1+3+(cU x+(cU u+(cU v+0))))<=_;lia,rfl⟩
theorem Q9(o:s.Ok)(hx:x∈s.bs)(hy:aE y=true):GP s (.tup [.str "ask",x,y]):=by
 obtain⟨a,b,c⟩:=sf o.b hx
 obtain⟨b',c'⟩:=jq hy
 exact⟨λn=>by show(((aE x&&gX x s.bs)&&((aE y&&true)&&true))&&true)=true;rw[a,hy];rfl,by show(true&&(dP x&&(dP y&&true)))=true;rw[b,b'];rfl,by show 1+(1+3+(cU x+(cU y+0)))<=_;lia,rfl⟩
theorem JC:∀{vs:List Pv},(∀v∈vs,V4 s v)->vs.all (val 4 s.bs s.ls)=true/\dR vs=true/\cE vs<=100*vs.length
 | [],_=>⟨rfl,rfl,au _⟩
 |v::vs,h=>by
  obtain⟨a,b,c⟩:=JC λv hv=>h v (ax _ hv)
  have g:=h v aL
  have:=g.ss
  exact⟨by rw[aB,g.vv,a];rfl,by show(dP v&&dR vs)=true;rw[g.dd,b];rfl,by show cU v+cE vs<=100*(vs.length+1);lia⟩
theorem Lm(o:s.Ok){f:Str}{vs:List Pv}(hx:x∈s.bs)(hf:aE (.str f)=true)(hg:eV (.str f) s.ks s.us=some (.int (k:Nat)))(hk:k<=3)(hl:vs.length=k)(hv:∀v∈vs,V4 s v):GP s (.tup [.str "call",x,.str f,.tup vs]):=by
 obtain⟨a,b,c⟩:=sf o.b hx
 obtain⟨b',c'⟩:=jq hf
 obtain⟨a2,b2,c2⟩:=JC hv
 refine⟨λn=>?_,?_,?_,rfl⟩
 ·show(((aE x&&gX x s.bs)&&((aE (.str f)&&(eV (.str f) s.ks s.us).isSome)&&(vs.all (val 4 s.bs s.ls)&&true)))&&(match eV (.str f) s.ks s.us with|some c=>lj (vs.length:Nat) (ym c)|none=>false))=true
  rw[a,hf,hg,a2]
  show lj (vs.length:Nat) (k:Nat)=true
  rw[hl];exact cK.mpr rfl
 ·show(true&&(dP x&&(true&&(dR vs&&true))))=true
  rw[b,b2];rfl
 ·show 1+(1+4+(cU x+(cU (.str f)+(1+cE vs+0))))<=_
  lia
end
def sr:Ct:=λds h Q _=>rC ds λi r=>pC r λx r=>nC r (mC h λm g=>nC g (∃s dd,x=R8 s dd/\GS s dd/\gd (Nat.beq i 0&&gz m) (∀(m':Int) v,gz m'=true->GP s v->Q (.p v) [.lst [.int m']])))
theorem Rh{b:Ss}(H:∀(m:Int) s dd (Q:Dv->Hs->Prop) (xc:XP),gz m=true->GS s dd->(∀(m':Int) v,gz m'=true->GP s v->Q (.p v) [.lst [.int m']])->b (eE true 1 Q xc) (j5 k [.r 0,.p (R8 s dd)]) [.lst [.int m]]):∀ds h Q xc,sr ds h Q xc->ds.length=2/\b (eE true h.length Q xc) (j5 k ds) h:=by
 intro ds h Q xc c
 unfold sr at c
 refine nX c λi _ c=>f7 c λx _ c=>eI c λc=>tP c λm _ c=>eI c λc=>?_
 obtain⟨s,dd,rfl,g,c9⟩:=c
 obtain⟨h1,c9⟩:=bt c9
 obtain⟨h2,h1⟩:=ag h1
 rw[ao h2]
 exact⟨rfl,H _ s dd Q xc h1 g c9⟩
theorem rO:∀ks us:List Pv,(eF ks us).length<=ks.length
 | [],_=>au _
 |_::_,[]=>cI _
 |_::ks,_::us=>Nat.succ_le_succ (rO ks us)
theorem To{ds:List Pv}(g:GS s ds)(h:(k:Int)<((eF s.ks s.us).length:Nat)):∃(f:Str) (c:Nat),qR (eF s.ks s.us) (k:Nat)=some (.tup [.str f,.int (c:Nat)])/\aE (.str f)=true/\c<=3/\eV (.str f) s.ks s.us=some (.int (c:Nat)):=by
 have h:k<(eF s.ks s.us).length:=by lia
 have key:∀(ks us:List Pv) (k:Nat),ks.all aE=true->us.all vd=true->zd (gT ks)=true->k<(eF ks us).length->∃(f:Str) (c:Nat),(eF ks us)[k]?=some (.tup [.str f,.int (c:Nat)])/\aE (.str f)=true/\c<=3/\eV (.str f) ks us=some (.int (c:Nat))/\f∈gT ks:=by
  intro ks
  induction ks with
  |nil=>intro us k _ _ _ h;simp[eF] at h
  |cons a ks ih=>
   intro us k h1 h2 h3 h
   cases us with
   |nil=>simp[eF] at h
   |cons u us=>
    rw[aB] at h1 h2
    have h3:(!iu (jG a) (gT ks)&&zd (gT ks))=true:=h3
    obtain⟨h3,h4⟩:=ag h3
    cases k with
    |zero=>
     have nu:=(ag h2).1
     obtain⟨c,rfl,hc⟩:∃c:Nat,u=.int (c:Nat)/\c<=3:=by
      unfold vd at nu
      split at nu
      ·exact⟨_,rfl,ble_iff.mp nu⟩
      ·cases nu
     have na:=(ag h1).1
     revert na h3
     refine jv (eW (ag h1).1) λf h3 na=>⟨f,c,rfl,na,hc,?_,aL⟩
     show(match aR f f with|true=>some (Pv.int (c:Nat))|false=>_)=_
     rw[aZ.mpr rfl]
    |succ k=>
     obtain⟨f,c,e1,e2,e3,e4,e5⟩:=ih us k (ag h1).2 (ag h2).2 h4 (by simpa [eF] using h)
     refine⟨f,c,e1,e2,e3,?_,ax _ e5⟩
     revert h3
     refine jv (eW (ag h1).1) λz h3=>?_
     show(match aR z f with|true=>some u|false=>eV (.str f) ks us)=_
     cases ez:aR z f with
     |true=>
      rw[show jG (.str z)=f from aZ.mp ez,oY e5] at h3
      cases h3
     |false=>exact e4
 obtain⟨f,c,e1,e2,e3,e4,_⟩:=key s.ks s.us k g.o.k g.u g.o.n h
 exact⟨f,c,e1,e2,e3,e4⟩
theorem K1(B:LX ca W)(S:SX W)(US:DX ca W 31 6 (lg 3)):DX ca W 32 7 sr:=by
 refine B.e (k:=5) 14 true [(29,kf),(31,lg 3)] [] (.seq (.unp [2,3,4,5,6] (.v 1))
 (.seq (.set 7 (.cl 29 [0] (.cons (.v 0) (.cons (.c (.int 16)) .nil))))
 (.seq (.set 8 (.cl 31 [0] (.cons (.v 0) (.cons (.b2 dk (.c (.int 1)) (.cl 29 [0] (.cons (.v 0) (.cons (.c (.int 3)) .nil)))) (.cons (.v 2) (.cons (.v 3) .nil))))))
 (.seq (.iff (.cmp gN (.bi dE (.cons (.v 2) .nil)) (.c (.int 0))) (.one (.ret (.tup (.cons (.c (.str "tell")) (.cons (.v 8) .nil))))) .nil)
 (.seq (.set 9 (.ix (.v 2) (.cl 29 [0] (.cons (.v 0) (.cons (.bi dE (.cons (.v 2) .nil)) .nil)))))
 (.seq (.iff (.bo (Wm.ac (.cmp Fy (.v 7) (.c (.int 3))) (Wm.a1 (.cmp vR (.bi dE (.cons (.v 3) .nil)) (.c (.int 0)))))) (.seq (.set 10 (.ix (.v 3) (.cl 29 [0] (.cons (.v 0) (.cons (.bi dE (.cons (.v 3) .nil)) .nil)))))
 (.seq (.set 11 (.ix (.lst (.cons (.tup (.cons (.c (.str "number")) (.cons (.cl 29 [0] (.cons (.v 0) (.cons (.c (.int 4)) .nil))) .nil))) (.cons (.cl 31 [0] (.cons (.v 0) (.cons (.c (.int 2)) (.cons (.v 2) (.cons (.v 3) .nil))))) .nil))) (.cl 29 [0] (.cons (.v 0) (.cons (.c (.int 2)) .nil)))))
 (.seq (.set 12 (.lst (.cons (.tup (.cons (.c (.str "push")) (.cons (.v 10) (.cons (.v 8) .nil)))) (.cons (.tup (.cons (.c (.str "push")) (.cons (.v 10) (.cons (.v 8) .nil)))) (.cons (.tup (.cons (.c (.str "pop")) (.cons (.v 9) (.cons (.v 10) .nil)))) (.cons (.tup (.cons (.c (.str "put")) (.cons (.v 10) (.cons (.v 11) (.cons (.v 8) .nil))))) .nil))))))
 (.one (.ret (.ix (.v 12) (.cl 29 [0] (.cons (.v 0) (.cons (.c (.int 4)) .nil))))))))) .nil)
 (.seq (.iff (.bo (Wm.ac (.cmp Fy (.v 7) (.c (.int 6))) (Wm.a1 (.cmp vR (.bi dE (.cons (.v 4) .nil)) (.c (.int 0)))))) (.seq (.unp [10,13] (.ix (.v 4) (.cl 29 [0] (.cons (.v 0) (.cons (.bi dE (.cons (.v 4) .nil)) .nil)))))
 (.one (.ret (.tup (.cons (.c (.str "call")) (.cons (.v 9) (.cons (.v 10) (.cons (.bi yf (.cons (.comp 1 [0,2,3] (.one 0) (.r (.cons (.v 13) .nil)) .no (.cl 31 [0] (.cons (.v 1) (.cons (.c (.int 2)) (.cons (.v 2) (.cons (.v 3) .nil)))))) .nil)) .nil)))))))) .nil)
 (.seq (.iff (.bo (Wm.ac (.cmp gN (.v 7) (.c (.int 6))) (Wm.a1 (.cmp vR (.bi dE (.cons (.v 5) .nil)) (.c (.int 0)))))) (.one (.ret (.tup (.cons (.c (.str "ask")) (.cons (.v 9) (.cons (.ix (.v 5) (.cl 29 [0] (.cons (.v 0) (.cons (.bi dE (.cons (.v 5) .nil)) .nil)))) .nil)))))) .nil)
 (.seq (.iff (.cmp gN (.v 7) (.c (.int 7))) (.one (.ret (.tup (.cons (.c (.str "tell")) (.cons (.v 8) .nil))))) .nil)
 (.seq (.iff (.bo (Wm.ac (.cmp gN (.v 7) (.c (.int 8))) (Wm.a1 (.val (.v 6))))) (.one (.ret (.tup (.cons (.c (.str "return")) (.cons (.v 8) .nil))))) .nil)
 (.seq (.iff (.bo (Wm.ac (.cmp gN (.v 7) (.c (.int 9))) (Wm.a1 (.cmp gN (.cl 29 [0] (.cons (.v 0) (.cons (.c (.int 2)) .nil))) (.c (.int 0)))))) (.one (.ret (.tup (.cons (.c (.str "fail")) (.cons (.ix (.lst (.cons (.tup (.cons (.c (.str "number")) (.cons (.cl 29 [0] (.cons (.v 0) (.cons (.c (.int 9)) .nil))) .nil))) (.cons (.v 8) .nil))) (.cl 29 [0] (.cons (.v 0) (.cons (.c (.int 2)) .nil)))) .nil))))) .nil)
 (.one (.ret (.tup (.cons (.c (.str "set")) (.cons (.v 9) (.cons (.v 8) .nil))))))))))))))))) S.s62 rfl ⟨(lU B S).up rfl,US,trivial⟩ trivial (Rh λm s dd Q xc hm g q=>?_)
 have nb:EX s.bs:=⟨g.o.b,g.b⟩
 have nl:EX s.ls:=⟨g.o.l,g.l⟩
 refine aq (jM hm rfl) λm1 kd uI hkd=>aq (jM uI rfl) λm2 t lX ht=>?_
 have ht:(t:Int)<3:=ht
 refine aq (QS (d:=1+(t:Nat)) lX (by lia) (by lia) nb nl) λm3 v qf gv=>?_
 have gv:V4 s v:=gv.v4 (by lia)
 refine dC (λ_=>q _ _ qf (BV gv)) λc0=>?_
 have hbl:1<=s.bs.length:=by
  have : ¬ ((s.bs.length:Nat):Int)=0:=λz=>by rw[show iZ (Pv.int (s.bs.length:Nat)) (.int 0)=true from cK.mpr z] at c0;cases c0
  lia
 refine aq (Ef qf (by lia) (by have:=g.b;lia)) λm4 t4 qg Gx=>?_
 obtain⟨x,hx,e⟩:=gW Gx
 refine bK e (oH (λ_ c=>?_) (oH (λ_ c=>?_) (oH (λ_ c=>?_) (dC (λ_=>q _ _ qg (BV gv)) λ_=>oH (λ_ c=>q _ _ qg (Gf c gv)) (dC (λ_=>aq (jM qg rfl) λm5 t5 rM _=>dC (λ_=>?_) λ_=>q _ _ rM (wB g.o hx gv)) λ_=>q _ _ qg (wB g.o hx gv))))))
 ·have hlen:0<s.ls.length:=by have:(0:Int)<(s.ls.length:Nat):=dN.mp c;lia
  refine aq (Ef qg (by lia) (by have:=g.l;lia)) λm5 t5 rM zb=>?_
  obtain⟨y,hy,e5⟩:=gW zb
  refine bK e5 (aq (jM rM rfl) λm6 t6 uJ E7=>aq (QS (d:=2) uJ (by decide) (by decide) nb nl) λm7 u DS gu=>aq (jM DS rfl) λm8 t8 Rm W0=>?_)
  have E7:(t6:Int)<4:=E7
  obtain⟨p,gp,e8⟩:∃p,V4 s p/\qR [Pv.tup [.str "number",.int (t6:Nat)],u] (t8:Nat)=some p:=by
   have W0:t8<2:=by have:(t8:Int)<2:=W0;lia
   rcases t8 with _|_|t
   ·exact⟨_,(tE (d:=1) (by decide) (by lia)).v4 (by decide),rfl⟩
   ·exact⟨_,gu.v4 (by decide),rfl⟩
   ·lia
  refine bK e8 (aq (jM Rm rfl) λm9 t9 hm9 ZF=>?_)
  obtain⟨r,gr,e9⟩:∃r,GP s r/\qR [Pv.tup [.str "push",y,v],.tup [.str "push",y,v],.tup [.str "pop",x,y],.tup [.str "put",y,p,v]] (t9:Nat)=some r:=by
   have ZF:t9<4:=by have:(t9:Int)<4:=ZF;lia
   rcases t9 with _|_|_|_|t
   ·exact⟨_,BU g.o hy gv,rfl⟩
   ·exact⟨_,BU g.o hy gv,rfl⟩
   ·exact⟨_,Ra g.o hx hy,rfl⟩
   ·exact⟨_,Rb g.o hy gp gv,rfl⟩
   ·lia
  exact bK e9 (q _ _ hm9 gr)
 ·have Zx:(eF s.ks s.us).length<=100:=aA (rO s.ks s.us) g.o.m
  have hlen:0<(eF s.ks s.us).length:=by have:(0:Int)<((eF s.ks s.us).length:Nat):=dN.mp c;lia
  refine aq (Ef qg (by lia) (by lia)) λm5 t5 rM zb=>?_
  obtain⟨f,k,e5,hf,hk,hg⟩:=To g zb
  refine bK e5 (aq (by show(nc k&&decide ((-4611686018427387904:Int)<=(k:Nat)))=true;rw[lK (aA hk (by decide)),aT (by lia)];rfl) ?_)
  refine wg (λpre acc h=>acc.length=pre.length/\(∀v∈acc,V4 s v)/\∃m,h = [.lst [.int m]]/\gz m=true) ⟨rfl,(λ_ h=>nomatch h),m5,rfl,rM⟩ (λpre y post acc h e j=>?_) (λacc h j=>?_)
  ·obtain⟨j1,j2,m6,rfl,uJ⟩:=j
   refine aq (QS (d:=2) uJ (by decide) (by decide) nb nl) λm7 u DS gu=>?_
   exact⟨by rw[ai,ai,j1];rfl,λv hv=>(bu.mp hv).elim (j2 v) λz=>by rw[aO.mp z];exact gu.v4 (by decide),m7,rfl,DS⟩
  ·obtain⟨j1,j2,m6,rfl,uJ⟩:=j
   refine q _ _ uJ (Lm g.o hx hf hg hk ?_ j2)
   rw[j1]
   show(kP 0 k).length=k
   unfold kP;rw[ah,dU]
 ·have hlen:0<dd.length:=by have:(0:Int)<(dd.length:Nat):=dN.mp c;lia
  refine aq (Ef qg (by lia) (by have:=g.d.m;lia)) λm5 t5 rM zb=>?_
  obtain⟨y,hy,e5⟩:=gW zb
  exact bK e5 (q _ _ rM (Q9 g.o hx (aj.mp g.d.n y hy)))
 ·refine aq (jM rM rfl) λm6 t6 uJ E7=>aq (jM uJ rfl) λm7 t7 DS WZ=>?_
  have E7:(t6:Int)<9:=E7
  obtain⟨p,gp,e8⟩:∃p,V4 s p/\qR [Pv.tup [.str "number",.int (t6:Nat)],v] (t7:Nat)=some p:=by
   have WZ:t7<2:=by have:(t7:Int)<2:=WZ;lia
   rcases t7 with _|_|t
   ·exact⟨_,(tE (d:=1) (by decide) (by lia)).v4 (by decide),rfl⟩
   ·exact⟨_,gv,rfl⟩
   ·lia
  exact bK e8 (q _ _ DS (Ln gp))
theorem pB{f g:Pv->Nat}:∀{xs:List Pv},(∀x∈xs,f x=g x)->dF f xs=dF g xs
 | [],_=>rfl
 |x::r,h=>by
  show f x+dF f r=g x+dF g r
  rw[h x aL,pB λy hy=>h y (ax _ hy)]
theorem zH:∀{n:Nat}{x:Pv},gY n x=true->∀m,n<=m->dD m x=dD n x
 |0,_,h,_,_=>nU h
 |n+1,x,h,m,hm=>by
  obtain⟨m,rfl⟩:∃k,m=k+1:=⟨m-1,by lia⟩
  show 1+dF (xq (dD m)) (lZ x)=1+dF (xq (dD n)) (lZ x)
  rw[pB λy hy=>?_]
  have:=aj.mp (ag (show(tm x&&(lZ x).all (cY (gY n)))=true from h)).2 y hy
  refine iT this λxs hx=>?_
  exact pB λz hz=>zH (aj.mp hx z hz) m (by lia)
theorem tY{s:Sc}:∀{n:Nat}{x:Pv},row n s x=true->row (n+1) s x=true
 |0,_,h=>nU h
 |n+1,x,h=>by
  obtain⟨w,r,e0,h'⟩:=mh h
  clear h
  subst e0
  show yH (cY (row (n+1) s)) s w r (lk w gS)=true
  cases e:lk w gS with
  |none=>rw[e] at h';cases h'
  |some ks=>
   rw[e] at h'
   obtain⟨h1,h'⟩:=ag h'
   obtain⟨h2,h'⟩:=ag h'
   obtain⟨h3,h4⟩:=ag h'
   show(_&&(_&&(_&&_)))=true
   rw[h1,h2,h4,f9,f9,cZ,aj]
   intro y hy
   have:=aj.mp h3 y hy
   obtain⟨k,p,hk,_,rfl⟩:=kY hy
   have this:fX (cY (row n s)) s (jG k) p=true:=this
   show fX (cY (row (n+1) s)) s (jG k) p=true
   unfold fX at this⊢
   split at this
   ·exact iT this λxs hx=>bU (λz hz=>tY hz) hx
   ·exact this
def c5(xs:List Pv):Nat:=dF (dD 5) xs
structure oA (n:Nat) (s:Sc) (xs:List Pv):Prop where
 r:xs.all (row n s)=true
 d:dR xs=true
 z:cE xs<=900*c5 xs
theorem oA.nil:oA n s []:=⟨rfl,rfl,au _⟩
theorem fV:∀{a b:List Pv},dR a=true->dR b=true->dR (a++b)=true
 | [],_,_,h=>h
 |x::a,b,h,g=>by
  obtain⟨h1,h2⟩:=ag (show(dP x&&dR a)=true from h)
  show(dP x&&dR (a++b))=true
  rw[h1,fV h2 g];rfl
theorem eK:∀{a b:List Pv},cE (a++b)=cE a+cE b
 | [],_=>(Vn _).symm
 |x::a,b=>by
  show cU x+cE (a++b)=cU x+cE a+cE b
  rw[eK];lia
theorem kD:c5 (a++b)=c5 a+c5 b:=fJ
theorem oA.app(h:oA n s a)(g:oA n s b):oA n s (a++b):=⟨by rw[bA,h.r,g.r];rfl,fV h.d g.d,by
 have:=h.z
 have:=g.z
 rw[eK,kD];lia⟩
theorem GP.one(h:GP s x):oA (n+1) s [x]/\c5 [x]=1:=by
 have hc:c5 [x]=1:=by show dD 5 x+0=1;rw[h.c]
 refine⟨⟨by show(row (n+1) s x&&true)=true;rw[h.r];rfl,by show(dP x&&true)=true;rw[h.d];rfl,?_⟩,hc⟩
 rw[hc]
 have:=h.z
 show cU x+0<=_
 lia
theorem xU(h:oA n s xs)(hn:n<=4):dF (dD 4) xs=c5 xs:=pB λx hx=>by
 have:=A2 (aj.mp h.r x hx)
 rw[zH this 4 (by lia),zH this 5 (by lia)]
theorem Wl(hn:n<=4)(hv:V4 s v)(h:oA n s a)(g:oA n s b):oA (n+1) s [.tup [.str "if",v,.tup a,.tup b]]/\c5 [.tup [.str "if",v,.tup a,.tup b]]=1+c5 a+c5 b:=by
 have hc:c5 [.tup [.str "if",v,.tup a,.tup b]]=1+c5 a+c5 b:=by
  show 1+(dF (dD 4) a+(dF (dD 4) b+0))+0=_
  rw[xU h hn,xU g hn];lia
 refine⟨⟨?_,?_,?_⟩,hc⟩
 ·show(((val 4 s.bs s.ls v&&(a.all (row n s)&&(b.all (row n s)&&true)))&&true)&&true)=true
  rw[hv.vv,h.r,g.r];rfl
 ·show((true&&(dP v&&(dR a&&(dR b&&true))))&&true)=true
  rw[hv.dd,h.d,g.d];rfl
 ·rw[hc]
  have:=h.z
  have:=g.z
  have:=hv.ss
  show 1+(1+2+(cU v+(1+cE a+(1+cE b+0))))+0<=_
  lia
theorem Gg(hn:n<=4)(hv:V4 s v)(h:oA n s a):oA (n+1) s [.tup [.str "while",v,.tup a]]/\c5 [.tup [.str "while",v,.tup a]]=1+c5 a:=by
 have hc:c5 [.tup [.str "while",v,.tup a]]=1+c5 a:=by
  show 1+(dF (dD 4) a+0)+0=_
  rw[xU h hn];lia
 refine⟨⟨?_,?_,?_⟩,hc⟩
 ·show(((val 4 s.bs s.ls v&&(a.all (row n s)&&true))&&true)&&true)=true
  rw[hv.vv,h.r];rfl
 ·show((true&&(dP v&&(dR a&&true)))&&true)=true
  rw[hv.dd,h.d];rfl
 ·rw[hc]
  have:=h.z
  have:=hv.ss
  show 1+(1+5+(cU v+(1+cE a+0)))+0<=_
  lia
theorem Rc(hn:n<=4)(o:s.Ok)(hx:x∈s.bs)(h:oA n s a)(g:oA n s b):oA (n+1) s [.tup [.str "try",.tup a,x,.tup b]]/\c5 [.tup [.str "try",.tup a,x,.tup b]]=1+c5 a+c5 b:=by
 obtain⟨x1,x2,x3⟩:=sf o.b hx
 have hc:c5 [.tup [.str "try",.tup a,x,.tup b]]=1+c5 a+c5 b:=by
  show 1+(dF (dD 4) a+(dF (dD 4) b+0))+0=_
  rw[xU h hn,xU g hn];lia
 refine⟨⟨?_,?_,?_⟩,hc⟩
 ·show(((a.all (row n s)&&((aE x&&gX x s.bs)&&(b.all (row n s)&&true)))&&true)&&true)=true
  rw[x1,h.r,g.r];rfl
 ·show((true&&(dR a&&(dP x&&(dR b&&true))))&&true)=true
  rw[x2,h.d,g.d];rfl
 ·rw[hc]
  have:=h.z
  have:=g.z
  show 1+(1+3+(1+cE a+(cU x+(1+cE b+0))))+0<=_
  lia
theorem Ur(o:s.Ok)(hx:x∈s.bs):V4 s (.tup [.str "box",x]):=(Ag (d:=1) (by decide) o.b hx).v4 (by decide)
theorem Us{i:Nat}(h:i<=999999):V4 s (.tup [.str "number",.int (i:Nat)]):=(tE (d:=1) (by decide) h).v4 (by decide)
theorem N9(o:s.Ok)(hx:x∈s.bs):V4 s (.tup [.str "minus",.tup [.str "box",x],.tup [.str "number",.int 1]]):=(Gh (d:=1) (by decide +kernel) (Ag (by decide) o.b hx) (tE (i:=1) (by decide) (by decide))).v4 (by decide)
theorem Az:∀xs:List Pv,xs.length<=c5 xs
 | []=>au _
 |x::r=>by
  have:=Az r
  have h:1<=dD 5 x:=de 1 _
  show r.length+1<=dD 5 x+c5 r
  lia
structure Qj (n:Nat) (lf qX:Int) (c:Nat):Prop where
 a:qX<=lf
 b:4*(c:Int)<=3*(lf-qX)
 m:lf<=qX\/4-2*(n:Int)<=qX
def lS(n:Nat):Ct:=λds h Q _=>rC ds λi r=>pC r λx r=>iC r λd r=>iC r λmo r=>rC r λj r=>nC r (mC h λm g=>mC g λlf g=>nC g (∃s dd,x=R8 s dd/\GS s dd/\gd (Nat.beq i 0&&(Nat.beq j 1&&(Nat.ble 1 n&&(Nat.ble n 4&&(gz m&&(lj d (5-n)&&((hV 0 mo&&hV mo 6)&&hV lf 60))))))) (∀(m' qX:Int) xs,gz m'=true->oA n s xs->Qj n lf qX (c5 xs)->Q (.p (.tup xs)) [.lst [.int m'],.lst [.int qX]])))
theorem Rg{b:Ss}(H:∀(m lf:Int) (mo:Nat) s dd (Q:Dv->Hs->Prop) (xc:XP),1<=n->n<=4->gz m=true->mo<=6->lf<=60->GS s dd->(∀(m' qX:Int) xs,gz m'=true->oA n s xs->Qj n lf qX (c5 xs)->Q (.p (.tup xs)) [.lst [.int m'],.lst [.int qX]])->b (eE true 2 Q xc) (j5 k [.r 0,.p (R8 s dd),.p (.int (5-n)),.p (.int (mo:Nat)),.r 1]) [.lst [.int m],.lst [.int lf]]):∀ds h Q xc,lS n ds h Q xc->ds.length=5/\b (eE true h.length Q xc) (j5 k ds) h:=by
 intro ds h Q xc c
 unfold lS at c
 refine nX c λi _ c=>f7 c λx _ c=>tJ c λd _ c=>tJ c λmo _ c=>nX c λj _ c=>eI c λc=>tP c λm _ c=>tP c λlf _ c=>eI c λc=>?_
 obtain⟨s,dd,rfl,g,c9⟩:=c
 obtain⟨h1,c'⟩:=bt c9
 obtain⟨h2,h3,h4,h5,h6,h7,h1,η⟩:=I_ h1
 obtain⟨h8,h9⟩:=ag h1
 rw[ao h2,ao h3,cK.mp h7]
 refine⟨rfl,?_⟩
 obtain⟨a,rfl⟩:=fB (bN.mp h8)
 exact H m lf a s dd Q xc (ble_iff.mp h4) (ble_iff.mp h5) h6 (by have:=bN.mp h9;lia) (bN.mp η) g c'
theorem Mn(c:lS 0 ds h Q xc):False:=by
 unfold lS at c
 refine nX c λi _ c=>f7 c λx _ c=>tJ c λd _ c=>tJ c λmo _ c=>nX c λj _ c=>eI c λc=>tP c λm _ c=>tP c λlf _ c=>eI c λc=>?_
 obtain⟨s,dd,rfl,g,c9⟩:=c
 obtain⟨_,h1⟩:=ag (bt c9).1
 obtain⟨_,h1⟩:=ag h1
 exact nU ((ag h1).1)
theorem V7{d:Int}(h:gz m=true)(h1:1<=n)(h2:n<=4)(h3:d=5-n)(h4:(hV 0 mo&&hV mo 6)=true)(h5:lf<=60):(true&&(true&&(Nat.ble 1 n&&(Nat.ble n 4&&(gz m&&(lj d (5-n)&&((hV 0 mo&&hV mo 6)&&hV lf 60)))))))=true:=by
 rw[h,h4,bN.mpr h5,ble_iff.mpr h1,ble_iff.mpr h2,cK.mpr h3];rfl
theorem Fq{c d e:Bool}(a:A)(k:c=false->d=false->e=false->B):br c A (br d A (br e A B)):=by
 cases c with
 |true=>exact a
 |false=>cases d with
  |true=>exact a
  |false=>cases e with
   |true=>exact a
   |false=>exact k rfl rfl rfl
theorem Qj.step{c' c2:Nat}{qX yt:Int}(h:Qj n lf qX c)(h1:yt<=qX)(h2:4*(c':Int)<=3*(qX-yt))(h3:4-2*(n:Int)<=yt)(e:c2=c+c'):Qj n lf yt c2:=by
 have a:=h.a
 have b:=h.b
 exact⟨by lia,by lia,.inr h3⟩
inductive RJ (n:Nat) (s:Sc) (dd:List Pv) (lf:Int) (mo:Nat) (pre:List Pv):Es->Hs->Prop
 |mk (m' qX:Int) (xs:List Pv) (v6 v7 v8 v9 v10 v11 v12:Option Dv) (pl:pre.length<=10) (hm:gz m'=true) (gx:oA (n+1) s xs) (lx:Qj (n+1) lf qX (c5 xs)) (xl:xs.length<=2*pre.length) :
  RJ n s dd lf mo pre [some (.r 0),some (.p (R8 s dd)),some (.p (.int (5-(n+1:Nat)))),some (.p (.int (mo:Nat))),some (.r 1),some (.r 2),v6,v7,v8,v9,v10,v11,v12] [.lst [.int m'],.lst [.int qX],.lst xs]
theorem BH(B:LX ca W)(S:SX W)(US:DX ca W 31 6 (lg 3))(D32:DX ca W 32 7 sr):∀n,DX ca W 33 (n+8) (lS n)
 |0=>Dt.imp (C:=E3) (Dt.no S.s63) λ_ _ _ _ c=>Mn c
 |n+1=>by
  refine B.e (k:=n+7) 13 true [(29,kf),(31,lg 3),(32,sr),(33,lS n)] [] (.seq (.set 5 (.R4 .nil))
 (.seq (.fo (.one 6) (.r (.cons (.cl 29 [0] (.cons (.v 0) (.cons (.b2 dk (.v 3) (.c (.int 1))) .nil))) .nil)) (.seq (.iff (.cmp Fy (.ix (.v 4) (.c (.int 0))) (.c (.int 4))) (.one .bk) .nil)
 (.seq (.put (.b2 pX (.ix (.v 4) (.c (.int 0))) (.c (.int 2))) (.v 4) (.c (.int 0)))
 (.seq (.set 7 (.ix (.v 1) (.c (.int 0))))
 (.seq (.set 8 (.cl 29 [0] (.cons (.v 0) (.cons (.c (.int 9)) .nil))))
 (.seq (.iff (.bo (Wm.oc (.cmp vR (.v 2) (.c (.int 3))) (Wm.oc (.cmp vR (.v 8) (.c (.int 2))) (Wm.o1 (.cmp gN (.bi dE (.cons (.v 7) .nil)) (.c (.int 0))))))) (.seq (.ex (.mt uM (.v 5) (.cons (.cl 32 [0] (.cons (.v 0) (.cons (.v 1) .nil))) .nil)))
 (.one .ct)) .nil)
 (.seq (.set 9 (.ix (.v 7) (.cl 29 [0] (.cons (.v 0) (.cons (.bi dE (.cons (.v 7) .nil)) .nil)))))
 (.seq (.set 10 (.cl 33 [0,1] (.cons (.v 0) (.cons (.v 1) (.cons (.b2 dk (.v 2) (.c (.int 1))) (.cons (.c (.int 3)) (.cons (.v 4) .nil)))))))
 (.one (.iff (.cmp gN (.v 8) (.c (.int 0))) (.seq (.set 11 (.cl 31 [0] (.cons (.v 0) (.cons (.c (.int 2)) (.cons (.v 7) (.cons (.ix (.v 1) (.c (.int 1))) .nil))))))
 (.one (.ex (.mt uM (.v 5) (.cons (.tup (.cons (.c (.str "if")) (.cons (.v 11) (.cons (.v 10) (.cons (.ix (.lst (.cons (.tup .nil) (.cons (.cl 33 [0,1] (.cons (.v 0) (.cons (.v 1) (.cons (.b2 dk (.v 2) (.c (.int 1))) (.cons (.c (.int 2)) (.cons (.v 4) .nil)))))) .nil))) (.cl 29 [0] (.cons (.v 0) (.cons (.c (.int 2)) .nil)))) .nil))))) .nil))))) (.one (.iff (.cmp gN (.v 8) (.c (.int 1))) (.seq (.put (.b2 pX (.ix (.v 4) (.c (.int 0))) (.c (.int 2))) (.v 4) (.c (.int 0)))
 (.seq (.set 12 (.tup (.cons (.c (.str "set")) (.cons (.v 9) (.cons (.tup (.cons (.c (.str "minus")) (.cons (.tup (.cons (.c (.str "box")) (.cons (.v 9) .nil))) (.cons (.tup (.cons (.c (.str "number")) (.cons (.c (.int 1)) .nil))) .nil)))) .nil)))))
 (.seq (.ex (.mt uM (.v 5) (.cons (.tup (.cons (.c (.str "set")) (.cons (.v 9) (.cons (.tup (.cons (.c (.str "number")) (.cons (.cl 29 [0] (.cons (.v 0) (.cons (.c (.int 5)) .nil))) .nil))) .nil)))) .nil)))
 (.one (.ex (.mt uM (.v 5) (.cons (.tup (.cons (.c (.str "while")) (.cons (.tup (.cons (.c (.str "box")) (.cons (.v 9) .nil))) (.cons (.ix (.lst (.cons (.b2 dk (.tup (.cons (.v 12) .nil)) (.v 10)) (.cons (.b2 dk (.v 10) (.tup (.cons (.v 12) .nil))) .nil))) (.cl 29 [0] (.cons (.v 0) (.cons (.c (.int 2)) .nil)))) .nil)))) .nil))))))) (.one (.ex (.mt uM (.v 5) (.cons (.tup (.cons (.c (.str "try")) (.cons (.v 10) (.cons (.v 9) (.cons (.cl 33 [0,1] (.cons (.v 0) (.cons (.v 1) (.cons (.b2 dk (.v 2) (.c (.int 1))) (.cons (.c (.int 2)) (.cons (.v 4) .nil)))))) .nil))))) .nil))))))))))))))))
 (.one (.ret (.bi yf (.cons (.v 5) .nil)))))) S.s63 rfl ⟨(lU B S).le (by lia),US.le (by lia),D32.le (by lia),BH B S US D32 n,trivial⟩ trivial (Rg λm lf mo s dd Q xc n1 n4 hm hmo hlf g q=>?_)
  have nb:EX s.bs:=⟨g.o.b,g.b⟩
  have nl:EX s.ls:=⟨g.o.l,g.l⟩
  refine aq (Ef (m:=(mo:Nat)+1) hm (by lia) (by lia)) λm1 t uI ht=>?_
  have ht:(t:Int)<(mo:Nat)+1:=ht
  refine aq (by show(nc t&&decide ((-4611686018427387904:Int)<=(t:Nat)))=true;rw[lK (aA (show t<=10 by lia) (by decide)),aT (by lia)];rfl) ?_
  refine fk (λpre post σ h=>RJ n s dd lf mo pre σ h) (.mk m1 lf [] _ _ _ _ _ _ _ (by decide) uI oA.nil ⟨Int.le_refl _,by show 4*((0:Nat):Int)<=_;lia,.inl (Int.le_refl _)⟩ (by decide)) (λpre x post σ h e j=>?_) (λσ h j=>?_)
  ·cases j with
   |mk m' qX xs v6 v7 v8 v9 v10 v11 v12 _ OS gx lx xl=>
   have pl:=(A1 e).2
   have pl:pre.length<t:=pl
   have sx:∀{k:Nat},k<=20->nc (xs.length+k)=true:=λhk=>lK (aA (show _<=50 by lia) (by decide))
   have Z7:∀{ys:List Pv},ys.length<=2->(xs++ys).length<=2*(pre ++ [x]).length:=λ{ys} h=>by rw[ai,ai];show _<=2*(pre.length+1);lia
   have ZV:(pre ++ [x]).length<=10:=by rw[ai];show pre.length+1<=10;lia
   refine dC (c:=qm qX 4) (λ_=>q _ _ _ OS gx lx) λc4=>?_
   have c4:4<=qX:=by
    have : ¬qX<4:=λz=>by rw[dN.mpr z] at c4;cases c4
    lia
   refine aq (jM OS rfl) λm2 kd lX hkd=>Fq ?_ λc1 _ c0=>?_
   ·refine Exists.intro s (Exists.intro dd (And.intro rfl (And.intro g (aq (by show(true&&gz m2)=true;rw[lX];rfl) λm3 v qf gp=>aq (sx (k:=1) (by decide)) ?_))))
    exact RJ.mk m3 (qX-2) (xs ++ [v]) _ _ _ _ _ _ _ ZV qf (gx.app gp.one.1) (lx.step (c':=1) (by lia) (by lia) (by lia) (by rw[kD,(gp.one (n:=n)).2])) (Z7 (by show 1<=2;decide))
   ·have hn:1<=n:=by
     have c1:qm 3 (5-((n+1:Nat):Int))=false:=c1
     have : ¬ ((3:Int)<5-(n+1:Nat)):=λz=>by rw[dN.mpr z] at c1;cases c1
     lia
    have hbl:1<=s.bs.length:=by
     have : ¬ ((s.bs.length:Nat):Int)=0:=λz=>by rw[show iZ (Pv.int (s.bs.length:Nat)) (.int 0)=true from cK.mpr z] at c0;cases c0
     lia
    refine aq (Ef lX (by lia) (by have:=g.b;lia)) λm3 t3 qf Gw=>?_
    obtain⟨bx,Wy,e3⟩:=gW Gw
    refine bK e3 (Exists.intro s (Exists.intro dd (And.intro rfl (And.intro g (aq (V7 (lf:=qX-2) qf hn (by lia) (by lia) rfl (by have:=lx.a;lia)) λm4 D3 r1 qg g1 l1=>?_)))))
    have l1:Qj n (qX-2) D3 (c5 r1):=l1
    have lxa:=lx.a
    have la:=l1.a
    have lb:=l1.b
    have lm:4-2*(n:Int)<=D3:=by rcases l1.m with z|z<;>lia
    refine dC (λ_=>?_) λ_=>dC (λ_=>?_) λ_=>?_
    ·refine aq (QS (d:=2) qg (by decide) (by decide) nb nl) λm5 v rM gv=>Exists.intro s (Exists.intro dd (And.intro rfl (And.intro g (aq (V7 rM hn (by lia) (by lia) rfl (by lia)) λm6 Xk r2 uJ g2 l2=>aq (jM uJ rfl) λm7 t7 DS WZ=>?_))))
     have la2:=l2.a
     have lb2:=l2.b
     have lm2:4-2*(n:Int)<=Xk:=by rcases l2.m with z|z<;>lia
     obtain⟨b,gb,cb,eb⟩:∃b,oA n s b/\c5 b<=c5 r2/\qR [Pv.tup [],.tup r2] (t7:Nat)=some (.tup b):=by
      have WZ:t7<2:=by have:(t7:Int)<2:=WZ;lia
      rcases t7 with _|_|t
      ·exact⟨[],oA.nil,cI _,rfl⟩
      ·exact⟨r2,g2,au _,rfl⟩
      ·lia
     obtain⟨gi,ci⟩:=Wl (by lia) (gv.v4 (by decide)) g1 gb
     refine bK eb (aq (sx (k:=1) (by decide)) ?_)
     exact RJ.mk m7 Xk (xs ++ [_]) _ _ _ _ _ _ _ ZV DS (gx.app gi) (lx.step (c':=1+c5 r1+c5 b) (by lia) (by lia) (by lia) (by rw[kD,ci])) (Z7 (by show 1<=2;decide))
    ·have r1l:r1.length<=100:=by
      have:=Az r1
      lia
     refine aq (jM qg rfl) λm5 t5 rM zb=>aq (sx (k:=1) (by decide)) ?_
     have zb:(t5:Int)<5:=zb
     refine aq (lK (aA (show 1+r1.length<=101 by lia) (by decide))) (aq (lK (aA (show r1.length+1<=101 by lia) (by decide))) (aq (jM rM rfl) λm6 t6 uJ E7=>?_))
     have gl:=wB g.o Wy (N9 g.o Wy)
     obtain⟨n',rfl⟩:∃n',n=n'+1:=⟨n-1,by lia⟩
     obtain⟨gl1,gl2⟩:=gl.one (n:=n')
     obtain⟨b,gb,cb,eb⟩:∃b,oA (n'+1) s b/\c5 b=1+c5 r1/\qR [Pv.tup ([.tup [.str "set",bx,.tup [.str "minus",.tup [.str "box",bx],.tup [.str "number",.int 1]]]]++r1),.tup (r1 ++ [.tup [.str "set",bx,.tup [.str "minus",.tup [.str "box",bx],.tup [.str "number",.int 1]]]])] (t6:Nat)=some (.tup b):=by
      have E7:t6<2:=by have:(t6:Int)<2:=E7;lia
      rcases t6 with _|_|t
      ·exact⟨_,gl1.app g1,by rw[kD,gl2],rfl⟩
      ·exact⟨_,g1.app gl1,by rw[kD,gl2,Nat.add_comm],rfl⟩
      ·lia
     obtain⟨gi,ci⟩:=Gg (by lia) (Ur g.o Wy) gb
     have Wn:=(wB g.o Wy (Us (s:=s) (i:=t5) (by lia))).one (n:=n'+1)
     refine bK eb (aq (by rw[ai];exact sx (k:=2) (by decide)) ?_)
     refine RJ.mk m6 (D3-2) (xs ++ [_] ++ [_]) _ _ _ _ _ _ _ ZV uJ (by rw[dq];exact gx.app (Wn.1.app gi)) (lx.step (c':=1+(1+(1+c5 r1))) (by lia) (by lia) (by lia) (by rw[kD,kD,ci,Wn.2,cb];lia)) (by rw[dq];exact Z7 (by show 2<=2;decide))
    ·refine Exists.intro s (Exists.intro dd (And.intro rfl (And.intro g (aq (V7 qg hn (by lia) (by lia) rfl (by lia)) λm6 Xk r2 uJ g2 l2=>?_))))
     have la2:=l2.a
     have lb2:=l2.b
     have lm2:4-2*(n:Int)<=Xk:=by rcases l2.m with z|z<;>lia
     obtain⟨gi,ci⟩:=Rc (by lia) g.o Wy g1 g2
     refine aq (sx (k:=1) (by decide)) ?_
     exact RJ.mk m6 Xk (xs ++ [_]) _ _ _ _ _ _ _ ZV uJ (gx.app gi) (lx.step (c':=1+c5 r1+c5 r2) (by lia) (by lia) (by lia) (by rw[kD,ci])) (Z7 (by show 1<=2;decide))
  ·cases j with
   |mk m' qX xs v6 v7 v8 v9 v10 v11 v12 _ OS gx lx _=>
   exact q _ _ _ OS gx lx
theorem wI{p:Pv}:∀{a b:List Pv},gX p (a++b)=(gX p a||gX p b)
 | [],_=>rfl
 |x::a,b=>by
  show(iZ x p||gX p (a++b))=((iZ x p||gX p a)||gX p b)
  rw[wI,Bool.or_assoc]
theorem yS{bs bs' ls:List Pv}(h:∀p,gX p bs=gX p bs'):∀n,val n bs ls=val n bs' ls
 |0=>by funext x;rfl
 |n+1=>by
  funext x
  have ih:=yS (ls:=ls) h n
  cases x with
  |tup xs=>cases xs with
   |nil=>rfl
   |cons a r=>cases a with
    |str w=>
     show kr (val n bs ls) bs ls r (lk w iU)=kr (val n bs' ls) bs' ls r (lk w iU)
     have e:vn (val n bs ls) bs ls=vn (val n bs' ls) bs' ls:=by
      funext y
      unfold vn qF
      rw[ih]
      simp only[h]
     cases lk w iU with
     |none=>rfl
     |some ks=>
      show(_&&(fh (ks.map .str) r).all (vn (val n bs ls) bs ls))=_
      rw[e];rfl
    |_=>rfl
  |_=>rfl
theorem yI{s:Sc}{bs':List Pv}(h:∀p,gX p s.bs=gX p bs'):∀n,row n s=row n {s with bs:=bs'}
 |0=>by funext x;rfl
 |n+1=>by
  funext x
  have ih:=yI (s:=s) h n
  have iv:=yS (ls:=s.ls) h 4
  cases x with
  |tup xs=>cases xs with
   |nil=>rfl
   |cons a r=>cases a with
    |str w=>
     show yH (cY (row n s)) s w r (lk w gS)=yH (cY (row n {s with bs:=bs'})) {s with bs:=bs'} w r (lk w gS)
     have e:nA (cY (row n s)) s=nA (cY (row n {s with bs:=bs'})) {s with bs:=bs'}:=by
      funext y
      unfold nA fX
      rw[ih]
      simp only[h,iv]
     cases lk w gS with
     |none=>rfl
     |some ks=>
      show(_&&(_&&((fh (ks.map .str) r).all (nA (cY (row n s)) s)&&_)))=_
      rw[e];rfl
    |_=>rfl
  |_=>rfl
theorem xt(h:l.Sublist xs)(u:jO xs=true):jO l=true:=by
 unfold jO gT at u⊢
 exact mI.mpr ((h.map jG).nodup (mI.mp u))
theorem mw(h:l.Sublist xs)(u:xs.all aE=true):l.all aE=true:=aj.mpr λx hx=>aj.mp u x (h.subset hx)
def DV:Pv->Bool
 |.int (.ofNat k)=>Nat.ble k 2
 |_=>false
theorem Fv(h:DV u=true):vd u=true:=by
 unfold DV at h
 split at h
 ·exact ble_iff.mpr (by have:=ble_iff.mp h;lia)
 ·cases h
structure PN (xs bx lx ts us dd:List Pv):Prop where
 x:Dn 9 xs
 b:∃i,i<=3/\bx=xs.take i
 l:∃j,j<=2/\lx=(xs.drop 3).take j
 t:ts.all aE=true
 tu:jO ts=true
 tl:ts.length<=2
 u:us.all DV=true
 e:ts.length=us.length
 d:EX dd
noncomputable def qG(xs:List Pv)(k:Nat):List Pv:=(xs.drop 5).take k
def qZ(xs:List Pv)(o:Nat):List Pv:=(xs.drop 7).take o
theorem V'{i j:Nat}(hi:i<=3)(hj:j<=2)(hk:k<=2):((xs.take i++(xs.drop 3).take j)++(qG xs k++qZ xs o)).Sublist xs:=by
 have e:xs=(xs.take 3++(xs.drop 3).take 2)++((xs.drop 5).take 2++xs.drop 7):=by
  have e1:(xs.drop 5).take 2++xs.drop 7=xs.drop 5:=by
   rw[show xs.drop 7=(xs.drop 5).drop 2 by rw[List.drop_drop],gn]
  have e2:(xs.drop 3).take 2++xs.drop 5=xs.drop 3:=by
   rw[show xs.drop 5=(xs.drop 3).drop 2 by rw[List.drop_drop],gn]
  rw[e1,dq,e2,gn]
 have s1:(xs.take i).Sublist (xs.take 3):=lO hi
 have s2:((xs.drop 3).take j).Sublist ((xs.drop 3).take 2):=lO hj
 have s3:(qG xs k).Sublist ((xs.drop 5).take 2):=lO hk
 have s4:(qZ xs o).Sublist (xs.drop 7):=cg _ _
 have:=(s1.append s2).append (s3.append s4)
 rw[<-e] at this
 exact this
def Ja(xs bx lx ts us:List Pv)(k o:Nat)(rt:Bool):Sc:=⟨qG xs k++qZ xs o++bx,lx,ts,us,rt⟩
theorem wM(h:xs.length=9)(hk:k<=2):(qG xs k).length=k:=by
 unfold qG
 rw[bQ,pN,h];lia
theorem wL(h:xs.length=9)(ho:o<=2):(qZ xs o).length=o:=by
 unfold qZ
 rw[bQ,pN,h];lia
theorem PN.VF(p:PN xs bx lx ts us dd)(hk:k<=2):((bx++lx)++(qG xs k++qZ xs o)).Sublist xs:=by
 obtain⟨i,hi,rfl⟩:=p.b
 obtain⟨j,hj,rfl⟩:=p.l
 exact V' hi hj hk
theorem PN.nb(p:PN xs bx lx ts us dd):bx.all aE=true/\bx.length<=3:=by
 obtain⟨i,hi,rfl⟩:=p.b
 exact⟨mw (cg _ _) p.x.nm,by rw[bQ];lia⟩
theorem PN.nl(p:PN xs bx lx ts us dd):lx.all aE=true/\lx.length<=2:=by
 obtain⟨j,hj,rfl⟩:=p.l
 exact⟨mw ((cg _ _).trans (eQ _ _)) p.x.nm,by rw[bQ];lia⟩
theorem PN.no(p:PN xs bx lx ts us dd):(qG xs k).all aE=true/\(qZ xs o).all aE=true:=⟨mw ((cg _ _).trans (eQ _ _)) p.x.nm,mw ((cg _ _).trans (eQ _ _)) p.x.nm⟩
theorem KI(h:vd u=true):isInt u=true:=by
 unfold vd at h
 split at h
 ·rfl
 ·cases h
theorem PN.gs(p:PN xs bx lx ts us dd)(hk:k<=2)(ho:o<=2):GS (Ja xs bx lx ts us k o rt) dd where
 o:=⟨by show(qG xs k++qZ xs o++bx).all aE=true;rw[bA,bA,(p.no (k:=k) (o:=o)).1,(p.no (k:=k) (o:=o)).2,p.nb.1];rfl,p.nl.1,p.t,p.tu,bU (λ_ h=>KI (Fv h)) p.u,p.e,by have:=p.tl;show ts.length<=100;lia⟩
 b:=by
  have h1:=wM p.x.len hk
  have h2:=wL p.x.len ho
  have h3:=p.nb.2
  show(qG xs k++qZ xs o++bx).length<=100
  rw[ai,ai];lia
 l:=by have:=p.nl.2;show lx.length<=100;lia
 u:=bU (λ_=>Fv) p.u
 d:=p.d
def QZ(xs:List Pv)(a:Pv)(k o:Nat)(rs:List Pv):Pv:=.tup [a,.tup (qG xs k),.tup (qZ xs o),.tup rs]
structure FG (xs bx lx ts us:List Pv) (a:Pv) (k o:Nat) (rs:List Pv):Prop where
 nm:aE a=true
 k2:k<=2
 o2:o<=2
 r:oA 5 (Ja xs bx lx ts us k o true) rs
def FGs(xs bx lx ts us fs:List Pv):Prop:=∀g∈fs,∃a k o rs,g=QZ xs a k o rs/\FG xs bx lx ts us a k o rs
theorem AK:∀{l:List Pv},l.all aE=true->dR l=true/\cE l<=7*l.length
 | [],_=>⟨rfl,au _⟩
 |x::l,h=>by
  rw[aB] at h
  obtain⟨a,b⟩:=jq (ag h).1
  obtain⟨c,d⟩:=AK (ag h).2
  exact⟨by show(dP x&&dR l)=true;rw[a,c];rfl,by show cU x+cE l<=7*(l.length+1);lia⟩
section
variable {a:Pv}
theorem FG.fn(p:PN xs bx lx ts us dd)(h:FG xs bx lx ts us a k o rs):cO (QZ xs a k o rs)=true/\dP (QZ xs a k o rs)=true/\cU (QZ xs a k o rs)<=1000*jH (QZ xs a k o rs):=by
 have l1:=wM p.x.len h.k2
 have l2:=wL p.x.len h.o2
 obtain⟨n1,n2⟩:=p.no (k:=k) (o:=o)
 obtain⟨d1,s1⟩:=AK n1
 obtain⟨d2,s2⟩:=AK n2
 obtain⟨d3,s3⟩:=jq h.nm
 have hk:=h.k2
 have ho:=h.o2
 refine⟨?_,?_,?_⟩
 ·show(aE a&&((hV ((qG xs k).length:Nat) 3&&(qG xs k).all aE)&&((hV ((qZ xs o).length:Nat) 3&&(qZ xs o).all aE)&&true)))=true
  rw[h.nm,n1,n2,bN.mpr (by lia),bN.mpr (by lia)];rfl
 ·show(dP a&&(dR (qG xs k)&&(dR (qZ xs o)&&(dR rs&&true))))=true
  rw[d1,d2,d3,h.r.d];rfl
 ·have:=h.r.z
  show 1+(cU a+(1+cE (qG xs k)+(1+cE (qZ xs o)+(1+cE rs+0))))<=1000*(1+c5 rs)
  lia
end
theorem CM{f:Pv->Nat}{c:Nat}:∀{l:List Pv},(∀g∈l,cU g<=c*f g)->cE l<=c*dF f l
 | [],_=>cI _
 |g::l,h=>by
  have h1:=h g aL
  have h2:=CM λy hy=>h y (ax _ hy)
  show cU g+cE l<=c*(f g+dF f l)
  rw[Nat.mul_add];lia
theorem jg:∀{l:List Pv},(∀g∈l,dP g=true)->dR l=true
 | [],_=>rfl
 |g::l,h=>by
  show(dP g&&dR l)=true
  rw[h g aL,jg λy hy=>h y (ax _ hy)];rfl
theorem Cq:∀{ts us fs:List Pv},ts.length=us.length->eF ts us=fs.map pk->ts=fs.map bC/\us=fs.map jR
 | [],[],[],_,_=>⟨rfl,rfl⟩
 | [],[],_::_,_,e=>by cases e
 | [],_::_,_,h,_=>by cases h
 |_::_,[],_,h,_=>by cases h
 |_::_,_::_,[],_,e=>by cases e
 |t::ts,u::us,f::fs,h,e=>by
  have e:Pv.tup [t,u]::eF ts us=.tup [bC f,jR f]::fs.map pk:=e
  injection e with e1 e2
  injection e1 with e1
  injection e1 with e1 e3
  injection e3 with e3 _
  obtain⟨a,b⟩:=Cq (by simpa using h) e2
  rw[e1,e3,a,b];exact⟨rfl,rfl⟩
structure u_ (b l f r:Pv):Prop where
 v:iz b l f r=none
 d:dP (.tup [b,l,f,r])=true
 z:cU (.tup [b,l,f,r])<=100000
theorem Lj{fs:List Pv}(p:PN xs bx lx ts us dd)(hb:b.map bC=bx)(b1:b.all ef=true)(hl:l.map bC=lx)(l1:l.all isList=true)(hf:eF ts us=fs.map pk)(gf:FGs xs bx lx ts us fs)(gr:oA 4 (Ja xs bx lx ts us 0 0 false) rs)(tt:dF jH fs+c5 rs<=60)
  (db:dR b=true) (dl:dR l=true) (sb:cE b<=1000) (sl:cE l<=1000):u_ (.tup b) (.tup l) (.tup fs) (.tup rs):=by
 obtain⟨e1,e2⟩:=Cq p.e hf
 have lb:b.length<=3:=by rw[<-ah (f:=bC),hb];exact p.nb.2
 have ll:l.length<=2:=by rw[<-ah (f:=bC),hl];exact p.nl.2
 have lf:fs.length<=2:=by rw[<-ah (f:=bC),<-e1];exact p.tl
 have af:fs.all cO=true:=aj.mpr λg hg=>by
  obtain⟨a,k,o,rs,rfl,h⟩:=gf g hg
  exact(h.fn p).1
 refine⟨?_,?_,?_⟩
 ·unfold iz
  have v1:kW (.tup b) (.tup l)=true:=by
   show((hV (b.length:Nat) 6&&b.all ef)&&((hV (l.length:Nat) 3&&l.all isList)&&jO (b.map bC++l.map bC)))=true
   rw[b1,l1,bN.mpr (by lia),bN.mpr (by lia),hb,hl,xt ((List.sublist_append_left _ _).trans (p.VF (k:=0) (o:=0) (by decide))) p.x.un];rfl
  have v2:jS (d9 (.tup b)++d9 (.tup l)) (.tup fs)=true:=by
   show((hV (fs.length:Nat) 4&&fs.all cO)&&(jO (fs.map bC)&&fs.all λg=>jO (b.map bC++l.map bC++hZ g)))=true
   rw[af,bN.mpr (by lia),<-e1,p.tu,hb,hl,aj.mpr λg hg=>by
    obtain⟨a,k,o,rs,rfl,h⟩:=gf g hg
    exact xt (p.VF h.k2) p.x.un]
   rfl
  have v3:kQ (.tup b) (.tup l) (.tup fs) (.tup rs)=true:=by
   show((fs.all λg=>eJ 5 (jV (.tup b) (.tup l) (.tup fs) (hZ g) true) (mi g))&&rs.all (row 5 (jV (.tup b) (.tup l) (.tup fs) [] false)))=true
   have h2:rs.all (row 5 (jV (.tup b) (.tup l) (.tup fs) [] false))=true:=by
    have:jV (.tup b) (.tup l) (.tup fs) [] false=Ja xs bx lx ts us 0 0 false:=by
     show(⟨b.map bC ++ [],l.map bC,fs.map bC,fs.map jR,false⟩:Sc)=_
     rw[bS,hb,hl,<-e1,<-e2];rfl
    rw[this]
    exact bU (λ_ h=>tY h) gr.r
   rw[h2,cZ,aj]
   intro g hg
   obtain⟨a,k,o,rs,rfl,h⟩:=gf g hg
   show rs.all (row 5 (jV (.tup b) (.tup l) (.tup fs) (qG xs k++qZ xs o) true))=true
   have:row 5 (Ja xs bx lx ts us k o true)=row 5 (jV (.tup b) (.tup l) (.tup fs) (qG xs k++qZ xs o) true):=by
    rw[yI (bs':=bx++(qG xs k++qZ xs o)) (λp=>by
     show gX p (qG xs k++qZ xs o++bx)=_
     rw[wI,wI (a:=bx),Bool.or_comm]) 5]
    show row 5 ⟨bx++(qG xs k++qZ xs o),lx,ts,us,true⟩=row 5 ⟨b.map bC++(qG xs k++qZ xs o),l.map bC,fs.map bC,fs.map jR,true⟩
    rw[hb,hl,<-e1,<-e2]
   rw[<-this];exact h.r.r
  rw[v1,v2,v3]
  show vE (!qm 60 (ko (.tup fs) (.tup rs):Nat)) 2 none=none
  have:qm 60 (ko (.tup fs) (.tup rs):Nat)=false:=bG.mpr λz=>by
   have z:=dN.mp z
   have:ko (.tup fs) (.tup rs)=dF jH fs+c5 rs:=rfl
   lia
  rw[this];rfl
 ·show(dR b&&(dR l&&(dR fs&&(dR rs&&true))))=true
  rw[db,dl,gr.d,jg λg hg=>by
   obtain⟨a,k,o,rs,rfl,h⟩:=gf g hg
   exact(h.fn p).2.1]
  rfl
 ·have h1:=gr.z
  have h2:cE fs<=1000*dF jH fs:=CM λg hg=>by
   obtain⟨a,k,o,rs,rfl,h⟩:=gf g hg
   exact(h.fn p).2.2
  show 1+(1+cE b+(1+cE l+(1+cE fs+(1+cE rs+0))))<=100000
  lia
def pY:Ct:=λds h Q _=>rC ds λi r=>iC r λo r=>nC r (mC h λm g=>nC g (gd (Nat.beq i 0&&(gz m&&(hV 0 o&&hV o 6))) (∀(m':Int) b l f r,gz m'=true->u_ b l f r->Q (.p (.tup [b,l,f,r])) [.lst [.int m']])))
theorem Ri{b:Ss}(H:∀(m:Int) (o:Nat) (Q:Dv->Hs->Prop) (xc:XP),gz m=true->o<=6->(∀(m':Int) b l f r,gz m'=true->u_ b l f r->Q (.p (.tup [b,l,f,r])) [.lst [.int m']])->b (eE true 1 Q xc) (j5 k [.r 0,.p (.int (o:Nat))]) [.lst [.int m]]):∀ds h Q xc,pY ds h Q xc->ds.length=2/\b (eE true h.length Q xc) (j5 k ds) h:=by
 intro ds h Q xc c
 unfold pY at c
 refine nX c λi _ c=>tJ c λo _ c=>eI c λc=>tP c λm _ c=>eI c λc=>?_
 obtain⟨h1,c'⟩:=bt c
 obtain⟨h2,h3,h4,h5⟩:=jd h1
 rw[ao h2]
 refine⟨rfl,?_⟩
 obtain⟨a,rfl⟩:=fB (bN.mp h4)
 exact H m a Q xc h3 (by have:=bN.mp h5;lia) c'
theorem nmg{n a:Int}(h:gz n=true)(h1:(hV 0 a&&hV a 9)=true):(true&&(gz n&&(hV 0 a&&hV a 9)))=true:=by rw[h,h1];rfl
theorem vt:∀{a b:List Pv}{x y:Pv},a.length=b.length->eF (a ++ [x]) (b ++ [y])=eF a b ++ [.tup [x,y]]
 | [],[],_,_,_=>rfl
 | [],_::_,_,_,h=>by cases h
 |_::_,[],_,_,h=>by cases h
 |u::a,v::b,x,y,h=>by
  show Pv.tup [u,v]::eF (a ++ [x]) (b ++ [y])=.tup [u,v]::(eF a b ++ [.tup [x,y]])
  rw[vt (by simpa using h)]
inductive P1 (o:Nat):Es->Hs->Prop
 |mk (m:Int) (xs bx lx ts us dd:List Pv) (hm:gz m=true) (p:PN xs bx lx ts us dd):P1 o [some (.r 0),some (.p (.int (o:Nat))),some (.p (.lst xs)),some (.p (.lst bx)),some (.p (.lst lx)),some (.p (.lst ts)),some (.p (.lst dd)),some (.p (.lst (eF ts us))),some (.r 1),none,none,none,none,none,none,none,none,none,none] [.lst [.int m],.lst [.int 56]]
inductive P2 (o:Nat) (xs bx lx ts us dd pre:List Pv):Es->Hs->Prop
 |mk (m lf:Int) (fs:List Pv) (v1 v2 v3 v4 v5 v6 v7 v8 v9:Option Dv) (hm:gz m=true) (hf:pre=fs.map pk) (gf:FGs xs bx lx ts us fs) (la:lf<=56) (lb:4*(dF jH fs:Int)<=3*(56-lf)+2*fs.length) (lc : -4-(fs.length:Int)<=lf) :
  P2 o xs bx lx ts us dd pre [some (.r 0),some (.p (.int (o:Nat))),some (.p (.lst xs)),some (.p (.lst bx)),some (.p (.lst lx)),some (.p (.lst ts)),some (.p (.lst dd)),some (.p (.lst (eF ts us))),some (.r 1),some (.r 2),v1,v2,v3,v4,v5,v6,v7,v8,v9] [.lst [.int m],.lst [.int lf],.lst fs]
inductive P3 (o:Nat) (xs bx lx ts us dd fs:List Pv) (t:Pv) (c w:Nat) (lf:Int):Es->Hs->Prop
 |mk (m D3:Int) (rs:List Pv) (v7 v8 v9:Option Dv) (hm:gz m=true) (gr:oA 5 (Ja xs bx lx ts us c w true) rs) (la:D3<=lf) (lb:4*(c5 rs:Int)<=3*(lf-D3)+1) (lc:lf<=D3 \/ -4<=D3) :
  P3 o xs bx lx ts us dd fs t c w lf [some (.r 0),some (.p (.int (o:Nat))),some (.p (.lst xs)),some (.p (.lst bx)),some (.p (.lst lx)),some (.p (.lst ts)),some (.p (.lst dd)),some (.p (.lst (eF ts us))),some (.r 1),some (.r 2),some (.p t),some (.p (.int (c:Nat))),some (.p (.lst (qG xs c))),some (.p (.lst (qZ xs w))),some (.p (R8 (Ja xs bx lx ts us c w true) dd)),some (.p (.tup rs)),v7,v8,v9] [.lst [.int m],.lst [.int D3],.lst fs]
theorem Cu:∀{ts us:List Pv}{x:Pv},ts.all aE=true->us.all DV=true->x∈eF ts us->∃(t:Pv) (c:Nat),x=.tup [t,.int (c:Nat)]/\aE t=true/\c<=2
 | [],_,_,_,_,h=>nomatch h
 |_::_,[],_,_,_,h=>nomatch h
 |t::ts,u::us,x,h1,h2,h=>by
  rw[aB] at h1 h2
  rcases aN.mp (show x∈Pv.tup [t,u]::eF ts us from h) with rfl|h
  ·have hu:=(ag h2).1
   unfold DV at hu
   split at hu
   ·exact⟨t,_,rfl,(ag h1).1,ble_iff.mp hu⟩
   ·cases hu
  ·exact Cu (ag h1).2 (ag h2).2 h
theorem oA.up(h:oA n s xs):oA (n+1) s xs:=⟨bU (λ_ h=>tY h) h.r,h.d,h.z⟩
structure Bxs (pre acc:List Pv):Prop where
 f:acc.map bC=pre
 b:acc.all ef=true
 d:dR acc=true
 z:cE acc<=20*acc.length
structure Nus (acc:List Pv):Prop where
 n:acc.all fc=true
 d:dR acc=true
 z:cE acc<=acc.length
structure Lss (pre acc:List Pv):Prop where
 f:acc.map bC=pre
 b:acc.all isList=true
 d:dR acc=true
 z:cE acc<=40*acc.length
inductive P4 (o:Nat) (xs bx lx ts us dd fs rs bp:List Pv) (lf mo am:Int) (pre:List Pv):Es->Hs->Prop
 |mk (m:Int) (ls:List Pv) (v1 v2 v3 v4 v9:Option Dv) (hm:gz m=true) (g:Lss pre ls) :
  P4 o xs bx lx ts us dd fs rs bp lf mo am pre [some (.r 0),some (.p (.int mo)),some (.p (.lst xs)),some (.p (.lst bx)),some (.p (.lst lx)),some (.p (.lst ts)),some (.p (.lst dd)),some (.p (.lst (eF ts us))),some (.r 1),some (.r 2),v1,some (.p (.int am)),v2,v3,v4,some (.p (.tup rs)),some (.p (.tup bp)),some (.r 3),v9] [.lst [.int m],.lst [.int lf],.lst fs,.lst ls]
theorem Hm(h:(k:Int)<mo)(h2:mo<=1000000):fc (.int (k:Nat))=true:=by
 show(hV 0 (k:Nat)&&hV (k:Nat) 999999)=true
 rw[bN.mpr (by lia),bN.mpr (by lia)];rfl
theorem K2(B:LX ca W)(S:SX W)(D30:DX ca W 30 3 oK)(US:DX ca W 31 6 (lg 3))(D33:DX ca W 33 12 (lS 4)):DX ca W 34 13 pY:=by
 refine B.eN (k:=11) ["_law_state_here","_law_most","_law_names_here","_law_boxes","_law_lists","_law_titles","_law_doors","_law_amounts","_law_left","_law_functions","_law_title","_law_amount","_law_params","_law_owns","_law_inner","_law_rows_here","_law_pairs","_law_things","_law_name"] true [(29,kf),(30,oK),(31,lg 3),(33,lS 4)] [] (.seq (.set 2 (.cl 30 [0] (.cons (.v 0) (.cons (.c (.int 9)) .nil))))
 (.seq (.set 3 (.sl (.v 2) .no (.of (.ix (.lst (.cons (.c (.int 1)) (.cons (.c (.int 2)) (.cons (.c (.int 2)) (.cons (.c (.int 3)) .nil))))) (.cl 29 [0] (.cons (.v 0) (.cons (.c (.int 4)) .nil)))))))
 (.seq (.set 4 (.sl (.sl (.v 2) (.of (.c (.int 3))) .no) .no (.of (.ix (.lst (.cons (.c (.int 0)) (.cons (.c (.int 1)) (.cons (.c (.int 1)) (.cons (.c (.int 2)) .nil))))) (.cl 29 [0] (.cons (.v 0) (.cons (.c (.int 4)) .nil)))))))
 (.seq (.set 5 (.sl (.cl 30 [0] (.cons (.v 0) (.cons (.c (.int 4)) .nil))) .no (.of (.cl 29 [0] (.cons (.v 0) (.cons (.c (.int 3)) .nil))))))
 (.seq (.set 6 (.sl (.lst (.cons (.ix (.v 2) (.c (.int 0))) (.cons (.ix (.v 2) (.c (.int 5))) (.cons (.c (.str "door")) .nil)))) .no (.of (.cl 29 [0] (.cons (.v 0) (.cons (.c (.int 4)) .nil))))))
 (.seq (.setC 7 1 [0] (.one 0) (.s (.v 5)) .no (.tup (.cons (.v 0) (.cons (.cl 29 [0] (.cons (.v 1) (.cons (.c (.int 3)) .nil))) .nil))))
 (.cut (.set 8 (.R4 (.cons (.c (.int 56)) .nil)))
 (.seq (.set 9 (.R4 .nil))
 (.seq (.fo (.many [10,11]) (.s (.v 7)) (.seq (.set 12 (.sl (.sl (.v 2) (.of (.c (.int 5))) .no) .no (.of (.v 11))))
 (.seq (.set 13 (.sl (.sl (.v 2) (.of (.c (.int 7))) .no) .no (.of (.cl 29 [0] (.cons (.v 0) (.cons (.c (.int 3)) .nil))))))
 (.seq (.set 14 (.tup (.cons (.b2 dk (.b2 dk (.v 12) (.v 13)) (.v 3)) (.cons (.v 4) (.cons (.v 7) (.cons (.v 6) (.cons (.c (.bl true)) .nil)))))))
 (.seq (.set 15 (.cl 33 [0,1] (.cons (.v 0) (.cons (.v 14) (.cons (.c (.int 1)) (.cons (.c (.int 4)) (.cons (.v 8) .nil)))))))
 (.cut (.iff (.bo (Wm.ac (.cmp vR (.cl 29 [0] (.cons (.v 0) (.cons (.c (.int 3)) .nil))) (.c (.int 0))) (Wm.a1 (.cmp vR (.ix (.v 8) (.c (.int 0))) (.c (.int 3)))))) (.seq (.put (.b2 pX (.ix (.v 8) (.c (.int 0))) (.c (.int 1))) (.v 8) (.c (.int 0)))
 (.one (.set 15 (.b2 dk (.v 15) (.tup (.cons (.tup (.cons (.c (.str "return")) (.cons (.cl 31 [0] (.cons (.v 0) (.cons (.c (.int 2)) (.cons (.ix (.v 14) (.c (.int 0))) (.cons (.v 4) .nil))))) .nil))) .nil)))))) .nil)
 (.seq (.put (.b2 pX (.ix (.v 8) (.c (.int 0))) (.c (.int 1))) (.v 8) (.c (.int 0)))
 (.one (.ex (.mt uM (.v 9) (.cons (.tup (.cons (.v 10) (.cons (.bi yf (.cons (.v 12) .nil)) (.cons (.bi yf (.cons (.v 13) .nil)) (.cons (.v 15) .nil))))) .nil)))))))))))
 (.seq (.set 15 (.cl 33 [0,1] (.cons (.v 0) (.cons (.tup (.cons (.v 3) (.cons (.v 4) (.cons (.v 7) (.cons (.v 6) (.cons (.c (.bl false)) .nil)))))) (.cons (.c (.int 1)) (.cons (.v 1) (.cons (.v 8) .nil)))))))
 (.seq (.set 1 (.ix (.lst (.cons (.c (.int 6)) (.cons (.c (.int 6)) (.cons (.c (.int 1000000)) .nil)))) (.cl 29 [0] (.cons (.v 0) (.cons (.c (.int 3)) .nil)))))
 (.seq (.set 16 (.bi yf (.cons (.comp 1 [0,1] (.one 0) (.s (.v 3)) .no (.tup (.cons (.v 0) (.cons (.cl 29 [0] (.cons (.v 1) (.cons (.v 2) .nil))) .nil)))) .nil)))
 (.seq (.set 11 (.ix (.lst (.cons (.c (.int 4)) (.cons (.c (.int 4)) (.cons (.c (.int 13)) .nil)))) (.cl 29 [0] (.cons (.v 0) (.cons (.c (.int 3)) .nil)))))
 (.seq (.set 17 (.R4 .nil))
 (.seq (.fo (.one 18) (.s (.v 4)) (.one (.ex (.mt uM (.v 17) (.cons (.tup (.cons (.v 18) (.cons (.bi yf (.cons (.comp 1 [0,1] (.one 0) (.r (.cons (.cl 29 [0] (.cons (.v 0) (.cons (.v 11) .nil))) .nil)) .no (.cl 29 [0] (.cons (.v 1) (.cons (.v 2) .nil)))) .nil)) .nil))) .nil)))))
 (.one (.ret (.tup (.cons (.v 16) (.cons (.bi yf (.cons (.v 17) .nil)) (.cons (.bi yf (.cons (.v 9) .nil)) (.cons (.v 15) .nil)))))))))))))))))))))) S.s64 rfl ⟨(lU B S).up rfl,D30.up rfl,US.up rfl,D33,trivial⟩ trivial (Ri λm o Q xc hm ho q=>?_)
 refine aq (nmg hm rfl) λm1 xs uI nx=>aq (jM uI rfl) λm2 t2 lX mF=>?_
 obtain⟨i,hi,e2⟩:∃i:Nat,i<=3/\qR [Pv.int 1,.int 2,.int 2,.int 3] (t2:Nat)=some (.int (i:Nat)):=by
  have mF:t2<4:=by have:(t2:Int)<4:=mF;lia
  rcases t2 with _|_|_|_|t
  ·exact⟨1,by decide,rfl⟩
  ·exact⟨2,by decide,rfl⟩
  ·exact⟨2,by decide,rfl⟩
  ·exact⟨3,by decide,rfl⟩
  ·lia
 refine bK e2 (aq (jM lX rfl) λm3 t3 qf Gw=>?_)
 obtain⟨j,hj,e3⟩:∃j:Nat,j<=2/\qR [Pv.int 0,.int 1,.int 1,.int 2] (t3:Nat)=some (.int (j:Nat)):=by
  have Gw:t3<4:=by have:(t3:Int)<4:=Gw;lia
  rcases t3 with _|_|_|_|t
  ·exact⟨0,by decide,rfl⟩
  ·exact⟨1,by decide,rfl⟩
  ·exact⟨1,by decide,rfl⟩
  ·exact⟨2,by decide,rfl⟩
  ·lia
 refine bK e3 (aq (nmg qf rfl) λm4 ys qg ny=>aq (jM qg rfl) λm5 k rM hk=>?_)
 have hk:(k:Int)<3:=hk
 have nx:Dn 9 xs:=nx
 have ny:Dn 4 ys:=ny
 have xl:=nx.len
 obtain⟨d0,WA,e0⟩:=gW (xs:=xs) (k:=0) (by lia)
 obtain⟨d5,hd5,e5⟩:=gW (xs:=xs) (k:=5) (by lia)
 refine bK e0 (bK e5 (aq (jM rM rfl) λm6 t6 uJ E7=>?_))
 have nd:EX (([d0,d5,.str "door"]:List Pv).take t6):=⟨mw (cg _ _) (by
  show(aE d0&&(aE d5&&true))=true
  rw[aj.mp nx.nm d0 WA,aj.mp nx.nm d5 hd5];rfl),by rw[bQ];exact aA (j7 _ _) (by show 3<=100;decide)⟩
 have tk:(ys.take k).length=k:=by rw[bQ,ny.len];lia
 refine wg (λpre acc h=>∃us m,acc=eF pre us/\pre.length=us.length/\us.all DV=true/\h = [.lst [.int m]]/\gz m=true) ⟨[],m6,rfl,rfl,rfl,rfl,uJ⟩ (λpre y post acc h e j=>?_) (λacc h j=>?_)
 ·obtain⟨us,m7,rfl,hl,hu,rfl,DS⟩:=j
  refine aq (jM DS rfl) λm8 t8 Rm W0=>?_
  have W0:(t8:Int)<3:=W0
  exact⟨us ++ [.int (t8:Nat)],m8,(vt hl).symm,by rw[ai,ai,hl];rfl,by rw[bA,hu];show(Nat.ble t8 2&&true)=true;rw[ble_iff.mpr (by lia)];rfl,rfl,Rm⟩
 obtain⟨us,m7,rfl,hl,hu,rfl,DS⟩:=j
 refine Exists.intro (P1 o) (And.intro (.mk m7 xs _ _ _ us _ DS ⟨nx,⟨i,hi,rfl⟩,⟨j,hj,rfl⟩,mw (cg _ _) ny.nm,xt (cg _ _) ny.un,by show(ys.take k).length<=2;lia,hu,hl,nd⟩) ?_)
 intro σ' h' c
 cases c with
 |mk m xs bx lx ts us dd hm p=>
 refine fk (λpre post σ h=>P2 o xs bx lx ts us dd pre σ h) (.mk m 56 [] _ _ _ _ _ _ _ _ _ hm rfl (λ_ h=>nomatch h) (by decide) (by decide) (by decide)) (λpre x post σ h e j=>?_) (λσ h j=>?_)
 ·obtain⟨t,c,rfl,nt,hc⟩:=Cu p.t p.u (show x∈eF ts us by rw[show eF ts us=_ from e];simp)
  have lp:(eF ts us).length<=2:=aA (rO ts us) p.tl
  rw[show eF ts us=_ from e,ai] at lp
  cases j with
  |mk m lf fs v1 v2 v3 v4 v5 v6 v7 v8 v9 hm hf gf la lb lc=>
  have lp:fs.length<=1:=by
   rw[hf,ah] at lp
   have:(Pv.tup [t,.int (c:Nat)]::post).length=post.length+1:=rfl
   lia
  refine aq (jM hm rfl) λm1 w uI hw=>?_
  have hw:w<=2:=by have:(w:Int)<3:=hw;lia
  have l1:=wM p.x.len hc
  have l2:=wL p.x.len hw
  have l3:=p.nb.2
  have gs:=p.gs hc hw (rt:=true)
  refine aq (lK (aA (show(qG xs c).length+(qZ xs w).length<=10 by lia) (by decide))) (aq (lK (aA (show(qG xs c++qZ xs w).length+bx.length<=10 by rw[ai];lia) (by decide))) ?_)
  refine Exists.intro (Ja xs bx lx ts us c w true) (Exists.intro dd (And.intro rfl (And.intro gs (aq (V7 (n:=4) uI (by decide) (by decide) rfl rfl (by lia)) λm2 yt rs lX gr lr=>?_))))
  have ra:=lr.a
  have rb:=lr.b
  have rc:lf<=yt \/ -4<=yt:=by rcases lr.m with z|z<;>lia
  have keep:∀{m3:Int},gz m3=true->P3 o xs bx lx ts us dd fs t c w lf [some (.r 0),some (.p (.int (o:Nat))),some (.p (.lst xs)),some (.p (.lst bx)),some (.p (.lst lx)),some (.p (.lst ts)),some (.p (.lst dd)),some (.p (.lst (eF ts us))),some (.r 1),some (.r 2),some (.p t),some (.p (.int (c:Nat))),some (.p (.lst (qG xs c))),some (.p (.lst (qZ xs w))),some (.p (R8 (Ja xs bx lx ts us c w true) dd)),some (.p (.tup rs)),v7,v8,v9] [.lst [.int m3],.lst [.int yt],.lst fs]:=λh3=>.mk _ yt rs v7 v8 v9 h3 gr.up ra (by lia) rc
  refine Exists.intro (P3 o xs bx lx ts us dd fs t c w lf) (And.intro ?_ ?_)
  ·refine aq (jM lX rfl) λm3 t3 qf _=>dC (λ_=>dC (c:=qm 3 yt) (λc3=>?_) λ_=>keep qf) λ_=>keep qf
   have c3:=dN.mp c3
   have rl:=Az rs
   refine aq (QS (d:=2) (bs:=qG xs c++qZ xs w++bx) (ls:=lx) qf (by decide) (by decide) ⟨gs.o.b,gs.b⟩ ⟨gs.o.l,gs.l⟩) λm4 v qg gv=>aq (lK (aA (show rs.length+1<=200 by lia) (by decide))) ?_
   obtain⟨g1,g2⟩:=(Gf (s:=Ja xs bx lx ts us c w true) rfl (gv.v4 (by decide))).one (n:=4)
   exact P3.mk (o:=o) (xs:=xs) (bx:=bx) (lx:=lx) (ts:=ts) (us:=us) (dd:=dd) (fs:=fs) (t:=t) (c:=c) (w:=w) (lf:=lf) m4 (yt-1) (rs ++ [.tup [.str "return",v]]) v7 v8 v9 qg (gr.up.app g1) (by lia) (by rw[kD,g2];lia) (.inr (by lia))
  ·intro σ' h' cc
   cases cc with
   |mk m5 D3 rs v7 v8 v9 rM gr4 qa qb qc=>
   refine aq (lK (aA (show fs.length+1<=5 by lia) (by decide))) ?_
   refine .mk m5 (D3-1) (fs ++ [QZ xs t c w rs]) _ _ _ _ _ _ _ _ _ rM ?_ (λg hg=>(bu.mp hg).elim (gf g) λz=>⟨t,c,w,rs,aO.mp z,nt,hc,hw,gr4⟩) (by lia) ?_ ?_
   ·rw[bR,<-hf]
    show pre ++ [Pv.tup [t,.int (c:Nat)]]=pre ++ [Pv.tup [t,.int ((qG xs c).length:Nat)]]
    rw[l1]
   ·have e1:dF jH (fs ++ [QZ xs t c w rs])=dF jH fs+(1+c5 rs):=by rw[fJ];rfl
    rw[e1,ai]
    show _<=3*(56-(D3-1))+2*((fs.length+1:Nat):Int)
    lia
   ·rw[ai]
    show -4-((fs.length+1:Nat):Int)<=D3-1
    rcases qc with z|z<;>lia
 ·cases j with
  |mk m lf fs v1 v2 v3 v4 v5 v6 v7 v8 v9 hm hf gf la lb lc=>
  have lp:fs.length<=2:=by
   have:=aA (rO ts us) p.tl
   rw[show eF ts us=_ from hf,ah] at this
   exact this
  refine Exists.intro (Ja xs bx lx ts us 0 0 false) (Exists.intro dd (And.intro rfl (And.intro (p.gs (by decide) (by decide)) (aq (V7 (n:=4) hm (by decide) (by decide) rfl (by rw[bN.mpr (by lia),bN.mpr (by lia)];rfl) (by lia)) λm2 yt rs lX gr lr=>?_))))
  have rb:=lr.b
  have rc:lf<=yt \/ -4<=yt:=by rcases lr.m with z|z<;>lia
  refine aq (jM lX rfl) λm3 t3 qf Gw=>?_
  obtain⟨mo,mo1,ZL,e3⟩:∃mo:Int,1<=mo/\mo<=1000000/\qR [Pv.int 6,.int 6,.int 1000000] (t3:Nat)=some (.int mo):=by
   have Gw:t3<3:=by have:(t3:Int)<3:=Gw;lia
   rcases t3 with _|_|_|t
   ·exact⟨6,by decide,by decide,rfl⟩
   ·exact⟨6,by decide,by decide,rfl⟩
   ·exact⟨1000000,by decide,by decide,rfl⟩
   ·lia
  refine bK e3 (wg (λpre acc h=>Bxs pre acc/\∃m,h = [.lst [.int m],.lst [.int yt],.lst fs]/\gz m=true) ⟨⟨rfl,rfl,rfl,au _⟩,m3,rfl,qf⟩ (λpre y post acc h e j=>?_) (λbp h j=>?_))
  ·obtain⟨j1,m4,rfl,qg⟩:=j
   have ny:aE y=true:=aj.mp p.nb.1 y (by rw[show bx=_ from e];simp)
   obtain⟨y1,y2⟩:=jq ny
   refine aq (Ef qg mo1 ZL) λm5 t5 rM zb=>⟨⟨by rw[bR,j1.f];rfl,?_,fV j1.d (by show((dP y&&true)&&true)=true;rw[y1];rfl),?_⟩,m5,rfl,rM⟩
   ·rw[bA,j1.b]
    show((aE y&&fc (.int (t5:Nat)))&&true)=true
    rw[ny,Hm zb ZL];rfl
   ·have:=j1.z
    rw[eK,ai]
    show cE acc+(1+(cU y+(1+0))+0)<=20*(acc.length+1)
    lia
  obtain⟨jb,m4,rfl,qg⟩:=j
  refine aq (jM qg rfl) λm5 t5 rM zb=>?_
  obtain⟨am,am1,am2,e5⟩:∃am:Int,1<=am/\am<=13/\qR [Pv.int 4,.int 4,.int 13] (t5:Nat)=some (.int am):=by
   have zb:t5<3:=by have:(t5:Int)<3:=zb;lia
   rcases t5 with _|_|_|t
   ·exact⟨4,by decide,by decide,rfl⟩
   ·exact⟨4,by decide,by decide,rfl⟩
   ·exact⟨13,by decide,by decide,rfl⟩
   ·lia
  refine bK e5 (fk (λpre post σ h=>P4 o xs bx lx ts us dd fs rs bp yt mo am pre σ h) (.mk m5 [] _ _ _ _ _ rM ⟨rfl,rfl,rfl,au _⟩) (λpre x post σ h e j=>?_) (λσ h j=>?_))
  ·cases j with
   |mk m6 ls v1 v2 v3 v4 v9 uJ gl=>
   have nx:aE x=true:=aj.mp p.nl.1 x (by rw[show lx=_ from e];simp)
   obtain⟨x1,x2⟩:=jq nx
   have ll:ls.length<=2:=by
    have h1:=p.nl.2
    rw[show lx=_ from e,ai] at h1
    rw[<-ah (f:=bC),gl.f];lia
   refine aq (Ef uJ am1 (by lia)) λm7 k DS hk=>?_
   have hk:(k:Int)<am:=hk
   refine aq (by show(nc k&&decide ((-4611686018427387904:Int)<=(k:Nat)))=true;rw[lK (aA (show k<=12 by lia) (by decide)),aT (by lia)];rfl) ?_
   refine wg (λpre acc h=>(acc.length=pre.length/\Nus acc)/\∃m,h = [.lst [.int m],.lst [.int yt],.lst fs,.lst ls]/\gz m=true) ⟨⟨rfl,rfl,rfl,au _⟩,m7,rfl,DS⟩ (λpre y post acc h e j=>?_) (λns h j=>?_)
   ·obtain⟨⟨j1,j2⟩,m8,rfl,Rm⟩:=j
    refine aq (Ef Rm mo1 ZL) λm9 t9 hm9 ZF=>⟨⟨by rw[ai,ai,j1];rfl,⟨by rw[bA,j2.n];show(fc (.int (t9:Nat))&&true)=true;rw[Hm ZF ZL];rfl,fV j2.d rfl,?_⟩⟩,m9,rfl,hm9⟩
    have:=j2.z
    rw[eK,ai]
    exact Ka this (au 1)
   ·obtain⟨⟨j1,j2⟩,m8,rfl,Rm⟩:=j
    have j1:ns.length=k:=by
     rw[j1]
     show(kP 0 k).length=k
     unfold kP;rw[ah,dU]
    refine aq (lK (aA (show ls.length+1<=5 by lia) (by decide))) ?_
    refine P4.mk m8 (ls ++ [.tup [x,.tup ns]]) _ _ _ _ _ Rm ⟨by rw[bR,gl.f],?_,fV gl.d (by show((dP x&&(dR ns&&true))&&true)=true;rw[x1,j2.d];rfl),?_⟩
    ·rw[bA,gl.b]
     show((aE x&&(hV (ns.length:Nat) 12&&ns.all fc))&&true)=true
     rw[nx,j2.n,bN.mpr (by lia)];rfl
    ·have h1:=gl.z
     have h2:=j2.z
     rw[eK,ai]
     show cE ls+(1+(cU x+(1+cE ns+0))+0)<=40*(ls.length+1)
     lia
  ·cases j with
   |mk m6 ls v1 v2 v3 v4 v9 uJ gl=>
   have lbx:bp.length<=3:=by rw[<-ah (f:=bC),jb.f];exact p.nb.2
   have llx:ls.length<=2:=by rw[<-ah (f:=bC),gl.f];exact p.nl.2
   refine q m6 _ _ _ _ uJ (Lj p jb.f jb.b gl.f gl.b hf gf gr ?_ jb.d gl.d (by have:=jb.z;lia) (by have:=gl.z;lia))
   rcases rc with z|z<;>lia
def jF:Nat->Pv->Bool
 |_,.int i=>hV 0 i&&hV i 999999
 |_,.str z=>Nat.ble z.length 10
 |n+1,.tup xs=>xs.all (jF n)
 |_,_=>false
theorem yD:∀{n:Nat}{x:Pv},jF n x=true->jF (n+1) x=true
 |0,x,h=>by cases x<;>first|exact h|exact nU h
 |n+1,x,h=>by
  cases x with
  |tup xs=>exact bU (λ_ h=>yD h) (show xs.all (jF n)=true from h)
  |int i=>exact h
  |str z=>exact h
  |_=>exact nU h
theorem nW{m:Nat}(h:jF n x=true)(l:n<=m):jF m x=true:=by
 obtain⟨k,rfl⟩:∃k,m=n+k:=⟨m-n,by lia⟩
 clear l
 induction k with
 |zero=>exact h
 |succ k ih=>exact yD ih
theorem xh:∀{n:Nat}{x:Pv},jF n x=true->dP x=true
 |0,x,h=>by cases x<;>first|rfl|exact nU h
 |n+1,x,h=>by
  cases x with
  |tup xs=>exact jg λg hg=>xh (aj.mp (show xs.all (jF n)=true from h) g hg)
  |int i=>rfl
  |str z=>rfl
  |_=>exact nU h
@[elab_as_elim] theorem Io (h:jF n x=true) (int:∀i,0<=i->i<=999999->P (.int i)) (str:∀z:Str,z.length<=10->P (.str z)) (tup:∀xs k,n=k+1->xs.all (jF k)=true->P (.tup xs)):P x:=by
 cases x with
 |int i=>
  have h:(hV 0 i&&hV i 999999)=true:=by cases n<;>exact h
  exact int i (bN.mp (ag h).1) (bN.mp (ag h).2)
 |str z=>
  have h:Nat.ble z.length 10=true:=by cases n<;>exact h
  exact str z (ble_iff.mp h)
 |tup xs=>cases n with
  |zero=>exact nU h
  |succ k=>exact tup xs k rfl h
 |_=>cases n<;>exact nU h
theorem uc(h:l.Sublist xs):cE l<=cE xs:=by
 induction h with
 |slnil=>exact au _
 |cons a _ ih=>show _<=cU a+_;lia
 |cons_cons a _ ih=>show cU a+_<=cU a+_;lia
theorem x9(h:dR xs=true):∀x∈xs,dP x=true:=λx hx=>(FW h hx).1
theorem kh(h:l.Sublist xs)(d:dR xs=true):dR l=true:=jg λx hx=>x9 d x (h.subset hx)
theorem yL:∀{xs:List Pv},cE xs.reverse=cE xs
 | []=>rfl
 |x::r=>by
  rw[jA,eK,yL]
  show cE r+(cU x+0)=cU x+cE r
  lia
structure Gd (c:Nat) (y:Pv):Prop where
 d:dP y=true
 z:cU y<=c
theorem wj{lo hi:Option Int}:(g9 xs lo hi).Sublist xs:=by
 unfold g9
 split
 ·exact eQ _ _
 ·exact(eQ _ _).trans (cg _ _)
 ·exact(eQ _ _).trans (cg _ _)
theorem kJ(d:dR xs=true)(z:1+cE xs<=c):Gd c (.tup xs):=⟨d,z⟩
theorem nI(z:1+y.length<=c):Gd c (.str y):=⟨rfl,z⟩
theorem Mp(h0:0<=i)(h1:i<1000000):(Str.ofString (toString i)).length<=90:=by
 have e:=int_text_length_le10 (a:=i) (k:=6) (by decide) (by lia)
 rw[ofString_length]
 lia
theorem Mq(h0:0<=i)(h1:i<=999999):decide (i.natAbs.log2<1920)=true:=by
 refine aT ?_
 have h:i.natAbs<2 ^ 20:=by
  have:i.natAbs<=999999:=by lia
  exact mS this (by decide)
 rcases Nat.eq_zero_or_pos i.natAbs with z|z
 ·rw[z];decide
 ·have:=(Nat.log2_lt (by lia)).mpr h
  lia
def iR(n:Nat):Ct:=λds h Q _=>pC ds λx r=>rC r λi r=>nC r (mC h λm g=>nC g (gd (Nat.beq i 0&&(gz m&&(jF n x&&Nat.ble (cU x) 100000))) (∀(m':Int) y,gz m'=true->Gd (2*cU x+100) y->Q (.p y) [.lst [.int m']])))
abbrev Ky:Ct:=iR 40
theorem MD(h:gz m=true)(h1:jF n x=true)(h2:cU x<=100000):(true&&(gz m&&(jF n x&&Nat.ble (cU x) 100000)))=true:=by
 rw[h,h1,ble_iff.mpr h2];rfl
theorem BW{b:Ss}(H:∀(m:Int) x (Q:Dv->Hs->Prop) (xc:XP),gz m=true->jF n x=true->cU x<=100000->(∀(m':Int) y,gz m'=true->Gd (2*cU x+100) y->Q (.p y) [.lst [.int m']])->b (eE true 1 Q xc) (j5 k [.p x,.r 0]) [.lst [.int m]]):∀ds h Q xc,iR n ds h Q xc->ds.length=2/\b (eE true h.length Q xc) (j5 k ds) h:=by
 intro ds h Q xc c
 unfold iR at c
 refine f7 c λx _ c=>nX c λi _ c=>eI c λc=>tP c λm _ c=>eI c λc=>?_
 obtain⟨h1,c'⟩:=bt c
 obtain⟨h2,h3,h4,h5⟩:=jd h1
 rw[ao h2]
 exact⟨rfl,H m x Q xc h3 h4 (ble_iff.mp h5) c'⟩
theorem mx{c:Bool}(b:B):br c B B:=by cases c<;>exact b
theorem jn:∀l:List Pv,l.length<=cE l
 | []=>au _
 |y::r=>by
  have:=CL y
  have:=jn r
  show r.length+1<=cU y+cE r
  lia
inductive Zf (x:Pv) (m:Int) (kd:Nat):Es->Hs->Prop
 |mk:Zf x m kd [some (.p x),some (.r 0),some (.p (.int (kd:Nat))),none,none,none] [.lst [.int m]]
noncomputable def PR:List Pv:= [.str "number",.str "box",.str "size",.str "not",.str "item",.str "plus",.str "set",.str "push",.str "if",.str "while",.str "return",.str "def"]
noncomputable def O7:List Pv:= [.bl true,.non,.int (-1),.int 0,.int 1,.int 1000000,.int (10 ^ 30),.str "",.str "a",.str "A",.str "abcdefg",.str "box",.tup [],.lst [],.tup [.str "number",.int 3],.dct [] []] ++ [.tup [.str "number",.bl true],.tup [.str "box",.str "zz"],.tup [.str "return",.tup [.str "number",.int 1]],.tup [.str "tell",.tup [.str "number",.int 1]],.tup [.str "end"]]
def δ(c:Nat)(y:Pv):Bool:=dP y&&Nat.ble (cU y) c
theorem Ge{y:Pv}(h:δ c y=true)(l:c<=d):Gd d y:=⟨(ag h).1,aA (ble_iff.mp (ag h).2) l⟩
theorem V5(B:LX ca W)(S:SX W):DX ca W 39 3 Ky:=by
 refine B.e (k:=1) 6 true [(29,kf)] [] (.seq (.set 2 (.cl 29 [0] (.cons (.v 1) (.cons (.c (.int 6)) .nil))))
 (.cut (.iff (.bo (Wm.ac (.cmp Fy (.v 2) (.c (.int 3))) (Wm.a1 (.val (.bi fW (.cons (.v 0) (.cons (.ty 3) .nil))))))) (.seq (.set 3 (.lst (.cons (.bi zW (.cons (.v 0) .nil)) (.cons (.sl (.v 0) .no (.of (.neg (.c (.int 1))))) (.cons (.b2 dk (.v 0) (.sl (.v 0) (.of (.neg (.c (.int 1)))) .no)) (.cons (.rev (.v 0)) (.cons (.tup .nil) (.cons (.sl (.v 0) (.of (.c (.int 1))) .no) (.cons (.b2 dk (.v 0) (.tup (.cons (.c (.int 0)) .nil))) (.cons (.tup (.cons (.v 0) .nil)) .nil))))))))))
 (.seq (.set 4 (.lst (.cons (.c (.str "number")) (.cons (.c (.str "box")) (.cons (.c (.str "size")) (.cons (.c (.str "not")) (.cons (.c (.str "item")) (.cons (.c (.str "plus")) (.cons (.c (.str "set")) (.cons (.c (.str "push")) (.cons (.c (.str "if")) (.cons (.c (.str "while")) (.cons (.c (.str "return")) (.cons (.c (.str "def")) .nil))))))))))))))
 (.one (.ret (.ix (.b2 dk (.v 3) (.b2 zB (.lst (.cons (.b2 dk (.tup (.cons (.ix (.v 4) (.cl 29 [0] (.cons (.v 1) (.cons (.c (.int 12)) .nil)))) .nil)) (.sl (.v 0) (.of (.c (.int 1))) .no)) .nil)) (.c (.int 4)))) (.cl 29 [0] (.cons (.v 1) (.cons (.c (.int 12)) .nil)))))))) .nil)
 (.cut (.iff (.bo (Wm.ac (.cmp Fy (.v 2) (.c (.int 3))) (Wm.a1 (.val (.bi fW (.cons (.v 0) (.cons (.ty 1) .nil))))))) (.one (.ret (.ix (.lst (.cons (.cmp gN (.v 0) (.c (.int 1))) (.cons (.b2 pX (.neg (.c (.int 1))) (.v 0)) (.cons (.b2 dk (.v 0) (.c (.int 1))) (.cons (.b2 dk (.v 0) (.c (.int 1000000))) (.cons (.bi R' (.cons (.v 0) .nil)) (.cons (.c (.int 999999)) .nil))))))) (.cl 29 [0] (.cons (.v 1) (.cons (.c (.int 6)) .nil)))))) .nil)
 (.cut (.iff (.bo (Wm.ac (.cmp Fy (.v 2) (.c (.int 3))) (Wm.a1 (.val (.bi fW (.cons (.v 0) (.cons (.ty 0) .nil))))))) (.seq (.set 5 (.lst (.cons (.b2 dk (.v 0) (.c (.str "b"))) (.cons (.sl (.v 0) (.of (.c (.int 1))) .no) (.cons (.b2 dk (.v 0) (.c (.str " "))) (.cons (.m0 aaM (.v 0)) (.cons (.b2 dk (.v 0) (.c (.str "abcdef"))) (.cons (.b2 dk (.sl (.v 0) .no (.of (.neg (.c (.int 1))))) (.c (.str "_"))) .nil))))))))
 (.one (.ret (.ix (.b2 dk (.v 5) (.lst (.cons (.c (.str "zz")) (.cons (.c (.str "pop")) (.cons (.c (.str "over")) (.cons (.c (.str "fail")) .nil)))))) (.cl 29 [0] (.cons (.v 1) (.cons (.c (.int 10)) .nil))))))) .nil)
 (.seq (.set 3 (.lst (.cons (.c (.bl true)) (.cons (.c .non) (.cons (.neg (.c (.int 1))) (.cons (.c (.int 0)) (.cons (.c (.int 1)) (.cons (.c (.int 1000000)) (.cons (.b2 K_ (.c (.int 10)) (.c (.int 30))) (.cons (.c (.str "")) (.cons (.c (.str "a")) (.cons (.c (.str "A")) (.cons (.c (.str "abcdefg")) (.cons (.c (.str "box")) (.cons (.tup .nil) (.cons (.lst .nil) (.cons (.tup (.cons (.c (.str "number")) (.cons (.c (.int 3)) .nil))) (.cons .V6 .nil))))))))))))))))))
 (.seq (.set 3 (.b2 dk (.v 3) (.lst (.cons (.tup (.cons (.c (.str "number")) (.cons (.c (.bl true)) .nil))) (.cons (.tup (.cons (.c (.str "box")) (.cons (.c (.str "zz")) .nil))) (.cons (.tup (.cons (.c (.str "return")) (.cons (.tup (.cons (.c (.str "number")) (.cons (.c (.int 1)) .nil))) .nil))) (.cons (.tup (.cons (.c (.str "tell")) (.cons (.tup (.cons (.c (.str "number")) (.cons (.c (.int 1)) .nil))) .nil))) (.cons (.tup (.cons (.c (.str "end")) .nil)) .nil))))))))
 (.one (.ret (.ix (.v 3) (.cl 29 [0] (.cons (.v 1) (.cons (.c (.int 21)) .nil)))))))))))) S.s69 rfl ⟨(lU B S),trivial⟩ trivial (BW (n:=40) λm x Q xc hm hp hz q=>?_)
 refine aq (jM hm rfl) λm1 kd uI _=>?_
 refine Exists.intro (Zf x m1 kd) (And.intro ?_ λσ' h' c=>?_)
 ·revert hz q
  refine Io hp (λi h0 h1 hz q=>?_) (λz hl hz q=>?_) (λxs k _ hx hz q=>?_)
  ·exact mx .mk
  ·exact mx .mk
  ·refine dC (λ_=>?_) λ_=>.mk
   have hd:dR xs=true:=jg λg hg=>xh (aj.mp hx g hg)
   have hs:cU (.tup xs)=1+cE xs:=rfl
   have hl:xs.length<=cE xs:=jn xs
   have c1:=wj (xs:=xs) (lo:=some (-1)) (hi:=none)
   have c2:=wj (xs:=xs) (lo:=none) (hi:=some (-1))
   have c3:=wj (xs:=xs) (lo:=some 1) (hi:=none)
   have z1:=uc c1
   have z2:=uc c2
   have z3:=uc c3
   have y1:=jn (g9 xs (some (-1)) none)
   have y3:=jn (g9 xs (some 1) none)
   have sz:∀{n:Nat},n<=300000->nc n=true:=λh=>lK (aA h (by decide))
   refine aq (sz (show xs.length+(g9 xs (some (-1)) none).length<=300000 by lia)) (aq (sz (show xs.length+1<=300000 by lia)) (aq (jM uI rfl) λm2 t2 lX mF=>?_))
   obtain⟨w,hw,e2⟩:=gW (xs:=PR) (k:=t2) mF
   have gw:=aj.mp (show PR.all (δ 8)=true by decide +kernel) w hw
   refine bK e2 (aq (sz (show 1+(g9 xs (some 1) none).length<=300000 by lia)) (aq (jM lX rfl) λm3 t3 qf Gw=>?_))
   have good:∀y∈([.lst xs,.tup (g9 xs none (some (-1))),.tup (xs++g9 xs (some (-1)) none),.tup xs.reverse,.tup [],.tup (g9 xs (some 1) none),.tup (xs ++ [.int 0]),.tup [.tup xs]]:List Pv) ++ [.tup ([w]++g9 xs (some 1) none),.tup ([w]++g9 xs (some 1) none),.tup ([w]++g9 xs (some 1) none),.tup ([w]++g9 xs (some 1) none)],Gd (2*cU (.tup xs)+100) y:=by
    intro y hy
    have gw4:Gd (2*cU (.tup xs)+100) (.tup ([w]++g9 xs (some 1) none)):=by
     obtain⟨g1,g2⟩:=ag gw
     have g2:=ble_iff.mp g2
     refine kJ (fV (by show(dP w&&true)=true;rw[g1];rfl) (kh c3 hd)) ?_
     rw[eK]
     show 1+(cU w+0+_)<=_
     lia
    simp only[bu,aN,ek,pT] at hy
    rcases hy with (rfl|rfl|rfl|rfl|rfl|rfl|rfl|rfl)|(rfl|rfl|rfl|rfl)
    ·exact⟨hd,by show 1+cE xs<=_;lia⟩
    ·exact kJ (kh c2 hd) (by lia)
    ·exact kJ (fV hd (kh c1 hd)) (by rw[eK];lia)
    ·exact kJ (jg λg hg=>x9 hd g (List.mem_reverse.mp hg)) (by rw[yL];lia)
    ·exact kJ rfl (by show 1+0<=_;lia)
    ·exact kJ (kh c3 hd) (by lia)
    ·exact kJ (fV hd rfl) (by rw[eK];show 1+(_+(1+0))<=_;lia)
    ·exact kJ (by show(dR xs&&true)=true;rw[hd];rfl) (by show 1+(1+cE xs+0)<=_;lia)
    all_goals exact gw4
   obtain⟨y,hy,e3⟩:=gW (xs:=([.lst xs,.tup (g9 xs none (some (-1))),.tup (xs++g9 xs (some (-1)) none),.tup xs.reverse,.tup [],.tup (g9 xs (some 1) none),.tup (xs ++ [.int 0]),.tup [.tup xs]]:List Pv) ++ [.tup ([w]++g9 xs (some 1) none),.tup ([w]++g9 xs (some 1) none),.tup ([w]++g9 xs (some 1) none),.tup ([w]++g9 xs (some 1) none)]) (k:=t3) (by exact Gw)
   exact bK e3 (q _ _ qf (good y hy))
 cases c
 refine Exists.intro (Zf x m1 kd) (And.intro ?_ λσ' h' c=>?_)
 ·revert hz q
  refine Io hp (λi h0 h1 hz q=>?_) (λz hl hz q=>?_) (λxs k _ hx hz q=>?_)
  ·refine dC (λ_=>?_) λ_=>.mk
   refine aq (Mq h0 h1) (aq (jM uI rfl) λm2 t2 lX mF=>?_)
   have nl:=Mp h0 (by lia)
   have good:∀y∈([.bl (lj i 1),.int (-1-i),.int (i+1),.int (i+1000000),.str (Str.ofString (toString i)),.int 999999]:List Pv),Gd (2*cU (.int i)+100) y:=by
    intro y hy
    have e:cU (.int i)=1:=rfl
    simp only[aN,ek,pT] at hy
    rcases hy with rfl|rfl|rfl|rfl|rfl|rfl
    ·exact⟨rfl,by show 1<=_;lia⟩
    ·exact⟨rfl,by show 1<=_;lia⟩
    ·exact⟨rfl,by show 1<=_;lia⟩
    ·exact⟨rfl,by show 1<=_;lia⟩
    ·exact nI (by lia)
    ·exact⟨rfl,by show 1<=_;lia⟩
   obtain⟨y,hy,e3⟩:=gW (xs:= [.bl (lj i 1),.int (-1-i),.int (i+1),.int (i+1000000),.str (Str.ofString (toString i)),.int 999999]) (k:=t2) mF
   exact bK e3 (q _ _ lX (good y hy))
  ·exact mx .mk
  ·exact mx .mk
 cases c
 refine Exists.intro (Zf x m1 kd) (And.intro ?_ λσ' h' c=>?_)
 ·revert hz q
  refine Io hp (λi h0 h1 hz q=>?_) (λz hl hz q=>?_) (λxs k _ hx hz q=>?_)
  ·exact mx .mk
  ·refine dC (λ_=>?_) λ_=>.mk
   have sz:∀{n:Nat},n<=300000->nc n=true:=λh=>lK (aA h (by decide))
   have c1:=lQ z (some 1) none
   have c2:=lQ z none (some (-1))
   refine aq (sz (show z.length+1<=_ by lia)) (aq (sz (show z.length<=_ by lia)) (aq (sz (show z.length+1<=_ by lia)) (aq (ble_iff.mpr (by lia)) λu hu=>aq (sz (show z.length+6<=_ by lia)) (aq (sz (show z.length<=_ by lia)) (aq (sz (show(Txt.slice z none (some (-1))).length+1<=_ by lia)) (aq (jM uI rfl) λm2 t2 lX mF=>?_))))))
   have good:∀y∈([.str (z++"b"),.str (Txt.slice z (some 1) none),.str (z++" "),.str u,.str (z++"abcdef"),.str (Txt.slice z none (some (-1))++"_")]:List Pv) ++ [.str "zz",.str "pop",.str "over",.str "fail"],Gd (2*cU (.str z)+100) y:=by
    intro y hy
    have e:cU (.str z)=1+z.length:=rfl
    simp only[bu,aN,ek,pT] at hy
    rcases hy with (rfl|rfl|rfl|rfl|rfl|rfl)|(rfl|rfl|rfl|rfl)
    ·exact nI (by rw[jm];show 1+(_+1)<=_;lia)
    ·exact nI (by lia)
    ·exact nI (by rw[jm];show 1+(_+1)<=_;lia)
    ·exact nI (by lia)
    ·exact nI (by rw[jm];show 1+(_+6)<=_;lia)
    ·exact nI (by rw[jm];show 1+(_+1)<=_;lia)
    all_goals exact Ge (c:=10) (by decide +kernel) (by lia)
   obtain⟨y,hy,e3⟩:=gW (xs:=([.str (z++"b"),.str (Txt.slice z (some 1) none),.str (z++" "),.str u,.str (z++"abcdef"),.str (Txt.slice z none (some (-1))++"_")]:List Pv) ++ [.str "zz",.str "pop",.str "over",.str "fail"]) (k:=t2) (by exact mF)
   exact bK e3 (q _ _ lX (good y hy))
  ·exact mx .mk
 cases c
 refine aq (jM uI rfl) λm2 t2 lX mF=>?_
 obtain⟨y,hy,e3⟩:=gW (xs:=O7) (k:=t2) mF
 exact bK e3 (q _ _ lX (Ge (c:=50) (aj.mp (show O7.all (δ 50)=true by decide +kernel) y hy) (by lia)))
def cSm:Nat->Ct
 |0=>E3
 |n+1=>iR n
theorem u4(B:LX ca W)(S:SX W)(Vy:DX ca W 39 3 Ky)(n:Nat)(hn:n<=40)(q_:DX ca W 40 (n+3) (cSm n)):DX ca W 40 (n+4) (iR n):=by
 refine B.e (k:=n+2) 3 true [(29,kf),(39,Ky),(40,cSm n)] [] (.seq (.iff (.bo (Wm.oc (.not (.val (.bi fW (.cons (.v 0) (.cons (.ty 3) .nil))))) (Wm.oc (.cmp gN (.v 0) (.tup .nil)) (Wm.o1 (.cmp gN (.cl 29 [0] (.cons (.v 1) (.cons (.c (.int 4)) .nil))) (.c (.int 0))))))) (.one (.ret (.cl 39 [0] (.cons (.v 0) (.cons (.v 1) .nil))))) .nil)
 (.seq (.set 2 (.cl 29 [0] (.cons (.v 1) (.cons (.bi dE (.cons (.v 0) .nil)) .nil))))
 (.one (.ret (.b2 dk (.b2 dk (.sl (.v 0) .no (.of (.v 2))) (.tup (.cons (.cl 40 [0] (.cons (.ix (.v 0) (.v 2)) (.cons (.v 1) .nil))) .nil))) (.sl (.v 0) (.of (.b2 dk (.v 2) (.c (.int 1)))) .no)))))) S.s70 rfl ⟨(lU B S).le (by lia),Vy.le (by lia),q_,trivial⟩ trivial (BW λm x Q xc hm hp hz q=>?_)
 have ho:=nW hp hn
 revert hz q ho
 refine Io hp (λi h0 h1 hz q ho=>?_) (λz hl hz q ho=>?_) (λxs k e hx hz q ho=>?_)
 ·exact aq (MD hm ho hz) q
 ·exact aq (MD hm ho hz) q
 ·subst e
  cases xs with
  |nil=>exact aq (MD hm ho hz) q
  |cons a r=>
   refine aq (jM hm rfl) λm1 t1 uI DT=>dC (λ_=>aq (MD uI ho hz) q) λ_=>?_
   have hl:=jn (a::r)
   have hs:cU (.tup (a::r))=1+cE (a::r):=rfl
   have za:(a::r).length=r.length+1:=rfl
   refine aq (Ef uI (by show(1:Int)<=((a::r).length:Nat);lia) (by show(((a::r).length:Nat):Int)<=1000000;lia)) λm2 t2 lX mF=>?_
   have mF:(t2:Int)<((a::r).length:Nat):=mF
   obtain⟨y,hy,e2⟩:=gW (xs:=a::r) mF
   have py:=aj.mp hx y hy
   have e4:(a::r)[t2]?=some y:=e2
   have spl:=p9 e4
   have hsz:cE (a::r)=cE ((a::r).take t2)+(cU y+cE ((a::r).drop (t2+1))):=by
    conv=>lhs;rw[spl]
    rw[eK];rfl
   have hd:dR (a::r)=true:=jg λg hg=>xh (aj.mp hx g hg)
   have l1:=jn ((a::r).take t2)
   have l2:=jn ((a::r).drop (t2+1))
   have sz:∀{n:Nat},n<=300000->nc n=true:=λh=>lK (aA h (by decide))
   refine bK e2 (aq (MD lX py (by lia)) λm3 v qf gv=>aq (sz (show((a::r).take t2).length+1<=_ by lia)) (aq (sz (show((a::r).take t2 ++ [v]).length+((a::r).drop (t2+1)).length<=_ by rw[ai];show _+1+_<=_;lia)) ?_))
   have vz:=gv.z
   refine q _ (.tup ((a::r).take t2 ++ [v]++(a::r).drop (t2+1))) qf (kJ (fV (fV (kh (cg _ _) hd) (by show(dP v&&true)=true;rw[gv.d];rfl)) (kh (eQ _ _) hd)) ?_)
   rw[eK,eK]
   show 1+(_+(cU v+0)+_)<=_
   lia
theorem x5(B:LX ca W)(S:SX W)(Vy:DX ca W 39 3 Ky):∀n,n<=40->DX ca W 40 (n+4) (iR n)
 |0,h=>u4 B S Vy 0 h (Dt.no S.s70)
 |n+1,h=>u4 B S Vy (n+1) h (x5 B S Vy n (Nat.le_of_succ_le h))
end W2
namespace Fg
open PySem L2
seal L2.PE L2.PS L2.nj L2.PT L2.PW L2.PA L2.PG L2.Qn L2.PI L2.PO L2.qO L2.PC L2.iX L2.dQ L2.yX L2.EY L2.Ki L2.UW
def fw(i:Nat):Stmt:=PySem.Challenge.pw_retrace_k02_programs_refused.main.body.getD i (.Pass ⟨0,0,0,0⟩)
theorem sz0:0<=sizeLine:=by decide
theorem sz4:4<=sizeLine:=by decide
theorem sz9:9<=sizeLine:=by decide
theorem ifF{c:Bool}{A B:Prop}(h:c=false)(x:B):if c=true then A else B:=by rw[bJ (by rw[h];exact aH)];exact x
structure Tc (mg:mG7):Prop where
 cG:mg "isinstance"=none
 kX:mg "ValueError"=none
structure One (K:Frag) (R C:Addr) (Cs:List Addr) (bs:List Bool):Prop where
 exc:zu K C
 at_:Bk K C
 cl:(clsIn K C).isSome=true
 sub:subIn K (.ref C) (.ref R)=some true
 kv:kitOne K (.ref C) (.type "ValueError")=some true
 is:Paired (λD b=>kitOne K (.ref C) (.ref D)=some b) Cs bs
structure VA (K:Frag) (mg:mG7) (R C1 C2 C3 C4 C5 C6 C7 C8 C9:Addr):Prop where
 m0:mg "RunError"=some (.ref R)
 m1:mg "NoProgram"=some (.ref C1)
 m2:mg "NoRow"=some (.ref C2)
 m3:mg "TooLong"=some (.ref C3)
 m4:mg "NoWorld"=some (.ref C4)
 m5:mg "NoText"=some (.ref C5)
 m6:mg "NoStep"=some (.ref C6)
 m7:mg "NoCell"=some (.ref C7)
 m8:mg "NoDoor"=some (.ref C8)
 m9:mg "NoWord"=some (.ref C9)
 hit:Qe K R
 o1:One K R C1 [C1,C2,C3,C4,C5,C6,C7,C8,C9] [true,false,false,false,false,false,false,false,false]
 o2:One K R C2 [C1,C2,C3,C4,C5,C6,C7,C8,C9] [false,true,false,false,false,false,false,false,false]
 o3:One K R C3 [C1,C2,C3,C4,C5,C6,C7,C8,C9] [false,false,true,false,false,false,false,false,false]
theorem uC:aa6 "ValueError"=some (.type "ValueError"):=by decide +kernel
section
variable {P:ab0}{w:ab1}{K:Frag}{mg:mG7}{base:Heap}{R jI rD mB pZ sG sF sD sE sH:Addr}
theorem px:eX ["_law_e","_law_found","_law_kind_here"] ["_law_e"] (aQ (fw 82)):=⟨rfl,rfl,rfl,by decide +kernel,rfl,by decide +kernel,by decide +kernel⟩
def CN(C1 C2 C3:Addr):Addr->Addr->Sp:=λa C vs H Q _=>vs = [.ref a]/\((C=C1/\∀H',iI H H'->Q (.str "program") H')\/(C=C2/\∀H',iI H H'->Q (.str "row") H')\/(C=C3/\∀H',iI H H'->Q (.str "long") H'))
theorem Cb{a fd t:Addr}{H H0:Hp}{bs cs:List Bool}(U8:H fd=none)(s0:iI H H0)(hf:H0 fd=some (.lst (cs.map V.bl)))(ht:H0 t=some (.tup (bs.map V.bl)))(htn:t≠fd)(hl:bs.length+cs.length<=100){D:Ends}{x0:Option V}
  (h:∀(x2:Option V) (H':Hp),iI H H'->H' fd=some (.lst ((cs++bs).map V.bl))->D.nx [some (.ref a),some (.ref fd),x2] H') :
  ∃W:Nat->Nat->St->Hp->Prop,(∃m,W 0 m [some (.ref a),some (.ref fd),x0] H0)/\∀i m σ H,W i m σ H ->
   ((JT K t).stop i H/\D.nx σ H)\/((JT K t).go i H/\∃N:St->Hp->Prop,(∀σ' H',N σ' H'->∃m',m'<m/\W (i+1) m' σ' H')/\∀x H',(JT K t).Vi i H x H'->lW 2 x σ H' λσ2 H2=>
    PH (tBM K "list" xk (EL 1) (CU (EL 2) Uk)) {D with nx:=N,ct:=N,bk:=D.nx} σ2 H2):=by
 refine Lg (xs:=bs.map V.bl) (λi σ H'=>∃x2,σ = [some (.ref a),some (.ref fd),x2]/\iI H H'/\H' fd=some (.lst ((cs++bs.take i).map V.bl))/\H' t=some (.tup (bs.map V.bl))) ⟨x0,rfl,s0,by rw[jB,bS];exact hf,ht⟩
  (λi σ H' _ q=>by obtain⟨_,_,_,_,q⟩:=q;exact el.of q) ?_ ?_
 ·rintro i x σ H' hx ⟨x2,rfl,s1,DP,DT⟩
  rw[bP] at hx
  cases hb:bs[i]? with
  |none=>rw[hb] at hx;cases hx
  |some b=>
   rw[hb] at hx
   cases hx
   have hi:=(aw.mp hb).1
   refine⟨_,rfl,.inl ⟨rfl,_,gq.of DP⟩,_,rfl,fd,_,_,rfl,rfl,DP,?_,?_⟩
   ·rw[ah,ai,bQ]
    exact mS (show _<=100 by omega) (by decide)
   ·refine⟨_,rfl,λb' o hb'=>?_,?_,?_⟩
    ·rw[bf (bB hb' U8)];exact s1 _ _ hb'
    ·rw[bE,List.take_add_one,hb,<-dq]
     show some (HO.lst ((cs++bs.take i).map V.bl ++ [V.bl b]))=some (HO.lst ((cs++bs.take i ++ [b]).map V.bl))
     rw[bR (l₁:=cs++bs.take i)]
     rfl
    ·rw[bf htn];exact DT
 ·rintro σ H' ⟨x2,rfl,s1,DP,_⟩
  rw[ah,fG] at DP
  exact h x2 H' s1 DP
theorem aaQ{R:Addr->Bool->Prop}{a1 a2 a3 a4 a5 a6 a7 a8 a9:Addr}{b1 b2 b3 b4 b5 b6 b7 b8 b9:Bool}(h:Paired R [a1,a2,a3,a4,a5,a6,a7,a8,a9] [b1,b2,b3,b4,b5,b6,b7,b8,b9]) :
  R a1 b1/\R a2 b2/\R a3 b3/\R a4 b4/\R a5 b5/\R a6 b6/\R a7 b7/\R a8 b8/\R a9 b9:=by
 cases h with
 |cons r1 h=>cases h with
 |cons r2 h=>cases h with
 |cons r3 h=>cases h with
 |cons r4 h=>cases h with
 |cons r5 h=>cases h with
 |cons r6 h=>cases h with
 |cons r7 h=>cases h with
 |cons r8 h=>cases h with
 |cons r9 h=>exact⟨r1,r2,r3,r4,r5,r6,r7,r8,r9⟩
theorem KU(T:Tc mg)(Z:VA K mg R jI rD mB pZ sG sF sD sE sH)(S:Src K mg "_law_class" (fw 82) ["_law_e"]):zt P w K mg base 1 "_law_class" ["_law_e"] (CN jI rD mB):=by
 have yy:=Z.m1
 have Mi:=Z.m2
 have Ea:=Z.m3
 have D8:=Z.m4
 have Hc:=Z.m5
 have G9:=Z.m6
 have G7:=Z.m7
 have G8:=Z.m8
 have He:=Z.m9
 refine S.okH px (λa C vs H Q E h=>?_) (λf0 fT A outer s H vs Q a C t0 tb0 hr h hh=>?_)
 ·obtain⟨rfl,_⟩:=h;rfl
 obtain⟨rfl,h⟩:=h
 have hO:∃(b1 b2 b3:Bool) (wd:Str),One K R C [jI,rD,mB,pZ,sG,sF,sD,sE,sH] [b1,b2,b3,false,false,false,false,false,false] /\
   ((b1=true/\b2=false/\b3=false/\wd="program")\/(b1=false/\b2=true/\b3=false/\wd="row")\/(b1=false/\b2=false/\b3=true/\wd="long"))/\∀H',iI H H'->Q (.str wd) H':=by
  rcases h with ⟨eC,q⟩|⟨eC,q⟩|⟨eC,q⟩
  ·exact⟨_,_,_,_,eC▸Z.o1,.inl ⟨rfl,rfl,rfl,rfl⟩,q⟩
  ·exact⟨_,_,_,_,eC▸Z.o2,.inr (.inl ⟨rfl,rfl,rfl,rfl⟩),q⟩
  ·exact⟨_,_,_,_,eC▸Z.o3,.inr (.inr ⟨rfl,rfl,rfl,rfl⟩),q⟩
 obtain⟨b1,b2,b3,wd,O,hB,q⟩:=hO
 obtain⟨k1,k2,k3,k4,k5,k6,k7,k8,k9⟩:=aaQ O.is
 have F:=O.at_
 have hc:=O.cl
 refine⟨_,(jr (Nt 1 px.nd (tV dA))
   (jr (Cv hh rp (AX (kj (lA (eO hh F hc) rfl T.cG cH (kj (pv 0) (kj (fY (v:=.ref jI) rfl yy rfl) dA))) (kj (lA (eO hh F hc) rfl T.cG cH (kj (pv 0) (kj (fY (v:=.ref rD) rfl Mi rfl) dA))) (kj (lA (eO hh F hc) rfl T.cG cH (kj (pv 0) (kj (fY (v:=.ref mB) rfl Ea rfl) dA))) (kj (lA (eO hh F hc) rfl T.cG cH (kj (pv 0) (kj (fY (v:=.ref pZ) rfl D8 rfl) dA))) dA))))) (xb (i:=2) px.nd)
   (jN (rP (vp dh iD iE i8 (pv 1) (kj (pv 2) dA)))))
   (jr (Cv hh rp (AX (kj (lA (eO hh F hc) rfl T.cG cH (kj (pv 0) (kj (fY (v:=.ref sG) rfl Hc rfl) dA))) (kj (lA (eO hh F hc) rfl T.cG cH (kj (pv 0) (kj (fY (v:=.ref sF) rfl G9 rfl) dA))) (kj (lA (eO hh F hc) rfl T.cG cH (kj (pv 0) (kj (fY (v:=.ref sD) rfl G7 rfl) dA))) (kj (lA (eO hh F hc) rfl T.cG cH (kj (pv 0) (kj (fY (v:=.ref sE) rfl G8 rfl) dA))) dA))))) (xb (i:=2) px.nd)
   (jN (rP (vp dh iD iE i8 (pv 1) (kj (pv 2) dA)))))
   (jr (rP (vp dh iD iE i8 (pv 1) (kj (lA (eO hh F hc) rfl T.cG cH (kj (pv 0) (kj (fY (v:=.ref sH) rfl He rfl) dA))) dA)))
   (jr (Pg (Tt (PW.pt (Ph (IB (IC (lA (eO hh F hc) rfl T.cG cH (kj (pv 0) (kj (Pb T.kX uC rfl) dA))))) (IE (Cy XO (vp dh iV UQ Eb (pv 1) (pj [.bl true] (by rfl))) ma (Sd _))))))
   (jN (tX xa)) Cw)
   (jN (tX (tU B8 (tV (pj [.str "program",.str "row",.str "long",.str "world",.str "text",.str "step",.str "cell",.str "door",.str "word"] (by rfl))) (vp dh UP PySem.F.type_list_index Ed (pv 1) (pj [.bl true] (by rfl))))))))))),?_⟩
 try dsimp only[cxK]
 refine⟨sz0,λfd U8=>?_⟩
 have s0:=gm U8 (.lst [])
 refine⟨_,rfl,_,_,_,rfl,.inl ⟨_,rfl,rfl⟩,k1,_,rfl,_,_,_,rfl,.inl ⟨_,rfl,rfl⟩,k2,_,rfl,_,_,_,rfl,.inl ⟨_,rfl,rfl⟩,k3,_,rfl,_,_,_,rfl,.inl ⟨_,rfl,rfl⟩,k4,sz4,λt ht=>?_⟩
 have ne1:t≠fd:=λz=>by rw[z,bE] at ht;cases ht
 refine⟨t,rfl,⟨_,el.of bE⟩,Cb (bs:= [b1,b2,b3,false]) (cs:= []) U8 (s0.trans (gm ht _)) (by rw[bf (cR ne1)];exact bE) bE ne1 (by show 4<=100;decide) (λx2 H1 s1 DP=>?_)⟩
 refine⟨_,rfl,_,_,_,rfl,.inl ⟨_,rfl,rfl⟩,k5,_,rfl,_,_,_,rfl,.inl ⟨_,rfl,rfl⟩,k6,_,rfl,_,_,_,rfl,.inl ⟨_,rfl,rfl⟩,k7,_,rfl,_,_,_,rfl,.inl ⟨_,rfl,rfl⟩,k8,sz4,λt' ht'=>?_⟩
 have ne2:t'≠fd:=λz=>by rw[z,DP] at ht';cases ht'
 refine⟨t',rfl,⟨_,el.of bE⟩,Cb (bs:= [false,false,false,false]) (cs:= [b1,b2,b3,false]) U8 (s1.trans (gm ht' _)) (by rw[bf (cR ne2)];exact DP) bE ne2 (by show 8<=100;decide) (λx3 H2 s2 Zw=>?_)⟩
 refine⟨_,rfl,.inl ⟨rfl,_,gq.of Zw⟩,_,rfl,_,_,_,rfl,.inl ⟨_,rfl,rfl⟩,k9,fd,_,_,rfl,rfl,Zw,(by show 8<sizeLine;decide),?_⟩
 have s3:iI H (upd H2 fd (.lst (([b1,b2,b3,false] ++ [false,false,false,false]).map V.bl ++ [V.bl false]))):=λb o hb=>by rw[bf (bB hb U8)];exact s2 _ _ hb
 have WI:(upd H2 fd (.lst (([b1,b2,b3,false] ++ [false,false,false,false]).map V.bl ++ [V.bl false]))) fd=some (.lst ([b1,b2,b3,false,false,false,false,false,false].map V.bl)):=bE
 generalize upd H2 fd (.lst (([b1,b2,b3,false] ++ [false,false,false,false]).map V.bl ++ [V.bl false]))=H3 at s3 WI⊢
 refine⟨λt H'=>H3=H'/\t=false,⟨_,rfl,_,_,_,rfl,.inr ⟨_,rfl,rfl⟩,O.kv,_,rfl,ifF rfl ⟨_,rfl,.inl ⟨rfl,_,gq.of WI⟩,fd,_,rfl,rfl,WI,rfl,_,rfl,rfl,by rcases hB with ⟨rfl,rfl,rfl,_⟩|⟨rfl,rfl,rfl,_⟩|⟨rfl,rfl,rfl,_⟩<;>decide⟩⟩,?_⟩
 rintro t H' ⟨rfl,rfl⟩
 refine ifF rfl ?_
 refine⟨sz9,λL hL=>?_⟩
 have s4:=s3.trans (gm hL (.lst [V.str "program",.str "row",.str "long",.str "world",.str "text",.str "step",.str "cell",.str "door",.str "word"]))
 have U7:(upd H3 L (.lst [V.str "program",.str "row",.str "long",.str "world",.str "text",.str "step",.str "cell",.str "door",.str "word"])) fd=some (.lst ([b1,b2,b3,false,false,false,false,false,false].map V.bl)):=by rw[bf (bB WI hL)];exact WI
 rcases hB with ⟨rfl,rfl,rfl,rfl⟩|⟨rfl,rfl,rfl,rfl⟩|⟨rfl,rfl,rfl,rfl⟩
 ·refine⟨_,rfl,.inl ⟨rfl,_,gq.of U7⟩,fd,_,0,rfl,rfl,U7,by decide,rfl,(λm hm=>?_),L,_,0,_,rfl,rfl,gq.of bE,kC (j:=0) rfl,q _ s4⟩
  exact absurd hm (Nat.not_lt_zero _)
 ·refine⟨_,rfl,.inl ⟨rfl,_,gq.of U7⟩,fd,_,1,rfl,rfl,U7,by decide,rfl,(λm hm=>?_),L,_,1,_,rfl,rfl,gq.of bE,kC (j:=1) rfl,q _ s4⟩
  match m,hm with
  |0,_=>rfl
 ·refine⟨_,rfl,.inl ⟨rfl,_,gq.of U7⟩,fd,_,2,rfl,rfl,U7,by decide,rfl,(λm hm=>?_),L,_,2,_,rfl,rfl,gq.of bE,kC (j:=2) rfl,q _ s4⟩
  match m,hm with
  |0,_=>rfl
  |1,_=>rfl
end
end Fg
namespace W2
open PySem L2 F
variable{b l f r p x:Pv}{n:Nat}
def JH:Pv->Option Nat
 |.tup [b,l,f,r]=>iz b l f r
 |_=>none
def X0:Pv->Bool
 |.tup [b,l,f,r]=>dz (.tup [b,l,f,r])
 |_=>false
def Jv(x:Pv)(K:Pv->Prop):Prop:=l9 (JH x) (λc=>K (.str (eA (some c)))) (K (.lst [x]))
abbrev By:Ct:=Zj X0 Jv
theorem Df{c:Nat}(h:iz b l f r=some c):c=0\/c=1\/c=2:=by
 unfold iz vE at h
 repeat' split at h
 all_goals first|(cases h;simp;done)|(cases h;done)
theorem OF{p:Pv->Bool}{R:Pv->(Pv->Prop)->(Nat->Prop)->Prop}{ds:List Dv}{h:Hs}{Q:Dv->Hs->Prop}{xc:XP}(c:QD p R ds h Q xc):∃a,ds = [.p a]/\h = []/\gd (p a) (R a (λy=>Q (.p y) []) λc=>xc c []):=by
 unfold QD at c
 exact f7 c λx _ c=>eI c λc=>eI c λc=>⟨x,rfl,rfl,c⟩
theorem CI:eX ["_law_parts","_law_e"] ["_law_parts"] (aQ (fw 83)):=tD (by decide +kernel)
section
variable {ca:Nat->Addr}{W:Wd}{R C4 C5 C6 C7 C8 C9:Addr}
seal L2.PE L2.PS L2.nj L2.PT L2.PW L2.PA L2.PG L2.Qn L2.PI L2.PO L2.qO L2.PC L2.iX L2.dQ L2.yX L2.EY L2.Ki L2.UW in
theorem QP(Z:Fg.VA W.K W.mg R (ca 0) (ca 1) (ca 2) C4 C5 C6 C7 C8 C9)(Vw:DX ca W 12 29 OE)(Dc:zt W.P W.w W.K W.mg W.base 29 "_law_class" ["_law_e"] (Fg.CN (ca 0) (ca 1) (ca 2)))(S:SX W):DX ca W 53 30 By:=by
 obtain⟨ps,Vw⟩:=Vw
 refine⟨["_law_parts"],S.s83.okX CI (λvs H Q E ⟨G,M,h,ds,Q',xc,r,i,c,_,_⟩=>?_) (λf fT A outer s H vs Q E hr Ap=>?_)⟩
 ·obtain⟨x,rfl,rfl,c⟩:=OF c
  rw[<-i.len];rfl
 obtain⟨G,M,h,ds,Q',xc,r,i,c,out,exc⟩:=Ap
 obtain⟨x,rfl,rfl,c9⟩:=OF c
 obtain⟨c1,c2⟩:=bt c9
 clear c c9
 have c:=c2
 clear c2
 unfold X0 at c1
 split at c1
 rotate_left
 ·cases c1
 rename_i b l f r0
 obtain⟨v,rfl,iv⟩:=i.nV
 obtain⟨a,ws,rfl,sq,iw⟩:=kZ iv
 have hM:M = []:=pO.mp r.ln
 subst hM
 obtain⟨vb,vl,vf,vr,rfl,ib,il,jf,ir⟩:∃vb vl vf vr,ws = [vb,vl,vf,vr]/\bL (((Lx ca).y W).z G) [] H b vb/\bL (((Lx ca).y W).z G) [] H l vl/\bL (((Lx ca).y W).z G) [] H f vf/\bL (((Lx ca).y W).z G) [] H r0 vr:=by
  have hl:=iw.len
  match ws,hl with
  | [vb,vl,vf,vr],_=>
   unfold aJ at iw
   obtain⟨i1,iw⟩:=iw
   unfold aJ at iw
   obtain⟨i2,iw⟩:=iw
   unfold aJ at iw
   obtain⟨i3,iw⟩:=iw
   unfold aJ at iw
   exact⟨vb,vl,vf,vr,rfl,i1,i2,i3,iw.1⟩
 have c:l9 (iz b l f r0) (λc=>Q' (.p (.str (eA (some c)))) []) (Q' (.p (.lst [.tup [b,l,f,r0]])) []):=c
 refine⟨_,(jN (Tr (i:=1) (R:=R) Ac CI.nd rfl rfl rfl rfl Z.m0 Z.hit
  (λpn E1=>jN (tX (tV (kj (Cp Vw hr N4 rfl (kj (tU (show yX _ (EB W.K) from tM) (pv 0) ma) (kj (tU (show yX _ (EB W.K) from tM) (pv 0) ma) (kj (tU (show yX _ (EB W.K) from tM) (pv 0) ma) (kj (tU (show yX _ (EB W.K) from tM) (pv 0) ma) dA))))) dA))))
  (λpn a C hh=>jN (tX (MQ Dc hh (hr.hand a) rfl (kj (pv 1) dA)))))),?_⟩
 refine⟨λcls _ H'=>∃k M',cls=.ref (ca k)/\Ext [] H M' H'/\bj (((Lx ca).y W).z G) M' H' []/\iz b l f r0=some k,?_,?_⟩
 ·refine⟨_,rfl,a,_,0,_,rfl,rfl,sq,kC (j:=0) rfl,_,rfl,a,_,1,_,rfl,rfl,sq,kC (j:=1) rfl,_,rfl,a,_,2,_,rfl,rfl,sq,kC (j:=2) rfl,_,rfl,a,_,3,_,rfl,rfl,sq,kC (j:=3) rfl,?_⟩
  refine⟨G,[],[],[.p b,.p l,.p f,.p r0],λd h'=>d=.p (.tup [b,l,f,r0])/\h' = []/\iz b l f r0=none,λk h'=>h' = []/\iz b l f r0=some k,r,⟨ib,il,jf,ir,trivial⟩,aq c1 (AQ (λk e=>⟨rfl,e⟩) λe=>⟨rfl,rfl,e⟩),?_,?_⟩
  ·rintro d h' M' H' v e' r' i' ⟨rfl,rfl,hv⟩
   refine⟨by show 1<=sizeLine;decide,λu hu=>?_⟩
   exact out (.p (.lst [.tup [b,l,f,r0]])) [] M' _ _ (e'.trans (Ext.add hu)) (r'.add hu) (jk r' hu (by unfold aJ;exact⟨i',by unfold aJ;trivial⟩)) (HD c hv)
  ·rintro k h' M' H' e' r' ⟨rfl,hv⟩
   exact⟨k,M',rfl,e',r',hv⟩
 ·rintro C od H' a' σ' ⟨k,M',e,ex,r',hv⟩ hlen
  have za:1<σ'.length:=by rw[hlen];exact pQ 1
  have fin:∀H2,iI H' H2->Q (.str (eA (some k))) H2:=λH2 s2=>out (.p (.str (eA (some k)))) [] M' H2 _ (ex.trans (ji s2)) (mf r' s2) (by unfold F.cQ bL;rfl) (HE (A:=λc=>Q' (.p (.str (eA (some c)))) []) c hv)
  injection e with e
  subst e
  rcases Df hv with rfl|rfl|rfl
  ·exact⟨Z.o1.sub,.ref a',by rw[cx za],rfl,.inl ⟨rfl,fin⟩⟩
  ·exact⟨Z.o2.sub,.ref a',by rw[cx za],rfl,.inr (.inl ⟨rfl,fin⟩)⟩
  ·exact⟨Z.o3.sub,.ref a',by rw[cx za],rfl,.inr (.inr ⟨rfl,fin⟩)⟩
end
theorem qv{F:Pv->Bool}:∀{ks:lS7}{r:List Pv},r.length=ks.length->(fh (ks.map .str) r).all F=true->∀p∈r,∃k,F (.tup [.str k,p])=true
 | [],[],_,_,_,h=>nomatch h
 | [],_::_,e,_,_,_=>by cases e
 |_::_,[],e,_,_,_=>by cases e
 |k::ks,q::r,e,h,p,hp=>by
  obtain⟨h1,h2⟩:=ag (show(F (.tup [.str k,q])&&(fh (ks.map .str) r).all F)=true from h)
  rcases aN.mp hp with rfl|hp
  ·exact⟨k,h1⟩
  ·exact qv (by simpa using e) h2 p hp
theorem xj{z:Str}(h:z.length<=10):jF n (.str z)=true:=by cases n<;>exact ble_iff.mpr h
theorem me(h:aE p=true):jF n p=true:=by
 cases p<;>first|(cases h;done)|skip
 exact xj (aA (ble_iff.mp (ag (ag h).2).1) (by decide))
theorem xi(h:fc p=true):jF n p=true:=by
 cases p<;>first|(cases h;done)|skip
 cases n<;>exact h
theorem xy{bs ls:List Pv}:∀{n:Nat}{x:Pv},val n bs ls x=true->jF n x=true
 |0,_,h=>nU h
 |n+1,x,h=>by
  cases x with
  |tup xs=>cases xs with
   |nil=>exact nU h
   |cons a r=>cases a with
    |str w=>
     have h:kr (val n bs ls) bs ls r (lk w iU)=true:=h
     cases e:lk w iU with
     |none=>rw[e] at h;cases h
     |some ks=>
      rw[e] at h
      obtain⟨h1,h2⟩:=ag h
      have hl:=cK.mp h1
      rw[ah] at hl
      show(jF n (.str w)&&r.all (jF n))=true
      rw[xj (ble_iff.mp (wN (f:=λw _=>Nat.ble w.length 10) (by decide +kernel) e)),f9,aj]
      intro p hp
      obtain⟨k,hk⟩:=qv (by lia) h2 p hp
      have hk:qF (val n bs ls) bs ls k p=true:=hk
      unfold qF at hk
      split at hk
      ·exact xi hk
      ·split at hk
       ·exact me (ag hk).1
       ·split at hk
        ·exact me (ag hk).1
        ·exact xy hk
    |_=>exact nU h
  |_=>exact nU h
theorem CD{s:Sc}:∀{n:Nat}{x:Pv},row n s x=true->jF (2*n+4) x=true
 |0,_,h=>nU h
 |n+1,x,h=>by
  obtain⟨w,r,e0,h'⟩:=mh h
  clear h
  subst e0
  cases e:lk w gS with
  |none=>rw[e] at h';cases h'
  |some ks=>
   rw[e] at h'
   obtain⟨h1,h'⟩:=ag h'
   obtain⟨_,h'⟩:=ag h'
   obtain⟨h2,_⟩:=ag h'
   have hl:=cK.mp h1
   rw[ah] at hl
   show(jF (2*n+5) (.str w)&&r.all (jF (2*n+5)))=true
   rw[xj (ble_iff.mp (wN (f:=λw _=>Nat.ble w.length 10) (by decide +kernel) e)),f9,aj]
   intro p hp
   obtain⟨k,hk⟩:=qv (by lia) h2 p hp
   have hk:fX (cY (row n s)) s k p=true:=hk
   unfold fX at hk
   split at hk
   ·exact iT hk λys hy=>bU (λz hz=>CD hz) hy
   ·split at hk
    ·exact nW (xy hk) (by lia)
    ·split at hk
     ·refine N5 (ag hk).1 (P:=λp=>(nh p).all (val 4 s.bs s.ls)=true->jF (2*n+5) p=true) (λvs hv=>?_) (ag hk).2
      exact bU (λz hz=>nW (xy hz) (by lia)) hv
     ·exact me (ag hk).1
theorem yJ{s:Sc}(h:eJ 5 s x=true):jF 15 x=true:=iT h λys hy=>bU (λz hz=>CD hz) hy
theorem Kr(h:ef x=true):jF 1 x=true:=by
 unfold ef at h
 split at h
 ·show(jF 0 _&&(jF 0 _&&true))=true
  rw[me (ag h).1,xi (ag h).2];rfl
 ·cases h
theorem G4(h:isList x=true):jF 2 x=true:=by
 unfold isList at h
 split at h
 ·show(jF 1 _&&(jF 1 _&&true))=true
  rw[me (ag h).1,f9,cZ]
  exact dB (ag h).2 λys _ hy=>bU (λz hz=>xi hz) hy
 ·cases h
theorem vw(h:iz b l f r=none):jF 20 b=true/\jF 20 l=true/\jF 20 f=true/\jF 20 r=true:=by
 unfold iz at h
 have v:∀{c:Bool}{n:Nat}{o:Option Nat},vE c n o=none->c=true/\o=none:=λ{c n o} h=>by
  cases c with
  |true=>exact⟨rfl,h⟩
  |false=>cases h
 obtain⟨h1,h⟩:=v h
 obtain⟨h2,h⟩:=v h
 obtain⟨h3,h⟩:=v h
 obtain⟨h4,_⟩:=v h
 obtain⟨b1,l1,_⟩:=qQ h1
 obtain⟨f1,_⟩:=ag h2
 obtain⟨r1,r2⟩:=ag h4
 refine⟨dB b1 λxs _ hx=>bU (λz hz=>nW (Kr hz) (by decide)) hx,dB l1 λxs _ hx=>bU (λz hz=>nW (G4 hz) (by decide)) hx,?_,nW (yJ r2) (by decide)⟩
 revert r1
 refine dB f1 λfs _ hf r1=>?_
 show fs.all (jF 19)=true
 rw[aj]
 intro g hg
 have fg:=aj.mp hf g hg
 have rg:=yJ (aj.mp r1 g hg)
 revert rg
 unfold cO at fg
 split at fg
 ·rename_i a' b' c' d'
  intro rg
  have rg:jF 18 d'=true:=nW (show jF 15 d'=true from rg) (by decide)
  obtain⟨g1,g2,g3,_⟩:=jd fg
  show(jF 18 _&&(jF 18 _&&(jF 18 _&&(jF 18 _&&true))))=true
  rw[me g1,rg,dB (P:=λp=>jF 18 p=true) g2 λxs _ hx=>bU (λz hz=>me hz) hx,dB (P:=λp=>jF 18 p=true) g3 λxs _ hx=>bU (λz hz=>me hz) hx];rfl
 ·cases fg
theorem FY(i:Int):lj i i=true:=cK.mpr rfl
theorem jU:∀{n:Nat}{x:Pv},jF n x=true->iZ x x=true/\∀m,n<m->jx m x=true
 |n,x,h=>by
  refine Io h (λi _ _=>⟨FY i,λm hm=>?_⟩) (λz _=>⟨aZ.mpr rfl,λm hm=>?_⟩) (λxs k e hx=>?_)
  ·cases m with
   |zero=>lia
   |succ m=>rfl
  ·cases m with
   |zero=>lia
   |succ m=>rfl
  ·subst e
   refine⟨?_,λm hm=>?_⟩
   ·show iJ xs xs=true
    clear h
    induction xs with
    |nil=>rfl
    |cons y ys ih=>
     rw[aB] at hx
     show(iZ y y&&iJ ys ys)=true
     rw[(jU (ag hx).1).1,ih (ag hx).2];rfl
   ·obtain⟨m,rfl⟩:∃j,m=j+1:=⟨m-1,by lia⟩
    exact bU (λz hz=>(jU hz).2 m (by lia)) hx
termination_by n=>n
def pD(x:Pv):Pv:=match JH x with
 |some c=>.str (eA (some c))
 |none=>.lst [x]
theorem HB(h:jx 60 p=true):O8 p p=true:=by
 unfold O8
 rw[h];exact zf _
theorem Jt{b l f r:Pv}:O8 (pD (.tup [b,l,f,r])) (pD (.tup [b,l,f,r]))=true/\iZ (pD (.tup [b,l,f,r])) (pD (.tup [b,l,f,r]))=true:=by
 have t0:pD (.tup [b,l,f,r])=match iz b l f r with|some c=>Pv.str (eA (some c))|none=>.lst [.tup [b,l,f,r]]:=rfl
 rw[t0]
 cases e:iz b l f r with
 |some c=>exact⟨HB rfl,(aZ.mpr rfl:aR (eA (some c)) (eA (some c))=true)⟩
 |none=>
  obtain⟨h1,h2,h3,h4⟩:=vw e
  have e1:jx 60 (.lst [.tup [b,l,f,r]])=true:=by
   show((jx 58 b&&(jx 58 l&&(jx 58 f&&(jx 58 r&&true))))&&true)=true
   rw[(jU h1).2 58 (by decide),(jU h2).2 58 (by decide),(jU h3).2 58 (by decide),(jU h4).2 58 (by decide)];rfl
  refine⟨HB e1,?_⟩
  show((iZ b b&&(iZ l l&&(iZ f f&&(iZ r r&&true))))&&true)=true
  rw[(jU h1).1,(jU h2).1,(jU h3).1,(jU h4).1];rfl
theorem xr{K:Pv->Prop}(k:K (pD x)):Jv x K:=by
 unfold pD at k
 unfold Jv
 cases e:JH x with
 |some c=>rw[e] at k;exact k
 |none=>rw[e] at k;exact k
end W2
namespace F
open PySem PySem.Spec PyProof.Rows L2
theorem Ms.U'{Γ:Gm}{t:Tb}{P:ab0}{w:ab1}{K:Frag}{mg:mG7}{base:Heap}{x qual:Str}{st:Stmt}{ps N:lS7}{k:Nat}{C:Ct}{S:Sx}{f:Addr}{fd:ab5}(B:Ms Γ t)(z:Bool)(F0:Kg K x qual st f fd)(F:eX N ps (aQ st))(g:Gk Γ t k S P w K mg base)(rL:B.ck (S.at N (aQ st) false) (cJ st)=true)
  (hC:∀ds h Q xc,C ds h Q xc->ds.length=ps.length/\B.m (eE z h.length Q λ_ _=>False) (j5 N.length ds) h):jP P w K mg base zp (k+2) f fd ps (lL ⟨K,mg,t⟩ C):=by
 refine F0.ok F (λvs H Q E ⟨G,M,h,ds,Q',xc,r,i,c,_,_⟩=>by rw[<-i.len];exact(hC _ _ _ _ c).1) λfT A outer s H vs Q E hr ⟨G,M,h,ds,Q',xc,r,i,c,out,exc⟩=>?_
 refine⟨_,B.ps (Γ:=Γ) (t:=t) (k:=k) (S:=S.at N (aQ st) false) (E:=λ_ _ _=>False) ⟨Gk.okx (X:=(oN zp P w K mg base N qual (aQ st) f fT A outer s H E).O5) g rfl rfl rfl (λpins σ H s e s' I ⟨_,_,_,_,_,q⟩=>q.elim) hr (λh=>by cases h),F.nd,λy _=>.inl rfl,rp,F.kind,g.exc⟩ rL,?_⟩
 exact⟨G,M,_,h,_,zT r (A8 N i) out (λ_ _ _ _ _ _ q=>q.elim),(hC _ _ _ _ c).2⟩
end F
namespace W2
open PySem L2 F
variable{ca:Nat->Addr}{W:Wd}{w:ab1}{K:Frag}{mg:mG7}{h:Heap}{x:Str}{f R C1 C2 C3 C4 C5 C6 C7 C8 C9 CS C:Addr}{n:Nat}{ps:lS7}{oc doc pm fT ct:Value}{od an:Option Addr}{AS:Array (Option Value)}{r:List (Str×lS7)}{l:OpenLaw}{cd:ClassData}
abbrev QA:Ct:=UZ B5 λ_=>.bl true
inductive L1 (sc good:Pv):Es->Hs->Prop
 |mk (o1 o2:Ob) (b l f r:Pv) (v:Option Dv) (h1:bO 2 o1=true) (h2:bO 2 o2=true) (d:dz (.tup [b,l,f,r])=true):L1 sc good [some (.p sc),some (.p good),some (.r 1),some (.p (.tup [b,l,f,r])),v,none] [o1,o2]
inductive Zd (sc good parts:Pv):Es->Hs->Prop
 |mk (o1 o2:Ob) (v:Option Dv) (h1:bO 2 o1=true) (h2:bO 2 o2=true):Zd sc good parts [some (.p sc),some (.p good),some (.r 1),some (.p parts),v,some (.p (pD parts))] [o1,o2]
theorem V9{x:Pv}(d:dP x=true)(z:cU x<=1000000):dz x=true:=by
 unfold dz
 rw[d,ble_iff.mpr (show cU x<=uB from z)];rfl
theorem V2(B:LX ca W){fd:ab5}(F0:Kg W.K "law" "law" (fw 84) f fd)(D27:DX ca W 27 2 Bu)(D28:DX ca W 28 2 sy)(D29:DX ca W 29 2 kf)(D34:DX ca W 34 13 pY)(q_:DX ca W 40 24 (iR 20))(D51:DX ca W 51 25 Bv)(D53:DX ca W 53 30 By):jP W.P W.w W.K W.mg W.base zp 31 f fd ["_law_script"] (lL ((Lx ca).y W) QA):=by
 have hf:All (Lx ca) W 30 [(27,Bu),(28,sy),(29,kf),(34,pY),(40,iR 20),(51,Bv),(53,By)]:=⟨D27.up rfl,D28.up rfl,D29.up rfl,D34.up rfl,q_.up rfl,D51.up rfl,D53,trivial⟩
 let b:Ms ((Lx ca).G [(27,Bu),(28,sy),(29,kf),(34,pY),(40,iR 20),(51,Bv),(53,By)] []) (Lx ca).t:=(.seq (.set 1 (.cl 34 [0] (.cons (.cl 28 [] (.cons (.cl 27 [] (.cons (.v 0) (.cons (.c (.int 0)) .nil))) (.cons (.c (.int 1)) .nil))) (.cons (.c (.int 6)) .nil))))
 (.seq (.set 2 (.cl 28 [] (.cons (.cl 27 [] (.cons (.v 0) (.cons (.c (.int 1)) .nil))) (.cons (.c (.int 2)) .nil))))
 (.seq (.set 3 (.v 1))
 (.cut (.iff (.cmp vR (.cl 29 [1] (.cons (.v 2) (.cons (.c (.int 4)) .nil))) (.c (.int 0))) (.seq (.set 4 (.cl 29 [1] (.cons (.v 2) (.cons (.c (.int 4)) .nil))))
 (.one (.set 3 (.b2 dk (.b2 dk (.sl (.v 1) .no (.of (.v 4))) (.tup (.cons (.cl 40 [1] (.cons (.ix (.v 1) (.v 4)) (.cons (.v 2) .nil))) .nil))) (.sl (.v 1) (.of (.b2 dk (.v 4) (.c (.int 1)))) .no))))) .nil)
 (.seq (.set 5 (.cl 51 [] (.cons (.ix (.v 3) (.c (.int 0))) (.cons (.ix (.v 3) (.c (.int 1))) (.cons (.ix (.v 3) (.c (.int 2))) (.cons (.ix (.v 3) (.c (.int 3))) .nil))))))
 (.cut (.iff (.cmp gN (.v 5) (.c (.str ""))) (.one (.set 5 (.lst (.cons (.v 3) .nil)))) .nil)
 (.seq (.iff (.cmp Kx (.cl 51 [] (.cons (.ix (.v 1) (.c (.int 0))) (.cons (.ix (.v 1) (.c (.int 1))) (.cons (.ix (.v 1) (.c (.int 2))) (.cons (.ix (.v 1) (.c (.int 3))) .nil))))) (.c (.str ""))) (.one (.ret (.c (.bl false)))) .nil)
 (.one (.ret (.bo (Bm.ac (.cmp gN (.cl 53 [] (.cons (.v 3) .nil)) (.v 5)) (Bm.ac (.cmp gN (.cl 53 [] (.cons (.v 1) .nil)) (.lst (.cons (.v 1) .nil))) (Bm.a1 (.cmp gN (.cl 53 [] (.cons (.v 3) .nil)) (.v 5)))))))))))))))
 have rL:(U2 ["_law_script","_law_good","_law_state_here","_law_parts","_law_at","_law_due"] ["_law_script"] (aQ (fw 84))&&b.ck ((Lx ca).S.at ["_law_script","_law_good","_law_state_here","_law_parts","_law_at","_law_due"] (aQ (fw 84)) false) (cJ (fw 84)))=true:=rfl
 refine b.U' (N:= ["_law_script","_law_good","_law_state_here","_law_parts","_law_at","_law_due"]) true F0 (tD (ag rL).1) (B.gk (k:=29) (Bl.of hf.at) trivial) (ag rL).2 λds h Q xc c=>?_
 refine tF (b:=λN σ h=>b.m N σ h) (λx Q xc hx q=>?_) ds h Q (λ_ _=>False) (show QA ds h Q (λ_ _=>False) from c)
 have q:Q (.p (.bl true)) []:=q
 refine aq (by show(B5 x&&true)=true;rw[hx];rfl) λi n hn=>aq (by show(true&&(gz n&&true))=true;rw[hn];rfl) λm b l f r hm gp=>?_
 have γ:dz (.tup [b,l,f,r])=true:=V9 gp.d (aA gp.z (by decide))
 obtain⟨pb,pl,pf,pr⟩:=vw gp.v
 refine aq (by show(B5 x&&true)=true;rw[hx];rfl) λi2 n2 Lu=>?_
 refine Exists.intro (L1 x (.tup [b,l,f,r])) (And.intro ?_ ?_)
 ·refine aq (jM Lu rfl) λn3 t3 hn3 _=>dC (λ_=>?_) λ_=>.mk (.lst [.int m]) (.lst [.int n3]) b l f r _ rfl rfl γ
  refine aq (jM hn3 rfl) λn4 t4 OT Gx=>?_
  have Gx:t4<4:=by have:(t4:Int)<4:=Gx;lia
  have hz:=gp.z
  have hs:cU (.tup [b,l,f,r])=1+(cU b+(cU l+(cU f+(cU r+0)))):=rfl
  have hd:(dP b&&(dP l&&(dP f&&(dP r&&true))))=true:=gp.d
  obtain⟨db,dl,df,dr,_⟩:=Kj hd
  have sz1:nc 4=true:=rfl
  rcases t4 with _|_|_|_|t
  ·refine aq (MD OT pb (by lia)) λn5 y Gs gy=>?_
   have:=gy.z
   exact .mk (.lst [.int m]) (.lst [.int n5]) y l f r _ rfl rfl (V9 (by show(dP y&&(dP l&&(dP f&&(dP r&&true))))=true;rw[gy.d,dl,df,dr];rfl) (by show 1+(cU y+(cU l+(cU f+(cU r+0))))<=_;lia))
  ·refine aq (MD OT pl (by lia)) λn5 y Gs gy=>?_
   have:=gy.z
   exact .mk (.lst [.int m]) (.lst [.int n5]) b y f r _ rfl rfl (V9 (by show(dP b&&(dP y&&(dP f&&(dP r&&true))))=true;rw[gy.d,db,df,dr];rfl) (by show 1+(cU b+(cU y+(cU f+(cU r+0))))<=_;lia))
  ·refine aq (MD OT pf (by lia)) λn5 y Gs gy=>?_
   have:=gy.z
   exact .mk (.lst [.int m]) (.lst [.int n5]) b l y r _ rfl rfl (V9 (by show(dP b&&(dP l&&(dP y&&(dP r&&true))))=true;rw[gy.d,db,dl,dr];rfl) (by show 1+(cU b+(cU l+(cU y+(cU r+0))))<=_;lia))
  ·refine aq (MD OT pr (by lia)) λn5 y Gs gy=>?_
   have:=gy.z
   exact .mk (.lst [.int m]) (.lst [.int n5]) b l f y _ rfl rfl (V9 (by show(dP b&&(dP l&&(dP f&&(dP y&&true))))=true;rw[gy.d,db,dl,df];rfl) (by show 1+(cU b+(cU l+(cU f+(cU y+0))))<=_;lia))
  ·lia
 ·intro σ' h' cc
  cases cc with
  |mk o1 o2 b' l' f' r' v h1 h2 d'=>
  refine aq d' ?_
  refine Exists.intro (Zd x (.tup [b,l,f,r]) (.tup [b',l',f',r'])) (And.intro ?_ ?_)
  ·have t0:pD (.tup [b',l',f',r'])=match iz b' l' f' r' with|some c=>Pv.str (eA (some c))|none=>.lst [.tup [b',l',f',r']]:=rfl
   have mk:=@Zd.mk x (.tup [b,l,f,r]) (.tup [b',l',f',r']) o1 o2 v h1 h2
   rw[t0] at mk
   cases e:iz b' l' f' r' with
   |none=>
    rw[e] at mk
    exact sg (show aR (eA (iz b' l' f' r')) ""=true by rw[e];rfl) mk
   |some c=>
    rw[e] at mk
    refine gE (show aR (eA (iz b' l' f' r')) ""=false by rw[e];rcases Df e with rfl|rfl|rfl<;>rfl) ?_
    have mk2:Zd x (.tup [b,l,f,r]) (.tup [b',l',f',r']) [some (.p x),some (.p (.tup [b,l,f,r])),some (.r 1),some (.p (.tup [b',l',f',r'])),v,some (.p (.str (eA (iz b' l' f' r'))))] [o1,o2]:=by rw[e];exact mk
    exact mk2
  ·intro σ' h' cc
   cases cc with
   |mk o1 o2 v h1 h2=>
   refine aq γ ?_
   refine gE (show AI true (aR (eA (iz b l f r)) "")=false by rw[gp.v];rfl) ?_
   obtain⟨q1,q2⟩:=@Jt b' l' f' r'
   obtain⟨q3,q4⟩:=@Jt b l f r
   have tg:pD (.tup [b,l,f,r])=.lst [.tup [b,l,f,r]]:=by
    show(match iz b l f r with|some c=>Pv.str (eA (some c))|none=>.lst [.tup [b,l,f,r]])=_
    rw[gp.v]
   have qe:Q (.p (.bl (iZ (pD (.tup [b',l',f',r'])) (pD (.tup [b',l',f',r']))))) []:=by rw[q2];exact q
   refine aq d' ?_
   refine xr ?_
   refine aq q1 (sg q2 (aq γ ?_))
   refine xr ?_
   refine aq (show O8 (pD (.tup [b,l,f,r])) (.lst [.tup [b,l,f,r]])=true by rw[tg] at q3⊢;exact q3) (sg (show iZ (pD (.tup [b,l,f,r])) (.lst [.tup [b,l,f,r]])=true by rw[tg] at q4⊢;exact q4) (aq d' ?_))
   refine xr ?_
   exact aq q1 qe
def Z0(j:Nat):Stmt:=B1 (fw 40) j
def OL(x:Str):Option (lS7):=lk x iU
def IL(x:Str):Option (lS7):=lk x gS
structure Txt (w:ab1) (K:Frag) (mg:mG7):Prop where
 YT:mg "len"=none
 cG:mg "isinstance"=none
 YR:mg "all"=none
 YY:mg "zip"=none
 Om:mg "range"=none
 UJ:mg "list"=none
 Oo:mg "tuple"=none
 YX:mg "str"=none
 YS:mg "int"=none
 UH:mg "bool"=none
 YW:mg "set"=none
 UI:mg "dict"=none
 kX:mg "ValueError"=none
 YU:mg "max"=none
 YV:mg "min"=none
 most:∃t,mg "MOST_LETTERS"=some (.int 6 t)
 great:∃t,mg "GREATEST"=some (.int 999999 t)
 deep:∃t,mg "DEEPEST"=some (.int 4 t)
 around:∃t,mg "NO_ROW"=some (.int (-1) t)
 QE:∃t,mg "MOST_BOXES"=some (.int 6 t)
 QH:∃t,mg "MOST_LISTS"=some (.int 3 t)
 KQ:∃t,mg "MOST_THINGS"=some (.int 12 t)
 VZ:∃t,mg "MOST_FUNCTIONS"=some (.int 4 t)
 cnames:∃t,mg "MOST_NAMES"=some (.int 3 t)
 VY:∃t,mg "DEEPEST_ROW"=some (.int 5 t)
 V1:∃t,mg "MOST_NUMBERS"=some (.int 60 t)
 tab:∃a,mg "VALUE_FORMS"=some (.ref a)/\qP w K a OL
 gS:∃a,mg "ROW_FORMS"=some (.ref a)/\qP w K a IL
structure C_ (K:Frag) (mg:mG7) (C:Addr):Prop where
 m:mg "Scope"=some (.ref C)
 cl:L2.Kf K C
 nB:iH K C "boxes"
 nL:iH K C "lists"
 nP:iH K C "param_counts"
 nR:iH K C "may_return"
def caF(C1 C2 C3 CS:Addr):Nat->Addr
 |0=>C1
 |1=>C2
 |2=>C3
 |_=>CS
theorem oq{i:Int}(h:∃t,W.mg x=some (.int i t)):∃u v,W.mg x=some u/\RelV v u/\∀G M H,bL (((Lx ca).y W).z G) M H (.int i) v:=
 let ⟨t,h⟩:=h;⟨_,.int i,h,⟨t,rfl⟩,λ_ _ _=>by unfold bL;rfl⟩
def VG{α:Type}(P:α->Prop):List α->Prop
 | []=>True
 |x::r=>P x/\VG P r
theorem kA{α:Type}{P:α->Prop}:∀{l:List α},VG P l->∀x∈l,P x
 | [],_,_,h=>nomatch h
 |y::r,a,x,h=>(aN.mp h).elim (λz=>z▸a.1) λz=>kA a.2 x z
theorem Xl{P:ab0}{base:Heap}(T:Txt w K mg)(Z:Fg.VA K mg R C1 C2 C3 C4 C5 C6 C7 C8 C9)(V:C_ K mg CS):Lk (Lx (caF C1 C2 C3 CS)) ⟨P,w,K,mg,base⟩ where
 bl:=kA (P:=λx=>mg x=none) (l:=VO) ⟨T.YT,T.cG,T.YR,T.YY,T.Om,T.UJ,T.Oo,T.YX,T.YS,T.UH,T.YW,T.UI,T.YU,T.YV,trivial⟩
 gl:=kA (l:= [0,1,2,3,4,5,6,7,8,9,10]) ⟨oq T.most,oq T.great,oq T.deep,oq T.around,oq T.QE,oq T.QH,oq T.KQ,oq T.VZ,oq T.cnames,oq T.VY,oq T.V1,trivial⟩
 tab:=kA (l:= [0,1]) ⟨T.tab,T.gS,trivial⟩
 cls:=kA (l:= [3]) ⟨⟨V.cl,kA (P:=λf=>iH K CS f) (l:= ["boxes","lists","param_counts","may_return"]) ⟨V.nB,V.nL,V.nP,V.nR,trivial⟩,qo rfl⟩,trivial⟩
 exc:=kA (l:= [0,1,2]) ⟨⟨Z.m1,Z.o1.exc⟩,⟨Z.m2,Z.o2.exc⟩,⟨Z.m3,Z.o3.exc⟩,trivial⟩
def CO(K:Frag):Sp:=λvs H Q _=>∃(a:Addr) (ns:List Int),vs = [.ref a]/\gq K H a (ns.map V.int)/\∀H',Q (.bl true) H'
theorem GC{Z:Tx}{M:List Addr}{H:Hp}:∀ns:List Int,aJ Z M H (ns.map .int) (ns.map V.int)
 | []=>by unfold aJ;trivial
 |n::ns=>by
  show aJ Z M H (.int n::ns.map .int) (V.int n::ns.map V.int)
  unfold aJ
  exact⟨by unfold bL;rfl,GC ns⟩
theorem RY{L:Lw}{vs:List V}{H:Hp}{Q:VK}{E:XK}(h:CO W.K vs H Q E):lL (L.y W) QA vs H Q E:=by
 obtain⟨a,ns,rfl,hS,q⟩:=h
 refine⟨[],[],[],[.p (.scr (ns.map .int))],λd h'=>d=.p (.bl true),λ_ _=>False,⟨fF,(λ_ h=>nomatch h),rfl,(λ_ h=>nomatch h),(λi a o h=>by simp at h)⟩,⟨?_,trivial⟩,aq ?_ rfl,?_,λ_ _ _ _ _ _ h=>h.elim⟩
 ·show bL _ _ _ _ _
  unfold bL
  refine⟨a,_,rfl,?_,GC ns⟩
  rcases hS with r|c
  ·exact .inl ⟨⟨(λh=>nomatch h),(λh=>nomatch h)⟩,r⟩
  ·exact .inr (.inr c)
 ·show(ns.map Pv.int).all isInt=true
  rw[gZ]
  exact aj.mpr λ_ _=>rfl
 ·rintro d h' M' H' v _ _ i rfl
  rw[Ff i]
  exact q H'
theorem VN{α:Type}{f g:List Value->α}(hn:n<=5)(h:∀a b c d e,f ([a,b,c,d,e].take n)=g ([a,b,c,d,e].take n)):∀us:List Value,us.length=n->f us=g us
 | [],rfl=>h .none .none .none .none .none
 | [a],rfl=>h a .none .none .none .none
 | [a,b],rfl=>h a b .none .none .none
 | [a,b,c],rfl=>h a b c .none .none
 | [a,b,c,d],rfl=>h a b c d .none
 | [a,b,c,d,e],rfl=>h a b c d e
 |_::_::_::_::_::_::r,e=>by
  have:r.length+6=n:=e
  omega
theorem T7{st:Stmt}{kV:Value}(X:K.In h)(G:h.Ns aa4 mg)
  (hn:ps.length<=5) (hb:∀(kV doc pm:Value) (an:Option Addr) (fT ct a b c d e:Value),bindArgs (fnOf x x (gG st) (cJ st) (aQ st) .none kV doc pm an fT ct) ⟨[a,b,c,d,e].take ps.length,[]⟩=pure (ps.zip ([a,b,c,d,e].take ps.length)))
  (a:nsIn K aa4 x=some (some (.ref f))) (l:K.lookup f=some ⟨oc,od,.func (fnOf x x (gG st) (cJ st) (aQ st) .none kV doc pm an fT ct),AS⟩)
  (c:codeIn K fT x=true) (k:keepIn K (.ref f)=true):Src K mg x st ps:=
 have F:=Ae (st:=st) l c k
 ⟨f,_,F,bq X G a,F.binds λkV doc pm an fT ct=>VN hn (hb kV doc pm an fT ct)⟩
theorem NO{qual:Str}{st:Stmt}{kV:Value}
  (hb:∀(kV doc pm:Value) (an:Option Addr) (fT ct:Value) (us:List Value),us.length=ps.length->bindArgs (fnOf "__init__" qual (gG st) (cJ st) (aQ st) .none kV doc pm an fT ct) ⟨us,[]⟩=pure (ps.zip us))
  (a:findIn K (.ref C) "__init__"=some (some (.ref f))) (i:isFn K (.ref f)=true) (l:K.lookup f=some ⟨oc,od,.func (fnOf "__init__" qual (gG st) (cJ st) (aQ st) .none kV doc pm an fT ct),AS⟩)
  (c:codeIn K fT qual=true) (k:keepIn K (.ref f)=true) (mk:makesIn K C=true) (kc:keepIn K (.ref C)=true):xI K C qual st ps:=
 have F:=Ae (st:=st) l c k
 ⟨f,_,F,⟨mk,a,i,kc⟩,F.binds hb⟩
theorem bm0(kV doc pm:Value)(an:Option Addr)(fT ct:Value)(us:List Value)(hl:us.length=(["self","boxes","lists","param_counts","may_return"]:lS7).length):bindArgs (fnOf "__init__" "Scope.__init__" (gG (Z0 0)) (cJ (Z0 0)) (aQ (Z0 0)) .none kV doc pm an fT ct) ⟨us,[]⟩=pure ((["self","boxes","lists","param_counts","may_return"]:lS7).zip us):=
 match us,hl with| [_,_,_,_,_],_=>rfl
def uR(w:ab1)(K:Frag):List (Str×lS7)->List DictEntry->Prop
 | [],[]=>True
 |(x,ks)::r,e::es=>(∃t b,e=⟨PyData.keyHash w.params x,.str x t,.ref b⟩/\∃(o:Obj) (its:Array Value) (m:Nat),K.lookup b=some o/\o.cls=.type "tuple"/\o.data=.seq its m/\its.size<=sizeLine/\Vals (ks.map V.str) its.toList)/\uR w K r es
 |_,_=>False
theorem rkc{h:Int}{ks:lS7}{t:Tok}{b:Addr}{es:List DictEntry}{o:Obj}{its:Array Value}{m:Nat}(e:h=PyData.keyHash w.params x)(l:K.lookup b=some o)(c:o.cls=.type "tuple")(d:o.data=.seq its m)(z:its.size<=sizeLine)(v:Vals (ks.map V.str) its.toList)(q:uR w K r es):uR w K ((x,ks)::r) (⟨h,.str x t,.ref b⟩::es):=by
 subst e
 exact⟨⟨t,b,rfl,o,its,m,l,c,d,z,v⟩,q⟩
theorem tZ:∀{r:List (Str×lS7)}{es:List DictEntry},uR w K r es->KeysLit w.params es
 | [],[],_=>trivial
 |_::_,_::_,⟨⟨_,_,e,_⟩,q⟩=>by subst e;exact⟨⟨_,_,rfl,rfl⟩,tZ q⟩
 | [],_::_,q=>q.elim
 |_::_,[],q=>q.elim
theorem ua{x:Str}:∀{r:List (Str×lS7)}{es:List DictEntry},uR w K r es->match lk x r with
   |some ks=>∃b,((es.find? λe=>Value.isStrOf x e.key).map (·.val))=some (.ref b)/\∃(o:Obj) (its:Array Value) (m:Nat),K.lookup b=some o/\o.cls=.type "tuple"/\o.data=.seq its m/\its.size<=sizeLine/\Vals (ks.map V.str) its.toList
   |none=>((es.find? λe=>Value.isStrOf x e.key).map (·.val))=none
 | [],[],_=>rfl
 |(y,ks)::r,_::es,⟨⟨t,b,e,q1⟩,q⟩=>by
  subst e
  have ih:=ua (x:=x) q
  show match (match aR x y with|true=>some ks|false=>lk x r) with|some ks=>_|none=>_
  cases e:aR x y with
  |true=>
   have e:=aZ.mp e
   subst e
   exact⟨b,by rw[List.find?_cons_of_pos (by show(x == x)=true;simp)];rfl,q1⟩
  |false=>
   have n:List.find? (λe=>Value.isStrOf x e.key) (⟨PyData.keyHash w.params y,.str y t,.ref b⟩::es)=es.find? λe=>Value.isStrOf x e.key:=List.find?_cons_of_neg λz=>by
    rw[aZ.mpr (uQ (show(y == x)=true from z)).symm] at e;cases e
   rw[n]
   exact ih
 | [],_::_,q=>q.elim
 |_::_,[],q=>q.elim
theorem Js{a:Addr}{es:Array DictEntry}(l:K.lookup a=some ⟨.type "dict",none,.dict es n,#[]⟩)(lo:(a == ab6)=false)(q:uR w K r es.toList):qP w K a λx=>lk x r:=
 ⟨⟨es,n,l,tZ q,λx=>by
  have h:=ua (x:=x) q
  unfold findBy
  rw[<-Array.find?_toList]
  exact h⟩,lo⟩
theorem RX{fa f3:Addr}(X:K.In h)(G:h.Ns aa4 mg)(Ξ:mg "law"=some (.ref fa))(T:Txt w K mg)(Z:Fg.VA K mg R C1 C2 C3 C4 C5 C6 C7 C8 C9)(V:C_ K mg CS)(M0:xI K CS "Scope.__init__" (Z0 0) ["self","boxes","lists","param_counts","may_return"])
  (S:Sg K mg)
  {od3 an3:Option Addr}{sl3:Array (Option Value)}{oc3 kV3 dc3 pm3 R_ ct3:Value}
  (a3:nsIn K aa4 "law"=some (some (.ref f3))) (l3:K.lookup f3=some ⟨oc3,od3,.func (fnOf "law" "law" (gG (fw 84)) (cJ (fw 84)) (aQ (fw 84)) .none kV3 dc3 pm3 an3 R_ ct3),sl3⟩) (c3:codeIn K R_ "law"=true) (k3:keepIn K (.ref f3)=true) :
  ∃fd:ab5,(∀(s:aa1) (v:Value),BindsTo s fd ⟨[v],[]⟩ [("_law_script",v)])/\∀base:Heap,K.In base->base.Ns aa4 mg->jP l.prog w K mg base zp 31 fa fd ["_law_script"] (CO K):=by
 have e:=Ξ.symm.trans (bq X G a3)
 cases e
 have F3:=Ae (st:=fw 84) l3 c3 k3
 refine⟨fnOf "law" "law" (gG (fw 84)) (cJ (fw 84)) (aQ (fw 84)) .none kV3 dc3 pm3 an3 R_ ct3,λs v=>.of_eq rfl,λbase _ _=>?_⟩
 have B:Lk (Lx (caF C1 C2 C3 CS)) ⟨l.prog,w,K,mg,base⟩:=Xl T Z V
 have D9:=zO B S (x6 B S 4)
 have Y9:=FO B S
 have Za:=DC B S (ic B S 2 [(8,fc)] ⟨(jJ B S),trivial⟩)
 have Zb:=uF B S (ic B S 1 [(6,aE)] ⟨(iY B S),trivial⟩)
 have n_:=oQ B S (ic B S 4 [(18,ef),(19,isList)] ⟨Y9.up rfl,Za,trivial⟩) Y9 Za
 have o_:=oP B S (ic B S 3 [(20,cO)] ⟨Zb,trivial⟩) Zb
 have Vx:=sT B S 5 (xX B S D9 5)
 have D4:=DF B S (sS B S 5)
 have p_:=wm B S Vx (K3 B M0 V.m)
 have Vw:=wq B S n_ o_ p_ D4
 have L38:=xY B S 4
 have L46:=QM B S
 have L47:=KY B S (zQ B S 1 [(36,fc)] ⟨(mD B S),trivial⟩)
 have L48:=QO B S (zQ B S 1 [(35,aE)] ⟨(rF B S),trivial⟩)
 have L41:=FP B S 5 (FQ B S L38 5)
 have L51:=KW B S (zQ B S 3 [(46,ef),(47,isList),(48,cO)] ⟨L46,L47,L48,trivial⟩) L46 L47 L48 (DE B S) L41 (BG B S 5)
 have t_:=FN B S 3
 have G34:=K2 B S (KZ B S) t_ (BH B S t_ (K1 B S t_) 4)
 have G40:=x5 B S (V5 B S) 20 (by decide)
 have T53:=QP Z Vw ((Fg.KU ⟨T.cG,T.kX⟩ Z S.s82).mono (by decide)) S
 exact(V2 B F3 (QL B S) (K4 B S) (lU B S) G34 G40 L51 T53).imp λvs H Q E h=>RY h
theorem Uo(X:K.In h)(G:h.Ns aa4 mg){t0 t1 t2 t3 t4 t5 t6 t7 t8 t9 t10:Tok}
  (z0:nsIn K aa4 "len"=some none) (z1:nsIn K aa4 "isinstance"=some none) (z2:nsIn K aa4 "all"=some none) (z3:nsIn K aa4 "zip"=some none) (z4:nsIn K aa4 "range"=some none) (z5:nsIn K aa4 "list"=some none) (z6:nsIn K aa4 "tuple"=some none) (z7:nsIn K aa4 "str"=some none) (z8:nsIn K aa4 "int"=some none) (z9:nsIn K aa4 "bool"=some none) (z10:nsIn K aa4 "set"=some none) (z11:nsIn K aa4 "dict"=some none) (z12:nsIn K aa4 "ValueError"=some none) (z13:nsIn K aa4 "max"=some none) (z14:nsIn K aa4 "min"=some none)
  (m0:nsIn K aa4 "MOST_LETTERS"=some (some (.int 6 t0))) (m1:nsIn K aa4 "GREATEST"=some (some (.int 999999 t1))) (m2:nsIn K aa4 "DEEPEST"=some (some (.int 4 t2))) (m3:nsIn K aa4 "NO_ROW"=some (some (.int (-1) t3))) (m4:nsIn K aa4 "MOST_BOXES"=some (some (.int 6 t4))) (m5:nsIn K aa4 "MOST_LISTS"=some (some (.int 3 t5))) (m6:nsIn K aa4 "MOST_THINGS"=some (some (.int 12 t6))) (m7:nsIn K aa4 "MOST_FUNCTIONS"=some (some (.int 4 t7))) (m8:nsIn K aa4 "MOST_NAMES"=some (some (.int 3 t8))) (m9:nsIn K aa4 "DEEPEST_ROW"=some (some (.int 5 t9))) (m10:nsIn K aa4 "MOST_NUMBERS"=some (some (.int 60 t10))) {av ar:Addr}
  (mv:nsIn K aa4 "VALUE_FORMS"=some (some (.ref av))) (mr:nsIn K aa4 "ROW_FORMS"=some (some (.ref ar))) (tv:qP w K av OL) (tr:qP w K ar IL):Txt w K mg:=
 ⟨bM X G z0,bM X G z1,bM X G z2,bM X G z3,bM X G z4,bM X G z5,bM X G z6,bM X G z7,bM X G z8,bM X G z9,bM X G z10,bM X G z11,bM X G z12,bM X G z13,bM X G z14,⟨_,bq X G m0⟩,⟨_,bq X G m1⟩,⟨_,bq X G m2⟩,⟨_,bq X G m3⟩,⟨_,bq X G m4⟩,⟨_,bq X G m5⟩,⟨_,bq X G m6⟩,⟨_,bq X G m7⟩,⟨_,bq X G m8⟩,⟨_,bq X G m9⟩,⟨_,bq X G m10⟩,⟨av,bq X G mv,tv⟩,⟨ar,bq X G mr,tr⟩⟩
theorem G0{v:Value}:kitOne K v v=some true:=by unfold kitOne;rw[bF (fH _)]
theorem L8{D:Addr}{b:Bool}(c:clsIn K D=some cd)(t:typeIn K (.ref D)=some (.type "type"))(s:subIn K (.ref C) (.ref D)=some b)(d:(Value.ref C == Value.ref D)=false):kitOne K (.ref C) (.ref D)=some b:=by
 unfold kitOne kitCls
 rw[bJ (by rw[d];exact aH)]
 dsimp only
 rw[bF (by rw[c,t];rfl)]
 exact s
theorem RV(s:subIn K (.ref C) (.type "ValueError")=some true):kitOne K (.ref C) (.type "ValueError")=some true:=by
 unfold kitOne kitCls
 rw[bJ (show ¬ ((Value.ref C == Value.type "ValueError")=true) from aH)]
 dsimp only
 rw[bF (by decide +kernel)]
 exact s
theorem DM{a g:Value}{name:Str}(hc:clsIn K C=some cd)(ha:findIn K (.ref C) name=some (some a))(hg:specialIn K a "__get__"=some (some g))(ht:takesIn K a=some true):findObj K C none name=some (.bind g a):=by
 unfold findObj
 rw[hc,Option.bind_some,ha,Option.bind_some]
 simp[hg,ht]
theorem Sv{L:List Addr}{bs:List Bool}(b2:specialIn K (.builtin "object.__class__") "__get__"=some (some (.builtin "getset_descriptor.__get__")))(b3:takesIn K (.builtin "object.__class__")=some true)(c:clsIn K C=some cd)(e:excIn K C Hg "ValueError.__new__"=true)(a1:findIn K (.ref C) "__getattribute__"=some (some (.builtin "BaseException.__getattribute__")))(a2:findIn K (.ref C) "__getattr__"=some none)(b1:findIn K (.ref C) "__class__"=some (some (.builtin "object.__class__")))(a4:mroIn K C (.type "object")=some true)(a5:subIn K (.ref C) (.type "BaseException")=some true)(su:subIn K (.ref C) (.ref R)=some true)(sv:subIn K (.ref C) (.type "ValueError")=some true)(q:Paired (λD b=>kitOne K (.ref C) (.ref D)=some b) L bs):Fg.One K R C L bs:=
 ⟨e,⟨a1,a2,DM c b1 b2 b3,a4,a5⟩,by rw[c];rfl,su,RV sv,q⟩
theorem QT{cdR:ClassData}(X:K.In h)(G:h.Ns aa4 mg)(n0:nsIn K aa4 "RunError"=some (some (.ref R)))(n1:nsIn K aa4 "NoProgram"=some (some (.ref C1)))(n2:nsIn K aa4 "NoRow"=some (some (.ref C2)))(n3:nsIn K aa4 "TooLong"=some (some (.ref C3)))(n4:nsIn K aa4 "NoWorld"=some (some (.ref C4)))(n5:nsIn K aa4 "NoText"=some (some (.ref C5)))(n6:nsIn K aa4 "NoStep"=some (some (.ref C6)))(n7:nsIn K aa4 "NoCell"=some (some (.ref C7)))(n8:nsIn K aa4 "NoDoor"=some (some (.ref C8)))(n9:nsIn K aa4 "NoWord"=some (some (.ref C9)))(h1:typeIn K (.ref R)=some (.type "type"))(h2:clsIn K R=some cdR)(h3:subIn K (.ref R) (.type "BaseException")=some true)(o1:Fg.One K R C1 [C1,C2,C3,C4,C5,C6,C7,C8,C9] [true,false,false,false,false,false,false,false,false])(o2:Fg.One K R C2 [C1,C2,C3,C4,C5,C6,C7,C8,C9] [false,true,false,false,false,false,false,false,false])(o3:Fg.One K R C3 [C1,C2,C3,C4,C5,C6,C7,C8,C9] [false,false,true,false,false,false,false,false,false]):Fg.VA K mg R C1 C2 C3 C4 C5 C6 C7 C8 C9:=
 ⟨bq X G n0,bq X G n1,bq X G n2,bq X G n3,bq X G n4,bq X G n5,bq X G n6,bq X G n7,bq X G n8,bq X G n9,⟨h1,by rw[h2];rfl,h3⟩,o1,o2,o3⟩
theorem TU(X:K.In h)(G:h.Ns aa4 mg)(m:nsIn K aa4 "Scope"=some (some (.ref C)))(pg:plainGet K C Str.empty=true)(hd:hasDictIn K C=true)(po:plainOver K C=true)(sa:findIn K (.ref C) "__setattr__"=some (some (.builtin "object.__setattr__")))(n0:findIn K (.ref C) "boxes"=some none)(n1:findIn K (.ref C) "lists"=some none)(n2:findIn K (.ref C) "param_counts"=some none)(n3:findIn K (.ref C) "may_return"=some none):C_ K mg C:=⟨bq X G m,⟨pg,hd,po,sa⟩,n0,n1,n2,n3⟩
theorem walk{q:ab0}{loose:lS7}{XP:(mG7)->Heap->Prop}{YP:ab1->Heap->Prop}{d:DefRec}{K:Params->Frag}(hn:l.most=some 63)(WE:d.params.defaults = [])
  (hY:∀(w:ab1) (h:Heap),YP w h->(K w.params).In h)
  (F:∀(w:ab1) (mg:mG7) (fa:Addr) (h:Heap),(K w.params).In h->h.Ns aa4 mg->mg d.name=some (.ref fa) ->
   ∃fd:ab5,(∀(s:aa1) (u:Value),BindsTo s fd ⟨[u],[]⟩ [("_law_script",u)])/\∀base:Heap,(K w.params).In base->base.Ns aa4 mg->jP l.prog w (K w.params) mg base zp 31 fa fd ["_law_script"] (CO (K w.params))) :
  WalkO q loose XP YP l.row.toRowW d [] (λf vs=>PySem.call f vs):=
 L2.Ol (n:=63) (k:=31) (x:="_law_script") (CX:=λ_=>zp) (sp:=λw=>CO (K w.params)) hn (by decide) WE ⟨rfl,by decide,by decide⟩ hY F (λ_ _ a ns hl _ hS=>⟨a,ns,rfl,hS,λ_=>rfl⟩) λ_ _ _ _ _ z=>z
end W2
open PySem PySem.W PyProof.Rows
namespace PySem.W.Fast
def tw15393746353242611016:=0
def tw14642783142969127814:=0
def tw17074468033438780167:=0
def tw5906836410352210123:=0
def tw7670514227325525505:=0
def tw7914133092868747526:=0
def tw15771426944781267856:=0
def tw2172498578262497353:=0
def tw8310342571267175253:=0
def tw5278782185551646727:=0
def tw17828365364155553081:=0
def tw16552763763103723369:=0
def tw6677737746732108328:=0
def tw879954986994952223:=0
def tw10164747031558891180:=0
def tw4190535916598980881:=0
def tw1608610604603316876:=0
def tw206419814087759061:=0
def tw175687323473420248:=0
def tw14768692649837534940:=0
def tw2310630357117861789:=0
def tw13530139525341552803:=0
def tw4316293368085748776:=0
def tw2426960014607039355:=0
def tw10579116253470783542:=0
def tw18142841497893671173:=0
def tw10711253114509879118:=0
def tw2959772303952818870:=0
def tw12579051819426162808:=0
def tw4665880107576471069:=0
def tw3098082509483004803:=0
def tw1400897291768553663:=0
def tw4282259619299336275:=0
def tw16760665523248942206:=0
def tw3641679733659415349:=0
def tw2405101526693041981:=0
def tw3089046929456997300:=0
def tw7070875012741787:=0
def tw17173796778427550085:=0
def tw4116280500510236889:=0
def tw4545879283259639226:=0
def tw15891097012536880069:=0
def tw16782652347726502000:=0
def tw10213231432654140138:=0
def tw7830420362848186648:=0
def tw9391520551268764370:=0
def tw4004768512235788337:=0
def tw9541125377235246047:=0
def tw4631439499100516288:=0
def tw5783368484551457710:=0
def tw15528218383425481337:=0
def tw3962417822246288494:=0
def tw1505820527981061641:=0
def tw14048908938178495362:=0
def tw9919546083071726160:=0
def tw2274951945389091323:=0
def tw158745101611631275:=0
def tw8156522908576627588:=0
def tw18310469508250395597:=0
def tw924198549127189562:=0
def tw15815629666608698630:=0
def tw2813712599902245952:=0
def tw2692313810229389352:=0
def tw3204702673630869841:=0
def tw13591340436746858870:=0
def tw2807388969471061529:=0
def tw11866490393202389875:=0
def tw17354671969312601513:=0
def tw6689844933471027033:=0
def tw1464979497163387902:=0
def tw16357836829992558113:=0
def tw13173743014400042306:=0
def tw17974457100963109767:=0
def tw12565959553190840903:=0
def tw16653266773617884774:=0
def tw12320705200755241729:=0
def tw14988465333770424824:=0
def tw10750630039260729680:=0
def tw12737967002600622619:=0
def tw14551396623190184978:=0
def tw10739737892505529204:=0
def tw1768774834790219025:=0
def tw12679830478795587114:=0
def tw10305070759110124496:=0
def tw834415616449575892:=0
def tw3055581627648507300:=0
def tw13896780428413228738:=0
def tw14392639388820913257:=0
def tw3750319362951523942:=0
def tw9219519323212944850:=0
def tw223029193018718237:=0
def tw14218325311685425864:=0
def tw5433754861351919299:=0
def tw1047047897022965607:=0
def tw17558755419819981941:=0
def tw18323598472824637447:=0
def tw10568743299205042771:=0
def tw2474873901816581226:=0
def tw1445875283887416217:=0
def tw3668794497052251805:=0
def tw12109749567611113790:=0
def tw2480202555025022796:=0
def tw12761581432199655889:=0
def tw5553750879968294131:=0
def tw6410378374858230473:=0
def tw13899115840087908475:=0
def tw9478691188903871332:=0
def tw4413081594369126555:=0
def tw7995074508472665517:=0
def tw7177123308241300058:=0
def tw6373846326506925082:=0
def tw254433124420951112:=0
def tw1130286564896555053:=0
def tw6325857148822040505:=0
def tw1413005521256983309:=0
def tw6695271871607092112:=0
def tw556027827154263473:=0
def tw3111811712297777393:=0
def tw11337370169320563458:=0
def tw8567273949838773741:=0
def tw8715690694538695098:=0
def tw5892938083051974628:=0
def tw17624595474647736960:=0
def tw791477868491096892:=0
def tw12124101761256540599:=0
def tw10044522999695923761:=0
def tw3472053746730259701:=0
def tw18361914261566987425:=0
def tw2008368491584800776:=0
def tw15513535428781347615:=0
def tw16161955449518481250:=0
def tw16802217638787546783:=0
def tw300220644089470628:=0
def tw677510195378846632:=0
def tw3649957420877338788:=0
def tw1394496356568693560:=0
def tw14661873127805272906:=0
def tw16137235466948356273:=0
def tw9408957559609130674:=0
def tw4080257221110731460:=0
def tw6743140182983886762:=0
def tw14601746584785754708:=0
def tw9567921650751788102:=0
def tw15267943421470134618:=0
def tw16080116723834697208:=0
def tw13545282189302891999:=0
def tw8311032075567370612:=0
def tw6714592978627897027:=0
def tw16156364598415379984:=0
def tw2243336416379833530:=0
def tw1860643501133173924:=0
def tw5743073230656184112:=0
def tw15584068136555833259:=0
def tw7163997301797674779:=0
def tw6207763253786755137:=0
def tw4222907049225418181:=0
def tw7703568190954061257:=0
def tw124467810646732449:=0
def tw16202797269681786389:=0
def tw9131442280131376885:=0
def tw6967870154661788683:=0
def tw390927827238762838:=0
def tw15094578873433765648:=0
def tw16107669675216047644:=0
def tw5397203011419355046:=0
def tw9290933656260378747:=0
def tw7367527209799142679:=0
def tw6705355455860315339:=0
def tw6249502008028249802:=0
def tw5362073464515623712:=0
def tw18333078473713736445:=0
def tw17441773210190171707:=0
def tw8699416628214954808:=0
def tw279358325777471410:=0
def tw9116932642127140026:=0
def tw2548115767617608731:=0
def tw6871270415185230461:=0
def tw17013496624949594224:=0
def tw16483343632184270009:=0
def tw9014657210425889352:=0
def tw17038764716344819170:=0
def tw12007223432330413667:=0
def tw11501705892055308830:=0
def tw9431798684506375239:=0
def tw5791068229136937681:=0
def tw13591528786129600722:=0
def tw13344579560395773210:=0
def tw17673022601555007478:=0
def tw13380559358411940481:=0
def tw6450837033280079283:=0
def tw13798090118819855709:=0
end PySem.W.Fast
set_option maxRecDepth 100000 in
set_option maxHeartbeats 0 in
theorem PySem.Challenge.cw_retrace_k02_programs_refused_holds : PySem.Challenge.rw_retrace_k02_programs_refused.Holds := by
 w_on;o_law;k_head;(case hw=>w_witness2)
 k_fill
 refine W2.walk (l:=PySem.Challenge.rw_retrace_k02_programs_refused) rfl rfl (λw h Y=>kIn_of Y) ?F
 case F=>
  intro w mg fa h KX G WL
  refine' W2.RX KX G WL ?T ?Z ?V ?M0 ⟨?S14,?S15,?S16,?S17,?S20,?S21,?S26,?S27,?S28,?S29,?S30,?S31,?S41,?S42,?S43,?S44,?S45,?S46,?S47,?S48,?S49,?S50,?S51,?S52,?S53,?S54,?S55,?S57,?S58,?S59,?S60,?S61,?S62,?S63,?S64,?S65,?S66,?S67,?S68,?S69,?S70,?S71,?S72,?S73,?S74,?S75,?S76,?S77,?S78,?S79,?S80,?S81,?S82,?S83⟩ ?a3 ?l3 ?c3 ?k3
  (case a3|l3|c3|k3=>k_is)
  (case V=>refine' W2.TU KX G ?m ?pg ?hd ?po ?sa ?n0 ?n1 ?n2 ?n3;(case m=>k_is);(case pg=>k_is);(case hd=>k_is);(case po=>k_is);(case sa=>k_is);(case n0=>k_is);(case n1=>k_is);(case n2=>k_is);(case n3=>k_is))
  (case M0=>refine' W2.NO W2.bm0 ?a ?i ?l ?c ?k ?mk ?kc;(case a=>k_is);(case i=>k_is);(case l=>k_is);(case c=>k_is);(case k=>k_is);(case mk=>k_is);(case kc=>k_is))
  (case S14|S15|S16|S17|S20|S21|S26|S27|S28|S29|S30|S31|S41|S42|S43|S44|S45|S46|S47|S48|S49|S50|S51|S52|S53|S54|S55|S57|S58|S59|S60|S61|S62|S63|S64|S65|S66|S67|S68|S69|S70|S71|S72|S73|S74|S75|S76|S77|S78|S79|S80|S81|S82|S83=>refine' W2.T7 KX G (by decide) (λ_ _ _ _ _ _ _ _ _ _ _=>rfl) ?a ?l ?c ?k;(case a|l|c|k=>k_is))
  (case T=>
   refine' W2.Uo KX G ?z0 ?z1 ?z2 ?z3 ?z4 ?z5 ?z6 ?z7 ?z8 ?z9 ?z10 ?z11 ?z12 ?z13 ?z14 ?m0 ?m1 ?m2 ?m3 ?m4 ?m5 ?m6 ?m7 ?m8 ?m9 ?m10 ?mv ?mr ?tv ?tr
   (case z0|z1|z2|z3|z4|z5|z6|z7|z8|z9|z10|z11|z12|z13|z14|m0|m1|m2|m3|m4|m5|m6|m7|m8|m9|m10|mv|mr=>k_is)
   (case tv=>refine' W2.Js ?tl ?to ?tq;(case tl=>k_is);(case to=>decide);(case tq=>(repeat (refine' W2.rkc ?ke ?kl ?kc ?kd ?kz ?kv ?_;(case ke=>rfl);(case kl=>k_is);(case kc|kd=>rfl);(case kz=>decide);(case kv=>repeat (first|exact .nil|refine .cons ⟨_,rfl⟩ ?_))));exact trivial))
   (case tr=>refine' W2.Js ?tl ?to ?tq;(case tl=>k_is);(case to=>decide);(case tq=>(repeat (refine' W2.rkc ?ke ?kl ?kc ?kd ?kz ?kv ?_;(case ke=>rfl);(case kl=>k_is);(case kc|kd=>rfl);(case kz=>decide);(case kv=>repeat (first|exact .nil|refine .cons ⟨_,rfl⟩ ?_))));exact trivial)))
  (case Z=>
   refine' W2.QT KX G ?n0 ?n1 ?n2 ?n3 ?n4 ?n5 ?n6 ?n7 ?n8 ?n9 ?h1 ?h2 ?h3 ?o1 ?o2 ?o3
   (case n0|n1|n2|n3|n4|n5|n6|n7|n8|n9|h1|h2|h3=>k_is)
   (case o1|o2|o3=>refine' W2.Sv ?b2 ?b3 ?c1 ?e1x ?a1x ?a2x ?b1x ?a4x ?a5x ?sux ?svx ?kkx;(case b2|b3|c1|a1x|a2x|b1x|a4x|a5x|sux|svx=>k_is);(case e1x=>k_exc);(case kkx=>(repeat (first|refine' .cons W2.G0 ?_|(refine' .cons (W2.L8 ?c2 ?t2 ?s2x ?d2x) ?_;(case c2|t2|s2x=>k_is);(case d2x=>decide))));exact .nil)))
