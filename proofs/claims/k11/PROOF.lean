import PyProof.Rows.All
import Wide.All
import OpenK.AllK
import Wide.FinOn
import Lean
import PyProof.EqAt
import PyProof.EqKinds
import PyProof.TupleCall
import PySem.Challenge.RW_retrace_k11_whole_read_back
set_option genSizeOf false
set_option compiler.extract_closed false
set_option bootstrap.genMatcherCode false
set_option Elab.async false
set_option linter.all false
set_option autoImplicit true
set_option maxHeartbeats 4000000
set_option maxRecDepth 100000
open PySem renaming Shared→be,mainGlobals→dr,wpAny→bv,Program→cr,model→ce,World→cf,Around→c9,bootBuiltins→d4,starEach→dt,FuncData→dV,behindInMarks→gi,rawInt→dL,foldedSetIterable→g5,attributeBase→gm,DictEntry→ft,noteFrame→eL,sysModules→ga,assignEach→gc,backTo→en,keywordEach→g_,holding→fy,swapsWith→gt,sliceBounds→hA
open List renaming length_append→aa,length_map→ae,length_cons→ag,all_eq_true→ai,getElem?_eq_some_iff→ak,mem_cons_of_mem→ao,map_append→aq,mem_cons_self→au,getElem?_set_ne→aB,append_assoc→aD,all_cons→aG,map_cons→aH,append_nil→aI,mem_cons→aK,getElem?_append_right→aM,getElem?_eq_getElem→aN,size_toArray→aP,mem_singleton→aV,all_append→aX,getElem?_append_left→aZ,mem_map→a0,length_set→a6,mem_of_getElem?→a7,mem_append_right→ba,mem_append→bf,map_map→bK,getElem?_map→bN,length_replicate→bR,length_take→bW,replicate_succ→b0,filter_append→b7,map_nil→b8,nodup_cons→cj,sum_cons→cm,flatten_cons→cx,filter_cons_of_pos→cD,length_range→cP,take_sublist→cQ,cons_lt_cons_iff→cU,length_eq_zero_iff→cX,take_length→cY,getElem?_set_self→dc,nodup_append→de,getElem?_cons_succ→dJ,length_reverse→dX,take_succ_cons→dY,all_map→eh,take_of_length_le→eo,reverse_cons→eV,getElem?_replicate→fB,length_drop→fC,lookup_cons→fD,nodup_nil→fE,take_zero→fF,getElem_cons_drop→fT,take_append_drop→gE,mem_append_left→g6,cons_append→hJ,getElem_mem→hU,filterMap_cons→iz,getElem?_take_of_lt→iM,find?_cons→iU,filter_cons_of_neg→jn,drop_zero→jG,contains_iff_mem→ko,getElem?_eq_none→kq,drop_length→ky,getElem_inj→kA,any_cons→kR,dropLast_concat→kU,mem_of_mem_take→kW,nil_append→lS,map_congr_left→lZ,take_sublist_take_left→l7,mem_filterMap→nW,mem_replicate→nX,getElem?_eq_none_iff→oF,append_cancel_left→qu,getElem?_cons_zero→qv,not_mem_nil→qw,filter_eq_nil_iff→sd,forIn_cons→sO,mem_filter→sQ,getElem?_toArray→tR,forIn_nil→vM,getElem?_of_mem→vN,mem_range→vO,getElem?_range→xC,replicate_zero→xD,map_replicate→zO,drop_sublist→BP,set_set→BQ,flatten_nil→GO,map_id→IS,length_nil→Jl,of_mem_zip→Jn,set_append→Jo,drop_drop→Oc,take_left→Od,length_erase_of_mem→U3,append_eq_nil_iff→t_,drop_of_length_le→u_,find?_cons_of_neg→v_,find?_cons_of_pos→w_,length_pos_of_mem→x_,dropLast_cons₂→Go,mem_erase_of_ne→sB,mem_iff_getElem→x4,filter_eq_self→wE
open PySem renaming wpAny_bind→aj,wpAny_pure→aJ,wpAny_field→bP,wpAny_callSpecial?_slot→dN,wpAny_newObj_type→dO,wpAny_truthy_bool→dP,wpAny_holding→eC,wpAny_mono→fe,wpAny_seqItems→fJ,wpAny_Call_Name_kw→fX,wpAny_setField_rec→fY,wpAny_passesOwn→gA,wpAny_setField→g7,wpAny_call_entry→hV,mem_of_lookup→iA,codeAny_builtin→iW,call_meets→iY,wpAny_rule→jc,wpAny_getItem_str_slice→jq,strKind_is→kC,wpAny_execs_nil→lT,codeAny_mono→md,wpAny_pyIter_list→o7,wpAny_getItem_of→qB,typeIs_str→sj,wpAny_typeOf→su,post_val_or_str→sS,sizeLine_eq→vQ,wpAny_updateSeq_pair→vR,plainId_quiet→zD,wpAny_onRaise→zE,tupleKind_room_in1→zQ,wpAny_pyIter_tuple→zR,noFill_tuple_add→GR,seq_tuple_add→U5,wpAny_standAt→U6,concat_meets→B_,seqIndex_neg→C_,wpAny_Call_method_late→D_,wpAny_pyNext_list_item→E_,wpAny_isTrue_Compare1→vx,wpAny_pyNext_list_end→tt,seqIndex_of→rz,wpAny_letGo→ng
open Nat renaming eq_of_beq_eq_true→ax,le_refl→ay,le_trans→aE,le_of_ble_eq_true→bj,lt_of_lt_of_le→bu,zero_le→bA,ne_of_lt→bG,lt_irrefl→cI,le_add_right→cZ,sub_self→dD,one_le_two_pow→eH,lt_succ_self→fG,succ_le_succ→fH,beq_refl→fU,pow_succ→fV,le_of_succ_le_succ→jH,ble_eq_true_of_le→kr,le_of_eq→l8,ne_of_gt→l9,min_le_right→qx,lt_of_le_of_lt→zP,lt_succ_of_lt→BR,min_eq_right→GQ,min_eq_left→Jp,add_le_add→Oe,le_of_lt→y_,pow_le_pow_right→Fp
open PySem.Heap renaming get?_push_of_some→aA,lt_size→aU,get?_push_size→a5,get?_update_other→b6,get?_update_self→cS,size_push→gZ,size_after_update→s_
open Bool renaming false_ne_true→aL,and_eq_true→aO,eq_false_iff→a8,or_eq_true→cH,eq_iff_iff→gq,false_bne→jF,beq_eq_decide_eq→km,or_true→l6,false_eq_true→nV,true_bne→ph,and_true→zA,or_false→zB,true_and→zC,and_false→N9,or_eq_false_iff→QD
open PySem.W renaming mg_of→bw,mg_none_of→bS,kia_one→cK,mapOf_K→iV,callWith_K→nY,plainGet_of→xE,cellsFrom_some→z_,callWith_K0→CU
open Array renaming length_toList→bU,getElem?_eq_some_iff→eG,toList_append→xy,find?_toList→zN,getElem?_toList→FS
open Ne renaming symm→bX
open Option renaming isSome_iff_exists→cq,map_some→sR
open PyProof.Rows renaming slot_tuple_getitem→cF,subscriptTail_builtinR→fW,gl_int→iZ,take_snoc→kD,callWith_type1→ma,vals1→o6,strs_map→qA,Constant_none→UZ,split_le→IN,entry_tuple_getitem→wh
open Option.some renaming inj→cJ
open Int renaming eq_ofNat_of_zero_le→cW,ofNat_eq_natCast→eU,toNat_natCast→gJ,emod_lt_of_pos→iX,emod_nonneg→lR,toNat_of_nonneg→xB
open PySem.Obj renaming data_mapFields→dB,isFreed_of_fields→gF
open PySem.Heap.SameBut renaming update→fu
open PySem.Around renaming under_plainId→gX
open PySem.F renaming slot_tuple_iterator_next→gY,slot_dict_getitem→iq,slot_str_split→jI,slot_list_getattribute→pj,args_str_split_2→pq,args_tuple_add_2→pz,entry_str_split→qy,entry_tuple_add→qz,plainAttrs_str→sg,slot_tuple_add→si,slot_zip_next→sM,args_tuple_iterator_next_1→Jk,entry_tuple_iterator_next→NQ,slot_tuple_index→U4,plainAttrs_list→ZO,slot_dict_get→Db
open PySem.Str renaming cps_append→jJ
open LawfulBEq renaming eq_of_beq→kB
open PyProof.Rows.F renaming plain_set_update_loop→qt,entry_set_update_loop→ZN
open PySem.Calls renaming callWith_builtin→r9,evalArgs_plain→vL,Name_function_global→Oa
open PySem.Value renaming isStrOf_shape→xF
open PySem.Txt renaming slice_le→BS
open UInt32 renaming le_iff_toNat_le→A_
theorem f8(h:True:=by rfl):True:=h
def o0:Lean.Syntax:=f8._auto_1
theorem u8(h:True:=by decide):True:=h
def W1:Lean.Syntax:=u8._auto_1
theorem ag0(h:True:=by first|exact .inl rfl|exact .inr rfl|assumption):True:=h
def hF:Lean.Syntax:=ag0._auto_1
theorem ag6(h:True:=by decide+kernel):True:=h
def hG:Lean.Syntax:=ag6._auto_1
theorem ah1(h:True:=by intro _;rfl):True:=h
def hD:Lean.Syntax:=ah1._auto_1
open Option renaming some→O,none→af
open Bool renaming true→J,false→a'
local macro_rules|`(tactic|ext)=>`(tactic|decide+kernel)
open Nat renaming ble→aa4,beq→aa6,toDigits→af8
open List renaming replicate→aa5,range→ac7,length→ad1,lookup→ae8,filter→ag7,foldl→ah4
open PySem renaming intText?→aa7,strKind→ac3,Const→af6,Within→ah5
open PySem.Value renaming ref→aa8,none→ab0,isStrOf→ab5,int→af3,type→af4,str→af7,bool→af9
open Exists renaming intro→aa9
open PySem.Builtin.Str renaming occurrences→ab9,partsBetween→ad5
open PySem.NameKind renaming free→ac0,cell→ah0
open And renaming intro→ac1
open PySem.Data renaming noConfusion→ac2
open PySem.Txt renaming split→ac5,startswith→ac9,join→ae2,slice→ae9
open PySem.Str renaming join→ac6,ofString→ad6
open False renaming elim→ad0
open PySem.Heap renaming SameBut→ad2
open PySem.Builtin.Slice renaming slicePlaces→ad3,sliceAdjust→ae0,sliceApplied→af0
open PySem.Builtin.Tuple renaming tupleExact→ad4,tupleItemsOf→af1,tupleIsExact→af2
open PySem.Obj renaming mapFields→ad7,putSet→af5,mapSeq→ag4
open PySem.SetTable renaming grown→ad8
open ForInStep renaming yield→ad9
open PySem.PyData renaming keyHash→ae1
open True renaming intro→ae3
open PySem.Builtin.List renaming listTooLong→ae5
open Char renaming toNat→ag5
open Sum renaming inl→ah2,inr→ah3
open PySem PySem.Spec PyProof.Rows
noncomputable section
local macro_rules|`(($x,$xs,*))=>`(⟨$x,$xs,*⟩)
local macro_rules|`(tactic|have($x,$xs,*):=$t)=>do let p←(#[x]++xs.getElems).mapM fun|⟨y⟩=>if y.isIdent then `(Lean.Parser.Tactic.rcasesPatLo|$(⟨y⟩):ident) else `(Lean.Parser.Tactic.rcasesPatLo|_);`(tactic|obtain⟨$p,*⟩:=$t)
abbrev dA:=PySem.Value->PySem.Shared->Prop
open PySem.Builtin.SmallTypes renaming nextOf→q0',ownedTupleHandOut→q1',ownedTupleIsFree→q2'
abbrev cp:=List (PySem.Addr×PySem.Obj)
abbrev ϐ:=List PySem.Str
abbrev Ϙ:=List Nat
abbrev db:=PySem.Str->Option PySem.Value
section
def aW:=@of_decide_eq_true
def a9:=@decide_eq_true
def bg:=@decide_eq_false
def bI:=@if_pos
def bL:=@if_neg
def b3:=@beq_eq_false_iff_ne
def cy:=@congrArg
def dM:=@decide_eq_true_eq
def fI:=@beq_self_eq_true
def me:=@if_true
def nZ:=@beq_iff_eq
def vP:=@if_false
def xG:=@ne_true_of_eq_false
end
open PySem.W(instObj methodObj Frag lookIn plainGet hasDictIn findIn handedIn isFn plainOver takerIn Looks makesIn typeIn emptyDict keepIn mroIn kitOne fnOf codeIn OpenLaw WalkO KeysLit excIn nsIn)
namespace L2
abbrev cv:=Sum Int Str
def xa:cv->Value->Bool|.inl k,v=>Value.isInt k v|.inr x,v=>ab5 x v
noncomputable def agH(w:cf):cv->Int|.inl k=>hashInt k|.inr x=>hashStr w x
def dU:∀{k:cv}{v:Value},xa k v=J->(∃i t,k=ah2 i/\v=af3 i t)\/∃x t,k=ah3 x/\v=af7 x t|.inl i,v,h=>by have(t,e):=Value.isInt_shape (k:=i) (v:=v) h;exact .inl (i,t,rfl,e)|.inr x,v,h=>by have(t,e):=xF (x:=x) (v:=v) h;exact .inr (x,t,rfl,e)
def HE(i:Int)(t:Tok):xa (.inl i) (.int i t)=true:=by simp[xa,Value.isInt]
def HF(x:Str)(t:Tok):xa (.inr x) (.str x t)=true:=by simp[xa,ab5]
def Xi(a b:Int):decide ((ah2 a:cv)=ah2 b)=(a==b):=by
 by_cases e:a=b;.subst e;simp
 .have h:¬(ah2 a:cv)=ah2 b:=λq=>e (Sum.inl.inj q);rw[bg h];exact(b3.mpr e).symm
def Xm(a b:Str):decide ((ah3 a:cv)=ah3 b)=decide (a=b):=by
 by_cases e:a=b;.subst e;simp
 .have h:¬(ah3 a:cv)=ah3 b:=λq=>e (Sum.inr.inj q);rw[bg h,bg e]
def Xj(a:Int)(b:Str):decide ((ah2 a:cv)=ah3 b)=false:=bg λq=>nomatch q
def Xl(a:Str)(b:Int):decide ((ah3 a:cv)=ah2 b)=false:=bg λq=>nomatch q
def eY(prog:cr)(w:cf):PySem.KeyKind prog w cv where
 is:=xa;hash:=agH w;inj:=λv a b d c=>by
  rcases dU d with ⟨i,t,rfl,rfl⟩|⟨x,t,rfl,rfl⟩
  .rcases dU c with ⟨j,u,rfl,e⟩|⟨y,u,rfl,e⟩;.injection e with E _;rw[E]
   .exact nomatch e
  .rcases dU c with ⟨j,u,rfl,e⟩|⟨y,u,rfl,e⟩;.exact nomatch e
   .injection e with E _;rw[E]
 byValue:=λk v h=>by rcases dU h with ⟨i,t,rfl,rfl⟩|⟨x,t,rfl,rfl⟩<;>rfl
 pyHash:=λH h=>by
  rcases dU H with ⟨i,t,rfl,rfl⟩|⟨x,t,rfl,rfl⟩;.exact wpAny_pyHash_int h
  .exact wpAny_pyHash_str h
 eqBool:=λhu H h=>by
  rcases dU hu with ⟨i,t,rfl,rfl⟩|⟨x,t,rfl,rfl⟩
  .rcases dU H with ⟨j,u,rfl,rfl⟩|⟨y,u,rfl,rfl⟩;.rw[Xi]at h;exact wpAny_eqBool_int h
   .rw[Xj]at h;exact SeqAt.EqAt.int_str i t y u _ _ _ _ h
  .rcases dU H with ⟨j,u,rfl,rfl⟩|⟨y,u,rfl,rfl⟩;.rw[Xl]at h;exact SeqAt.EqAt.str_int x t j u _ _ _ _ h
   .rw[Xm]at h;exact wpAny_eqBool_str h
 «strs»:=λk x t v h=>by
  rcases dU h with ⟨i,u,rfl,e⟩|⟨y,u,rfl,e⟩;.exact nomatch e
  .injection e with E _;subst E;cases v<;>rfl
def rO(prog:cr)(w:cf)(i:Int)(t:Tok):(eY prog w).is (.inl i) (.int i t)=true:=HE i t
def rP(prog:cr)(w:cf)(x:Str)(t:Tok):(eY prog w).is (.inr x) (.str x t)=true:=HF x t
inductive V where|non|bl(b:Bool)|int(i:Int)|str(x:Str)|Z1(b:Array UInt8)|Po(b:UInt64)|ref(a:Addr)|ty(n:String)deriving DecidableEq
abbrev ϕ:=List V
def RelV:V->Value->Prop|.non,u=>u=ab0|.bl b,u=>u=af9 b|.int i,u=>∃t,u=af3 i t|.str x,u=>∃t,u=af7 x t|.Z1 b,u=>∃t,u=Value.bytes b t|.Po b,u=>∃t,u=Value.float b t|.ref a,u=>u=aa8 a|.ty n,u=>u=af4 n
abbrev Vals:ϕ->List Value->Prop:=Paired RelV
theorem Vals.length(r:Vals xs us):xs.length=us.length:=Paired.length r
theorem Vals.get:∀{xs:ϕ}{us:List Value}{i:Nat}{x:V},Vals xs us->xs[i]?=O x->∃u,us[i]?=O u/\RelV x u|_,_,_,_,.nil,e=>by simp at e|_,_,0,_,.cons r _,e=>by simp at e;subst e;exact(_,rfl,r)|_,_,i+1,x,.cons _ t,e=>by have(u,h,H):=Vals.get (i:=i) (x:=x) t (by simpa using e);exact(u,by simpa using h,H)
theorem Vals.set(r:RelV x u):∀{xs:ϕ}{us:List Value}(i:Nat),Vals xs us->Vals (xs.set i x) (us.set i u)|_,_,_,.nil=>.nil|_,_,0,.cons _ t=>.cons r t|_,_,i+1,.cons q t=>.cons q (Vals.set r i t)
def Vals.append:∀{xs ys:ϕ}{us ws:List Value},Vals xs us->Vals ys ws->Vals (xs++ys) (us++ws):=by intro xs ys us ws a b;induction a with|nil=>exact b|cons r t i=>exact .cons r i
theorem Vals.take:∀{xs:ϕ}{us:List Value}(n:Nat),Vals xs us->Vals (xs.take n) (us.take n)|_,_,0,_=>.nil|_,_,_+1,.nil=>.nil|_,_,n+1,.cons r t=>.cons r (Vals.take n t)
theorem Vals.drop:∀{xs:ϕ}{us:List Value}(n:Nat),Vals xs us->Vals (xs.drop n) (us.drop n)|_,_,0,r=>r|_,_,_+1,.nil=>.nil|_,_,n+1,.cons _ t=>Vals.drop n t
def n0:Option V->Option Value->Prop|some v,O u=>RelV v u|none,af=>True|_,_=>False
def KV{κ:Type}:List (κ×V)->List (κ×Value)->Prop:=Paired λ(p:κ×V)(q:κ×Value)=>p.1=q.1/\RelV p.2 q.2
noncomputable def kV:cv->V|.inl i=>.int i|.inr x=>.str x
inductive HO where|lst(xs:ϕ)|tup(xs:ϕ)|dK(bE:List (cv×V))|dT(bE:List (List cv×V))|set(S:Int->Bool)(n:Nat)|ins(C dx:Addr)(fs:List (Str×V))|own(x:Addr)|xd(fs:List (Str×V))|met(f x:Addr)|rng(lo hi:Int)|CK(o:Obj)(u:HO)|UU(ps:Array Value)|ext(φ:Heap->Prop)
abbrev Hp:=Addr->Option HO
noncomputable def dv(H:Hp)(a:Addr)(o:HO):Hp:=λb=>if b=a then O o else H b
def bQ:dv H a o a=O o:=by unfold dv;rw[bI rfl]
def bJ(h:b≠a):dv H a o b=H b:=by unfold dv;rw[bL h]
def bV{H:Hp}(h:H a=O o)(h':H b=af):a≠b:=by intro e;subst e;rw[h]at h';cases h'
section
variable(P:cr)(w:cf)
def eg(H:Hp)(h:Heap)(a:Addr):HO->Prop|.lst X=>X.length<=sizeLine/\∃(i:List Value)(n:Nat),Vals X i/\h.get? a=O {cls:=.type "list",data:=.seq i.toArray n}|.tup X=>X.length<=sizeLine/\∃i:List Value,Vals X i/\IsTup h a i.toArray|.dK b=>b.length<=sizeLine/\(a==ga)=a'/\∃s,KV b s/\h.DictOf (eY P w) a s|.dT b=>b.length<=sizeLine/\(a==ga)=a'/\∃X:List (List cv×Addr×Value),Paired (λ(p:List cv×V)(q:List cv×Addr×Value)=>p.1=q.1/\H q.2.1=O (.tup (p.1.map kV))/\RelV p.2 q.2.2) b X/\∃o e E,h.get? a=O o/\o.ExactDict/\o.data=.dict e E/\e.toList=X.map (entryOfKey (tupleKind (eY P w)))/\(X.map (·.1)).Nodup|.set S n=>h.SetOf (intKind P w) a S n|.ins C d fs=>H d=O (.own a)/\fs.length<=1000/\d≠a/\h.get? a=O (instObj C d)/\∃m,h.Ns1 d m/\(∀f,n0 (fs.lookup f) (m f))/\ah5 m (fs.map (·.1))|.own _=>∃o,h.get? a=O o|.xd fs=>∃m,h.Ns1 a m/\∀f,n0 (fs.lookup f) (m f)|.rng lo j=>∃t u v,h.get? a=O {cls:=.type "range",data:=.fields #[.int lo t,.int j u,.int 1 v]}|.CK o u=>h.get? a=O o/\eg H h a u|.UU k=>h.get? a=O {cls:=.none,data:=.fields k}|.met f x=>h.get? a=O (methodObj (.ref f) (.ref x))|.ext φ=>φ h/\(∃o,h.get? a=O o)/\∀c g:Heap,φ c->(∀o,c.get? a=O o->g.get? a=O o)->φ g
def kS(H:Hp)(h:Heap):Prop:=∀a o,H a=O o->eg P w H h a o
end
section
variable{P:cr}{w:cf}{H H':Hp}{h h':Heap}{a:Addr}{o:HO}
theorem eg.lt(x:eg P w H h a o):a<h.objs.size:=by cases o with|lst X=>have(_,_,_,_,e):=x;exact aU e|tup X=>have(_,_,_,p):=x;exact p.lt|dK b=>have(_,_,_,_,o,_,_,e,_):=x;exact aU e|dT b=>have(_,_,_,_,o,_,_,e,_):=x;exact aU e|set S n=>have(o,_,_,_,e,_):=x;exact aU e|ins C d fs=>have(_,_,_,e,_):=x;exact aU e|own y=>have(_,e):=x;exact aU e|xd fs=>obtain⟨_,⟨_,_,_,e,_⟩,_⟩:=x;exact aU e|rng lo i=>have(_,_,_,e):=x;exact aU e|CK c u=>have(e,_):=x;exact aU e|UU s=>exact aU (show h.get? a=O _ from x)|met f y=>exact aU (show h.get? a=O _ from x)|ext φ=>obtain⟨_,⟨_,e⟩,_⟩:=x;exact aU e
def Paired.agS:∀{l₁:List α}{l₂:List β},Paired F l₁ l₂->(∀a b,F a b->G a b)->Paired G l₁ l₂:=by intro l₁ l₂ h f;induction h with|nil=>exact .nil|cons r t i=>exact .cons (f _ _ r) i
def eg.zk(x:eg P w H h a o)(k:∀b u,b=a\/H b=O (.own a)->h.get? b=O u->h'.get? b=O u)(l:∀b,H b=O (.own a)->H' b=O (.own a))(A:∀b xs,H b=O (.tup xs)->H' b=O (.tup xs)):eg P w H' h' a o:=by induction o with|lst xs=>have(z,I,n,r,e):=x;exact(z,I,n,r,k _ _ (.inl rfl) e)|tup xs=>have(z,I,r,g,e,c):=x;exact(z,I,r,g,k _ _ (.inl rfl) e,c)|dK B=>have(z,y,D,r,g,E,i,e,c):=x;exact(z,y,D,r,g,E,i,k _ _ (.inl rfl) e,c)|dT B=>have(z,y,xs,r,g,E,i,e,c):=x;exact(z,y,xs,Paired.agS r λp q z=>(z.1,A _ _ z.2.1,z.2.2),g,E,i,k _ _ (.inl rfl) e,c)|set S n=>have(g,E,i,t,e,c):=x;exact(g,E,i,t,k _ _ (.inl rfl) e,c)|ins C K fs=>obtain⟨d,z,N,e,m,⟨j,E,i,F,c⟩,r⟩:=x;exact(l _ d,z,N,k _ _ (.inl rfl) e,m,(j,E,i,k _ _ (.inr d) F,c),r)|own y=>have(g,e):=x;exact(g,k _ _ (.inl rfl) e)|xd fs=>obtain⟨m,⟨j,E,i,e,c⟩,r⟩:=x;exact(m,(j,E,i,k _ _ (.inl rfl) e,c),r)|rng lo L=>have(t,u,v,e):=x;exact(t,u,v,k _ _ (.inl rfl) e)|CK g u G=>have(e,q):=x;exact(k _ _ (.inl rfl) e,G q)|UU s=>have e:h.get? a=O {cls:=.none,data:=.fields s}:=x;show h'.get? a=O {cls:=.none,data:=.fields s};exact k a _ (.inl rfl) e|met f y=>have e:h.get? a=O (methodObj (.ref f) (.ref y)):=x;show h'.get? a=O (methodObj (.ref f) (.ref y));exact k a _ (.inl rfl) e|ext φ=>obtain⟨p,⟨o,e⟩,st⟩:=x;exact(st _ _ p λo q=>k _ _ (.inl rfl) q,(o,k _ _ (.inl rfl) e),st)
theorem kS.lt(x:kS P w H h)(e:H a=O o):a<h.objs.size:=(x a o e).lt
def kS.fresh(x:kS P w H h)(e:h.objs.size<=a):H a=none:=by cases q:H a with|none=>rfl|some u=>exact absurd (bu (x.lt q) e) (cI _)
def kS.kept(x:kS P w H h)(k:∀b u,h.get? b=O u->h'.get? b=O u):kS P w H h':=λa o e=>(x a o e).zk (λb u _ q=>k b u q) (λ_ q=>q) λ_ _ q=>q
def kS.laid(x:kS P w H h)(k:∀b u,h.get? b=O u->h'.get? b=O u)(p:h.objs.size<=a)(new:eg P w (dv H a o) h' a o):kS P w (dv H a o) h':=λb u e=>by
 have hn:=x.fresh p;by_cases d:b=a;.subst d;rw[bQ]at e;cases e;exact new
 .rw[bJ d]at e;exact(x b u e).zk (λc v _ q=>k c v q) (λc q=>by rw[bJ (bV q hn)];exact q) λc X q=>by rw[bJ (bV q hn)];exact q
end
def Rd(H:Hp)(a:Addr)(u:HO):Prop:=H a=O u\/∃o,H a=O (.CK o u)
def Rd.ok{H:Hp}{h:Heap}{a:Addr}{u:HO}(r:Rd H a u)(x:kS P w H h):eg P w H h a u:=by
 rcases r with r|⟨o,r⟩;.exact x a u r
 .have(_,q):=x a _ r;exact q
def kh:Option HO->Prop|some (.lst _)=>True|some (.dK _)=>True|some (.dT _)=>True|some (.set _ _)=>True|some (.ins _ _ _)=>True|some (.ext _)=>True|_=>False
section
variable{P:cr}{w:cf}{H:Hp}{h h':Heap}{x e:Addr}{o':HO}
def kS.write(ok:kS P w H h)(m:kh (H x))(g:e=x\/H e=O (.own x))(k:∀b u,b≠e->h.get? b=O u->h'.get? b=O u)(D:∃u,h'.get? e=O u)(new:eg P w (dv H x o') h' x o'):kS P w (dv H x o') h':=λb u q=>by
 have a:∀c y,H c=O (.own y)->c≠x:=λc y r z=>by subst z;rw[r]at m;exact m
 have A:∀c X,H c=O (.tup X)->c≠x:=λc X r z=>by subst z;rw[r]at m;exact m
 by_cases d:b=x;.subst d;rw[bQ]at q;cases q;exact new
 .rw[bJ d]at q;by_cases W:b=e
  .have Q:H b=O (.own x):=by
    rcases g with z|z;.exact absurd (W.trans z) d
    .rw[W];exact z
   rw[q]at Q;cases Q;have(v,i):=D;exact(v,by rw[W];exact i)
  .refine(ok b u q).zk (λc v f r=>k c v ?_ r) (λc r=>by rw[bJ (a c b r)];exact r) λc X r=>by rw[bJ (A c X r)];exact r
   rcases f with rfl|f;.exact W
   .rintro rfl;rcases g with z|z;.exact a c b f z
    .rw[f]at z;cases z;exact d rfl
end
structure Un(fs ex:List Addr)(H H':Hp)(h h':Heap):Prop where
 keep:∀b o,h.get? b=O o->H b=af->b∉fs->b∉ex->h'.get? b=O o
 slot:∀b o,h.get? b=O o->H b=af->b∈fs->b∉ex->∃sl,h'.get? b=O {o with slots:=sl}free:∀b o,h.get? b=O o->H b=af->b∉ex->H' b=af
 there:∀b o,h.get? b=O o->b∉ex->∃o',h'.get? b=O o'
 rn:∀b xs,H b=O (.tup xs)->H' b=O (.tup xs)pS:∀b o u,H b=O (.CK o u)->H' b=O (.CK o u)rj:∀b ps,H b=O (.UU ps)->∃more,H' b=O (.UU (ps++more))
section
variable{fs yo ex ex':List Addr}{H H1 H2:Hp}{h h1 h2 h':Heap}{a x e:Addr}{o:HO}
def Un.any(u:Un fs ex H H1 h h1)(q:h.get? b=O c)(n:H b=af)(d:b∉ex):∃sl,h1.get? b=O {c with slots:=sl}:=by
 by_cases f:b∈fs;.exact u.slot b c q n f d
 .exact(c.slots,u.keep b c q n f d)
def Un.kept(k:∀b u,h.get? b=O u->h'.get? b=O u):Un fs ex H H h h':=(λb c q _ _ _=>k b c q,λb c q _ _ _=>(c.slots,k b c q),λ_ _ _ n _=>n,λb c q _=>(c,k b c q),λ_ _ q=>q,λ_ _ _ q=>q,λ_ p q=>(#[],by rw[q];simp))
def Un.refl:Un fs ex H H h h:=Un.kept λ_ _ q=>q
def Un.laid(k:∀b u,h.get? b=O u->h'.get? b=O u)(p:h.objs.size<=a)(c:H a=af):Un fs ex H (dv H a o) h h' where
 keep:=λb u q _ _ _=>k b u q;slot:=λb u q _ _ _=>(u.slots,k b u q);free:=λb u q n _=>by rw[bJ (bG (bu (aU q) p))];exact n
 there:=λb u q _=>(u,k b u q);rn:=λb X q=>by rw[bJ (bV q c)];exact q
 pS:=λb u X q=>by rw[bJ (bV q c)];exact q
 rj:=λb P q=>(#[],by rw[bJ (bV q c),q];simp)
def Un.write(m:kh (H x))(g:e=x\/H e=O (.own x))(k:∀b u,b≠e->h.get? b=O u->h'.get? b=O u)(D:∃u,h'.get? e=O u):Un fs ex H (dv H x o) h h':=by
 have d:∀b,H b=af->b≠x:=λb n z=>by subst z;rw[n]at m;exact m
 have f:∀b,H b=af->b≠e:=λb n z=>by
  subst z;rcases g with r|r;.exact d b n r
  .rw[n]at r;cases r
 have c:∀b u,H b=O u->¬kh (O u)->b≠x:=λb u q N z=>by subst z;rw[q]at m;exact N m
 refine(λb u q n _ _=>k b u (f b n) q,λb u q n _ _=>(u.slots,k b u (f b n) q),λb u q n _=>by rw[bJ (d b n)];exact n,λb u q _=>?_,λb X q=>by rw[bJ (c b _ q λz=>z)];exact q,λb u X q=>by rw[bJ (c b _ q λz=>z)];exact q,λb p q=>(#[],by rw[bJ (c b _ q λz=>z),q];simp));by_cases W:b=e;.subst W;exact D
 .exact(u,k b u W q)
end
noncomputable def ju(h:Heap)(H:Hp):List Addr:=(ac7 h.objs.size).filter λa=>(H a).isSome
def yz(h:Heap)(H:Hp):Heap:=PySem.W.hideAll h (ju h H)
def Hv(h:Heap)(H:Hp):(yz h H).objs.size=h.objs.size:=PySem.W.hideAll_size _ _
def Kw(e:h.get? b=O o)(n:H b=af):(yz h H).get? b=O o:=PySem.W.hideAll_get _ e λm=>by have q:(H b).isSome=true:=(sQ.mp m).2;rw[n]at q;simp at q
def QZ(e:(yz h H).get? b=O o):h.get? b=O o/\H b=none:=by have E:h.get? b=O o:=PySem.W.of_hideAll (ju h H) e;refine(E,?_);cases q:H b with|none=>rfl|some x=>have m:b∈ju h H:=sQ.mpr (vO.mpr (aU E),by simp[q]);have z:(yz h H).get? b=none:=PySem.W.hideAll_none (ju h H) m;rw[z]at e;cases e
structure Mod(K:Frag)(mg:db)(base:Heap):Prop where
 T6:K.In base
 glob:base.Ns dr mg
 blt:∃mb,base.Ns builtinsNs mb/\∀x:Str,x≠"__name__"->mb x=d4 x
 nolimit:base.NoLimit
structure Cx where
 prog:cr
 w:cf
 K:Frag
 mg:db
 base:Heap
 A:c9
 N:ϐ
 s₀:be
 H₀:Hp
 env:Env
 outer:List Env
 stack:List Env
 ex:List Addr
 fn:Str->Bool
 calm:Bool
 pn:cp
 xe:dA
noncomputable def ox(l:List Env):List Addr:=l.filterMap (·.frame)
abbrev Cx.fs(X:Cx):List Addr:=ox X.outer
def ZX(s:Scope)(x:Str):Prop:=s.names.lookup x=O .local\/s.names.lookup x=O .cell\/s.names.lookup x=O .free
def Loc(s:Scope)(x:Str):Prop:=s.names.lookup x=O .local\/s.names.lookup x=O .cell
def ae4(env:Env)(h:Heap)(m:db)(x:Str)(u:Value):Prop:=env.kindOf x=O .local/\m x=O u\/(env.kindOf x=O .cell\/env.kindOf x=O .free)/\∃c,env.cells.lookup x=O c/\h.IsCell c (O u)
structure Cx.Ok(X:Cx):Prop where
 mod:Mod X.K X.mg X.base
 kind:X.env.scope.kind=.function
 glob:X.env.globals=dr
 blt:X.env.builtins=builtinsNs
 above:X.s₀.heap.objs.size<=X.env.locals
 inj:∀x y c,X.env.cells.lookup x=O c->X.env.cells.lookup y=O c->x=y
 has:∀x,X.env.kindOf x=O .cell\/X.env.kindOf x=O .free->∃c,X.env.cells.lookup x=O c
 Tu:∀x c,X.fn x=J->X.env.cells.lookup x=O c->X.s₀.heap.objs.size<=c
 hd:X.calm=J->X.A.handled=af
 frames:X.A.frames=O X.stack
 l0:X.stack=X.outer\/(X.stack=X.env::X.outer/\X.env.frame=O X.env.locals)V8:∀b∈X.ex,b≠X.env.locals/\∀x c,X.env.cells.lookup x=O c->c≠b
 bs:∀b o,X.base.get? b=O o->X.s₀.heap.get? b=O o/\X.H₀ b=af
 G3:X.base.objs.size<=X.s₀.heap.objs.size
 yT:∀b o,X.base.get? b=O o->b∉X.ex
 Ay:∀b∈X.ex,b∉X.fs
 mE:X.s₀.heap.FunFrames X.base X.outer
 NY:∀b∈X.fs,X.H₀ b=af
structure Inv(X:Cx)(bb:cp)(σ:List (Option V))(H:Hp)(s:be):Prop where
 ok:X.Ok
 os:s.os=X.s₀.os
 bare:AllBare s.gens
 base:Un X.fs X.ex X.H₀ H X.s₀.heap s.heap
 loc:∃m,s.heap.Ns X.env.locals m/\∀(i:Nat)(x:Str)(v:V),X.N[i]?=O x->σ[i]?=O (O v)->ZX X.env.scope x->∃u,RelV v u/\ae4 X.env s.heap m x u
 cell:∀x c,X.env.cells.lookup x=O c->∃v,s.heap.IsCell c v
 free:H X.env.locals=af
 jy:∀x c,X.env.cells.lookup x=O c->H c=af
 pin:∀p∈X.pn++bb,s.heap.get? p.1=O p.2/\H p.1=af/\p.1≠X.env.locals/\p.1∉X.fs/\∀v,p.2.data≠.cell v
 di:kS X.prog X.w H s.heap
 len:σ.length=X.N.length
section
variable{X:Cx}{bb:cp}{σ:List (Option V)}{H H':Hp}{s:be}{h':Heap}
def Cx.Ok.ag2(ok:X.Ok)(e:X.base.get? b=O o):b∉X.fs:=λh=>by have:=(ok.mE.mem h).1;rw[e]at this;cases this
theorem Inv.bs(I:Inv X bb σ H s):∀b o,X.base.get? b=O o->s.heap.get? b=O o/\H b=none:=λb o e=>(I.base.keep b o (I.ok.bs b o e).1 (I.ok.bs b o e).2 (I.ok.ag2 e) (I.ok.yT b o e),I.base.free b o (I.ok.bs b o e).1 (I.ok.bs b o e).2 (I.ok.yT b o e))
def Inv.bk(I:Inv X bb σ H s):∀b o,X.base.get? b=O o->s.heap.get? b=O o:=λb o e=>(I.bs b o e).1
theorem Inv.mod(I:Inv X bb σ H s):Mod X.K X.mg X.base:=I.ok.mod
def Inv.nF(I:Inv X bb σ H s):X.K.In s.heap:=I.ok.mod.T6.keeps I.bk
theorem Inv.lt(I:Inv X bb σ H s):X.env.locals<s.heap.objs.size:=let (_,h,_):=I.loc;h.lt
def Inv.sz(I:Inv X bb σ H s):X.s₀.heap.objs.size<=s.heap.objs.size:=aE I.ok.above (y_ I.lt)
def Inv.ag3(I:Inv X bb σ H s){a:Addr}(h:s.heap.objs.size<=a):a∉X.fs:=λb=>by have(_,o,c,_):=I.ok.mE.mem b;exact absurd (bu (aU c) (aE I.sz h)) (cI _)
def Inv.VP(I:Inv X bb σ H s):∀x c,X.env.cells.lookup x=O c->c≠X.env.locals:=λx c e z=>by have(v,o,h,d):=I.cell x c e;obtain⟨m,⟨a,E,p,K,u,_⟩,_⟩:=I.loc;rw[z,K]at h;cases h;rw[u]at d;cases d
theorem Inv.mE(I:Inv X bb σ H s):s.heap.FunFrames X.base X.outer:=by
 have all:∀(l:List Env),(∀b∈ox l,b∈X.fs)->X.s₀.heap.FunFrames X.base l->s.heap.FunFrames X.base l:=by intro l;induction l with|nil=>intro _ _;trivial|cons E r i=>intro d f;obtain⟨k,⟨L,o,h,n,g,j⟩,m⟩:=f;have a:L∈X.fs:=d L (by unfold ox;rw[iz,h];exact au);have(sl,e):=I.base.slot L o g (I.ok.NY L a) a λz=>I.ok.Ay L z a;exact(k,(L,_,h,n,e,j),i (λb c=>d b (by unfold ox;rw[iz,h];exact ao _ c)) m)
 exact all X.outer (λ_ c=>c) I.ok.mE
theorem Inv.stack(I:Inv X bb σ H s):s.heap.FunFrames X.base X.stack:=by
 rcases I.ok.l0 with e|⟨e,h⟩;.rw[e];exact I.mE
 .rw[e];have(m,n,_):=I.loc;refine .cons (by rw[I.ok.kind];decide) h n ?_ I.mE;exact Heap.get?_none_of_le (aE I.ok.G3 I.ok.above)
def Inv.Ej(I:Inv X bb σ H s):∀b∈ox X.stack,b∈X.env.locals::X.fs:=λb h=>by
 rcases I.ok.l0 with e|⟨e,f⟩;.rw[e]at h;exact ao _ h
 .rw[e]at h;unfold ox at h;rw[iz,f]at h;exact h
def Inv.qk(I:Inv X bb σ H s):∀b∈ox X.stack,H b=none:=λb h=>by
 rcases aK.mp (I.Ej b h)with e|h;.rw[e];exact I.free
 .have(_,o,a,_):=I.ok.mE.mem h;exact I.base.free b o a (I.ok.NY b h) λz=>I.ok.Ay b z h
def Inv.step{ch:List Addr}(I:Inv X bb σ H s)(Y:∀b∈ch,(b∈X.ex\/X.s₀.heap.objs.size<=b)/\b≠X.env.locals/\(∀x c,X.env.cells.lookup x=O c->c≠b)/\∀p∈X.pn++bb,p.1≠b)(keep:∀b o,b≠X.env.locals->b∉X.fs->b∉ch->s.heap.get? b=O o->H b=af->h'.get? b=O o)(slot:∀b o,b≠X.env.locals->b∈X.fs->b∉ch->s.heap.get? b=O o->H b=af->∃sl,h'.get? b=O {o with slots:=sl})(f:∀b o,b∉ch->s.heap.get? b=O o->H b=af->H' b=af)(there:∀b o,b∉ch->s.heap.get? b=O o->∃o',h'.get? b=O o')(R:∀b xs,H b=O (.tup xs)->H' b=O (.tup xs))(P:∀b o u,H b=O (.CK o u)->H' b=O (.CK o u))(G:∀b ps,H b=O (.UU ps)->∃more,H' b=O (.UU (ps++more)))(K:∀m,s.heap.Ns X.env.locals m->h'.Ns X.env.locals m)(M:kS X.prog X.w H' h')(Q:AllBare g'):Inv X bb σ H' {s with heap:=h',gens:=g',drawn:=d',toks:=t'}:=by
 have L:∀b o,X.s₀.heap.get? b=O o->b≠X.env.locals:=λb o e=>bG (bu (aU e) I.ok.above);have t:∀b o,X.s₀.heap.get? b=O o->b∉X.ex->b∉ch:=λb o e h a=>by
  rcases(Y b a).1 with z|z;.exact h z
  .exact absurd (bu (aU e) z) (cI _)
 have C:∀x c,X.env.cells.lookup x=O c->∀v,s.heap.IsCell c v->h'.IsCell c v:=λx c e v (o,g,y)=>by
  have N:c∉ch:=λz=>(Y c z).2.2.1 x c e rfl;by_cases A:c∈X.fs;.have(sl,q):=slot c o (I.VP x c e) A N g (I.jy x c e);exact(_,q,y)
  .exact(o,keep c o (I.VP x c e) A N g (I.jy x c e),y)
 refine(I.ok,I.os,Q,(λb o e n a h=>?_,λb o e n a h=>?_,λb o e n h=>?_,λb o e h=>?_,λb xs e=>R b xs (I.base.rn b xs e),λb o xs e=>P b o xs (I.base.pS b o xs e),λb ps e=>?_),?_,λx c e=>?_,?_,λx c e=>?_,λp B=>?_,M,I.len);.exact keep b o (L b o e) a (t b o e h) (I.base.keep b o e n a h) (I.base.free b o e n h)
 .have(sl,E):=I.base.slot b o e n a h;have(S,j):=slot b _ (L b o e) a (t b o e h) E (I.base.free b o e n h);exact(S,j)
 .have(o',E):=I.base.there b o e h;exact f b o' (t b o e h) E (I.base.free b o e n h)
 .have(o',E):=I.base.there b o e h;exact there b o' (t b o e h) E
 .have(T,E):=I.base.rj b ps e;have(U,j):=G b _ E;exact(T++U,by rw[j,Array.append_assoc])
 .have(m,W,Z):=I.loc;refine(m,K m W,λi x v E j e3=>?_);have(u,r,l):=Z i x v E j e3;refine(u,r,?_);rcases l with l|⟨k,c,e,z⟩;.exact .inl l
  .exact .inr (k,c,e,C x c e _ z)
 .have(v,z):=I.cell x c e;exact(v,C x c e v z)
 .obtain⟨m,⟨o,_,_,g,_⟩,_⟩:=I.loc;exact f _ o (λz=>(Y _ z).2.1 rfl) g I.free
 .have(v,o,g,y):=I.cell x c e;exact f c o (λz=>(Y c z).2.2.1 x c e rfl) g (I.jy x c e)
 .have(e,n,D,F,d):=I.pin p B;have N:p.1∉ch:=λz=>(Y p.1 z).2.2.2 p B rfl;exact(keep p.1 p.2 D F N e n,f p.1 p.2 N e n,D,F,d)
def Inv.un(I:Inv X bb σ H s)(u:Un X.fs [] H H' s.heap h')(d:kS X.prog X.w H' h'):Inv X bb σ H' {s with heap:=h',toks:=t'}:=by obtain⟨m,⟨o,f,p,a,r⟩,_⟩:=id I.loc;have(sl,L):=u.any a I.free (by simp);exact I.step (g':=s.gens) (d':=s.drawn) (ch:=[]) (λ_ z=>nomatch z) (λb o _ h _ e n=>u.keep b o e n h (by simp)) (λb o _ h _ e n=>u.slot b o e n h (by simp)) (λb o _ e n=>u.free b o e n (by simp)) (λb o _ e=>u.there b o e (by simp)) u.rn u.pS u.rj (λM c=>by have(g,v,E,K,R):=c;rw[a]at K;cases K;exact(_,v,E,L,R)) d I.bare
def Inv.call(I:Inv X bb σ H s)(u:Un (ox X.stack) ch H H' s.heap h')(d:kS X.prog X.w H' h')(g:AllBare g')(i:∀b∈ch,(b∈X.ex\/X.s₀.heap.objs.size<=b)/\b≠X.env.locals/\(∀x c,X.env.cells.lookup x=O c->c≠b)/\∀p∈X.pn++bb,p.1≠b):Inv X bb σ H' {s with heap:=h',gens:=g',drawn:=d',toks:=t'}:=by obtain⟨m,⟨o,k,l,a,r⟩,_⟩:=id I.loc;have(sl,L):=u.any a I.free λz=>(i _ z).2.1 rfl;exact I.step (ch:=ch) i (λb o L f h e n=>u.keep b o e n (λz=>(aK.mp (I.Ej b z)).elim L f) h) (λb o _ _ h e n=>u.any e n h) (λb o h e n=>u.free b o e n h) (λb o h e=>u.there b o e h) u.rn u.pS u.rj (λM j=>by have(q,v,E,K,R):=j;rw[a]at K;cases K;exact(_,v,E,L,R)) d g
def Inv.turned(I:Inv X bb σ H s)(k:∀b o,b≠it->s.heap.get? b=O o->h'.get? b=O o)(a:H it=af)(L:it≠X.env.locals)(d:it∈X.ex\/X.s₀.heap.objs.size<=it)(f:∀x c,X.env.cells.lookup x=O c->c≠it)(g:∀p∈X.pn++bb,p.1≠it):Inv X bb σ H {s with heap:=h',toks:=t'}:=by
 have N:∀b u,H b=O u->b≠it:=λb u e z=>by rw[z,a]at e;cases e
 refine I.step (g':=s.gens) (d':=s.drawn) (ch:=[it]) (λb i=>?_) (λb o _ _ h e _=>k b o (λz=>h (by simp[z])) e) (λb o _ _ h e _=>(o.slots,k b o (λz=>h (by simp[z])) e)) (λ_ _ _ _ n=>n) (λb o h e=>(o,k b o (λz=>h (by simp[z])) e)) (λ_ _ e=>e) (λ_ _ _ e=>e) (λb P e=>(#[],by rw[e];simp)) (λm j=>?_) (λb u e=>?_) I.bare
 .have e:b=it:=by simpa using i
  subst e;exact(d,L,f,g)
 .have(o,E,l,t,r):=j;exact(o,E,l,k _ o (bX L) t,r)
 .refine(I.di b u e).zk (λc v h q=>k c v ?_ q) (λ_ q=>q) λ_ _ q=>q;rcases h with z|z;.rw[z];exact N b u e
  .exact N c _ z
def Inv.tok(I:Inv X bb σ H s)(t:Nat):Inv X bb σ H {s with toks:=t}:=I.un (h':=s.heap) (t':=t) Un.refl I.di
theorem Inv.kept(I:Inv X bb σ H s)(k:∀b u,s.heap.get? b=O u->h'.get? b=O u):Inv X bb σ H {s with heap:=h',toks:=t'}:=I.un (Un.kept k) (I.di.kept k)
theorem Inv.laid{a:Addr}(I:Inv X bb σ H s)(k:∀b u,s.heap.get? b=O u->h'.get? b=O u)(h:s.heap.objs.size<=a)(new:eg X.prog X.w (dv H a o) h' a o):Inv X bb σ (dv H a o) {s with heap:=h',toks:=t'}:=I.un (Un.laid k h (I.di.fresh h)) (I.di.laid k h new)
theorem Inv.write(I:Inv X bb σ H s)(m:kh (H x))(h:e=x\/H e=O (.own x))(k:∀b u,b≠e->s.heap.get? b=O u->h'.get? b=O u)(d:∃u,h'.get? e=O u)(new:eg X.prog X.w (dv H x o) h' x o):Inv X bb σ (dv H x o) {s with heap:=h',toks:=t'}:=I.un (Un.write m h k d) (I.di.write m h k d new)
def Inv.yY(I:Inv X bb σ H s)(h:∀p∈A,s.heap.get? p.1=O p.2/\H p.1=af/\p.1≠X.env.locals/\p.1∉X.fs/\∀v,p.2.data≠.cell v):Inv X A σ H s:=(I.ok,I.os,I.bare,I.base,I.loc,I.cell,I.free,I.jy,λp a=>(bf.mp a).elim (λz=>I.pin p (g6 _ z)) (h p),I.di,I.len)
def AY{N:ϐ}(h:N.Nodup){j:Nat}(a:N[i]?=O x)(b:N[j]?=O x):i=j:=by have(c,e):=ak.mp a;have(d,E):=ak.mp b;exact(kA h).mp (e.trans E.symm)
def IH{E:dA}(I:Inv X bb σ H s)(hN:X.N.Nodup)(L:X.N[i]?=O x)(B:Loc X.env.scope x)(r:RelV v u)(h:∀s',Inv X bb (σ.set i (O v)) H s'->(∃a,ad2 a s.heap s'.heap/\(a=X.env.locals\/X.env.cells.lookup x=O a))->Q () s')(hf:autoParam (X.fn x=J\/X.env.scope.names.lookup x=O .local) hF):bv M A (storeName X.env x u) Q E s:=by
 have(m,U,hl):=id I.loc;have Y:(X.env.scope.kind==.class||X.env.scope.kind==.module&&X.env.locals !=X.env.globals)=false:=by rw[I.ok.kind];rfl
 have P:i<σ.length:=by rw[I.len];exact(ak.mp L).1
 have VP:=I.VP;have t:∀{a:Addr}{h':Heap},(∃o,s.heap.get? a=O o/\H a=af)->ad2 a s.heap h'->kS X.prog X.w H h':=λ{a h'}ha f b ob e=>by
  have(_,_,mH):=ha;refine(I.di b ob e).zk (λc W l q=>(f.2 c ?_).trans q) (λ_ q=>q) λ_ _ q=>q;rintro rfl;rcases l with rfl|l;.rw[mH]at e;cases e
  .rw[mH]at l;cases l
 rcases B with D|D
 .refine wpAny_storeName_local D U (λh' Z f=>?_) Y;have(oL,_,_,hoL,_):=id U;refine h _ (I.ok,I.os,I.bare,(λb o e n F B=>?_,λb o e n F B=>?_,I.base.free,λb o e B=>?_,I.base.rn,I.base.pS,I.base.rj),(_,Z,λj y v' g C e3=>?_),λy c e=>?_,I.free,I.jy,λp hp=>?_,t (oL,hoL,I.free) f,by simpa using I.len) (_,f,.inl rfl);.exact(f.2 b (bG (bu (aU e) I.ok.above))).trans (I.base.keep b o e n F B)
  .have(sl,g):=I.base.slot b o e n F B;exact(sl,(f.2 b (bG (bu (aU e) I.ok.above))).trans g)
  .have(o',g):=I.base.there b o e B;exact(o',(f.2 b (bG (bu (aU e) I.ok.above))).trans g)
  .by_cases G:j=i;.subst G;rw[L]at g;cases g;rw[dc P]at C;cases C;exact(u,r,.inl (D,by simp))
   .rw[aB (bX G)]at C;have(u',r',q):=hl j y v' g C e3;refine(u',r',?_);rcases q with ⟨k,e⟩|⟨k,c,e,z⟩;.refine .inl (k,?_);have:y≠x:=λe=>G (AY hN g (e▸L));simp[this,e]
    .exact .inr (k,c,e,z.sameBut f (VP y c e))
  .have(W,z):=I.cell y c e;exact(W,z.sameBut f (VP y c e))
  .have(e,n,S,nf,d):=I.pin p hp;exact((f.2 p.1 S).trans e,n,S,nf,d)
 .have K:X.fn x=true:=by
   rcases hf with z|z;.exact z
   .rw[z]at D;cases D
  have(c,l):=I.ok.has x (.inl D);have(W,z):=I.cell x c l;refine wpAny_storeName_cell I.ok.kind D l z λh' Kv f=>?_;have(oc,WQ,agk):=id z;refine h {s with heap:=h'} (I.ok,I.os,I.bare,(λb o e n F B=>?_,λb o e n F B=>?_,I.base.free,λb o e B=>?_,I.base.rn,I.base.pS,I.base.rj),(m,U.sameBut f (bX (VP x c l)),λj y v' g C e3=>?_),λy T e=>?_,I.free,I.jy,λp hp=>?_,t (oc,WQ,I.jy x c l) f,by simpa using I.len) (c,f,.inr l);.exact(f.2 b (bG (bu (aU e) (I.ok.Tu x c K l)))).trans (I.base.keep b o e n F B)
  .have(sl,g):=I.base.slot b o e n F B;exact(sl,(f.2 b (bG (bu (aU e) (I.ok.Tu x c K l)))).trans g)
  .have(o',g):=I.base.there b o e B;exact(o',(f.2 b (bG (bu (aU e) (I.ok.Tu x c K l)))).trans g)
  .by_cases G:j=i;.subst G;rw[L]at g;cases g;rw[dc P]at C;cases C;exact(u,r,.inr (.inl D,c,l,Kv))
   .rw[aB (bX G)]at C;have(u',r',q):=hl j y v' g C e3;refine(u',r',?_);rcases q with q|⟨k,T,e,z'⟩;.exact .inl q
    .refine .inr (k,T,e,z'.sameBut f ?_);rintro rfl;exact G (AY hN g (I.ok.inj _ _ _ e l▸L))
  .by_cases R:T=c;.subst R;exact(_,Kv)
   .have(w2,z2):=I.cell y T e;exact(w2,z2.sameBut f R)
  .have(e,n,S,nf,d):=I.pin p hp;refine((f.2 p.1 ?_).trans e,n,S,nf,d);intro q;rw[q,WQ]at e;have q':oc=p.2:=cJ e;exact d W (by rw[<-q'];exact agk)
def vg{E:dA}(I:Inv X bb σ H s)(a:X.N.Nodup)(b:X.N[i]?=O x)(c:Loc X.env.scope x)(r:RelV v u)(h:∀s',Inv X bb (σ.set i (O v)) H s'->Q () s')(f:autoParam (X.fn x=J\/X.env.scope.names.lookup x=O .local) hF):bv M A (storeName X.env x u) Q E s:=IH I a b c r (λs' d _=>h s' d) f
def Inv.EY(I:Inv X bb σ H s)(h:s'.os=s.os)(u:Un (ox X.stack) ch H H' s.heap s'.heap)(d:kS X.prog X.w H' s'.heap)(g:AllBare s'.gens)(i:∀b∈ch,(b∈X.ex\/X.s₀.heap.objs.size<=b)/\b≠X.env.locals/\(∀x c,X.env.cells.lookup x=O c->c≠b)/\∀p∈X.pn++bb,p.1≠b):Inv X bb σ H' s':=by have(h',g',d',t',o):=s';have e:o=s.os:=h;subst e;exact I.call (g':=g') (t':=t') (d':=d') u d g i
end
abbrev XK:=Value->Option Addr->Hp->Prop
abbrev tSt:=List (Option V)
abbrev VK:=V->Hp->Prop
abbrev TE:=tSt->Hp->VK->Prop
abbrev TT:=tSt->Hp->(Bool->Hp->Prop)->Prop
abbrev TA:=tSt->Hp->(ϕ->Hp->Prop)->Prop
structure kF where
 nx:tSt->Hp->Prop
 rt:VK
 bk:tSt->Hp->Prop:=λ_ _=>False
 ct:tSt->Hp->Prop:=λ_ _=>False
abbrev TS:=kF->tSt->Hp->Prop
def EP(X:Cx)(p:cp)(σ:tSt)(Q:VK)(u:Value)(s':be):Prop:=∃v H,Inv X p σ H s'/\RelV v u/\Q v H
def TP(X:Cx)(p:cp)(σ:tSt)(Q:Bool->Hp->Prop)(b:Bool)(s':be):Prop:=∃H,Inv X p σ H s'/\Q b H
def AP(X:Cx)(p:cp)(σ:tSt)(Q:ϕ->Hp->Prop)(us:List Value)(s':be):Prop:=∃v H,Inv X p σ H s'/\Vals v us/\Q v H
def SP(X:Cx)(p:cp)(D:kF)(f:Flow)(s':be):Prop:=match f with|.next=>∃a H,Inv X p a H s'/\D.nx a H|.brk=>∃a H,Inv X p a H s'/\D.bk a H|.cont=>∃a H,Inv X p a H s'/\D.ct a H|.ret u=>∃v a H,Inv X p a H s'/\RelV v u/\D.rt v H
def PE(X:Cx)(e:Expr)(t:TE):Prop:=∀(p:cp)(s:be)(σ:tSt)(H:Hp)(Q:VK),Inv X p σ H s->t σ H Q->bv (ce X.prog X.w) X.A (eval e X.env) (EP X p σ Q) X.xe s
def PT(X:Cx)(e:Expr)(t:TT):Prop:=∀(p:cp)(s:be)(σ:tSt)(H:Hp)(Q:Bool->Hp->Prop),Inv X p σ H s->t σ H Q->bv (ce X.prog X.w) X.A (isTrue e X.env (eval e X.env)) (TP X p σ Q) X.xe s
def PW(X:Cx)(e:Expr)(t:TT):Prop:=∀(kQ:Sem Value)(p:cp)(s:be)(σ:tSt)(H:Hp)(Q:Bool->Hp->Prop),Inv X p σ H s->t σ H Q->bv (ce X.prog X.w) X.A (isTrue e X.env kQ) (TP X p σ Q) X.xe s
def PW.pt(h:PW X e t):PT X e t:=h _
def PA(X:Cx)(es:List Expr)(t:TA):Prop:=∀(P:Pos)(p:cp)(s:be)(σ:tSt)(H:Hp)(Q:ϕ->Hp->Prop),Inv X p σ H s->t σ H Q->bv (ce X.prog X.w) X.A (spliced (en P (dt es X.env))) (AP X p σ Q) X.xe s
def PS(X:Cx)(st:Stmt)(t:TS):Prop:=∀(p:cp)(s:be)(σ:tSt)(H:Hp)(D:kF),Inv X p σ H s->t D σ H->bv (ce X.prog X.w) X.A (exec st X.env) (SP X p D) X.xe s
def oH(X:Cx)(st:List Stmt)(t:TS):Prop:=∀(p:cp)(s:be)(σ:tSt)(H:Hp)(D:kF),Inv X p σ H s->t D σ H->bv (ce X.prog X.w) X.A (execs st X.env) (SP X p D) X.xe s
def dC{M:Model}{A:c9}{E:dA}{s:be}(h:bv M A t Q E s)(H:∀a s,Q a s->q a s):bv M A t q E s:=fe h H λ_ _ x=>x
section
variable{X:Cx}
def bin{t T:TE}(g:PE X a t)(i:PE X b T){p:cp}{s:be}{σ:tSt}{H:Hp}{R:V->V->Hp->Prop}(I:Inv X p σ H s)(h:t σ H λx e=>T σ e λy c=>R x y c){α:Type}{Q:α->be->Prop}{f:Value->Value->Sem α}(j:∀v u s2 x y c,Inv X p σ c s2->RelV x v->RelV y u->R x y c->bv (ce X.prog X.w) X.A (f v u) Q X.xe s2):bv (ce X.prog X.w) X.A (eval a X.env) (λv S=>bv (ce X.prog X.w) X.A (eval b X.env) (λu d=>bv (ce X.prog X.w) X.A (f v u) Q X.xe d) X.xe S) X.xe s:=by refine dC (g p s σ H _ I h) λv s1 x=>?_;have(x,e,k,r,q):=x;refine dC (i p s1 σ e _ k q) λu s2 y=>?_;have(y,c,l,m,n):=y;exact j v u s2 x y c l r m n
def Sv(i:Nat):TE:=λσ H Q=>∃v,σ[i]?=O (O v)/\Q v H
def tC(v:V):TE:=λ_ H Q=>Q v H
def Ma(b:X.N[i]?=O x)(f:ZX X.env.scope x)(d:autoParam ((x==("__debug__":Str))=a') W1)(C:autoParam ((x==("__classdict__":Str))=a') W1):PE X (.Name x pos) (Sv i):=by
 intro p s σ H Q I h;have(v,e,h):=h;have(m,n,g):=I.loc;have(u,r,l):=g i x v b e f;have fin:EP X p σ Q u s:=(v,H,I,r,h);rcases l with ⟨k,j⟩|⟨k,c,a,T⟩;.exact wpAny_Name (wpAny_loadName_local I.ok.kind k n j fin) d
 .rcases k with k|k;.exact wpAny_Name (wpAny_loadName_cell I.ok.kind k a T fin) d
  .exact wpAny_Name (wpAny_loadName_free I.ok.kind k a T fin C) d
def L5{i j pos}:PE X (.Constant (.int i) j pos) (tC (.int i)):=λ_ _ _ H _ I h=>wpAny_Constant_int (.int i,H,I.tok _,(_,rfl),h)
def abY{b j pos}:PE X (.Constant (.bool b) j pos) (tC (.bl b)):=λ_ _ _ H _ I h=>Constant_bool (.bl b,H,I,rfl,h)
def Yg{j pos}:PE X (.Constant .none j pos) (tC .non):=λ_ _ _ H _ I h=>UZ (.non,H,I,rfl,h)
def DL{x j pos}:PE X (.Constant (.str x) j pos) (tC (.str x)):=λ_ _ _ H _ I h=>Calls.Constant_str (.str x,H,I.tok _,(_,rfl),h)
def Gl(X:Cx)(x:Str):Prop:=X.env.kindOf x=O .globalImplicit
def nH{E:dA}{σ:tSt}{Q:dA}(I:Inv X p σ H s)(g:Gl X x)(m:X.mg x=O u)(h:Q u s)(d:autoParam ((x==("__debug__":Str))=a') W1):bv (ce X.prog X.w) X.A (eval (.Name x pos) X.env) Q E s:=Oa I.ok.kind g (Calls.loadGlobal_global (by rw[I.ok.glob];exact I.mod.glob.keeps I.bk) m h) d
def uJ{E:dA}{σ:tSt}{Q:dA}(I:Inv X p σ H s)(g:Gl X x)(m:X.mg x=af)(v:d4 x=O u)(h:Q u s)(n:autoParam (x≠"__name__") W1)(d:autoParam ((x==("__debug__":Str))=a') W1):bv (ce X.prog X.w) X.A (eval (.Name x pos) X.env) Q E s:=by have(M,a,b):=I.mod.blt;exact Oa I.ok.kind g (Calls.loadGlobal_builtin (by rw[I.ok.glob];exact I.mod.glob.keeps I.bk) m (by rw[I.ok.blt];exact a.keeps I.bk) ((b x n).trans v) h) d
def nL(g:Gl X x)(m:X.mg x=O u)(r:RelV v u)(d:autoParam ((x==("__debug__":Str))=a') W1):PE X (.Name x pos) (tC v):=λ_ _ _ H _ I h=>nH I g m (v,H,I,r,h) d
def Q8(g:Gl X x)(m:X.mg x=af)(a:d4 x=O u)(r:RelV v u)(n:autoParam (x≠"__name__") W1)(d:autoParam ((x==("__debug__":Str))=a') W1):PE X (.Name x pos) (tC v):=λ_ _ _ H _ I h=>uJ I g m a (v,H,I,r,h) n d
variable{a b:Expr}{ta tb:TE}{pos:Pos}
def PC(X:Cx)(op:CmpOp)(a b:Expr)(t:TE):Prop:=∀(p:cp)(s:be)(σ:tSt)(H:Hp)(Q:VK),Inv X p σ H s->t σ H Q->bv (ce X.prog X.w) X.A (eval a X.env) (λv S=>bv (ce X.prog X.w) X.A (eval b X.env) (λu c=>bv (ce X.prog X.w) X.A (compareOp op v u) (EP X p σ Q) X.xe c) X.xe S) X.xe s
def WC(ta:TE):TE:=λσ H Q=>ta σ H λx h=>Q (.bl (decide (x=.non))) h
def Sr(ta:TE):TE:=λσ H Q=>ta σ H λx h=>Q (.bl !decide (x=.non)) h
def RelV.AZ(r:RelV x v):(v==ab0)=decide (x=.non):=by cases x with|non=>cases r;rfl|bl _=>cases r;rfl|int _=>have(t,rfl):=r;rfl|str _=>have(t,rfl):=r;rfl|Z1 _=>have(t,rfl):=r;rfl|Po _=>have(t,rfl):=r;rfl|ref _=>cases r;rfl|ty _=>cases r;rfl
def Yb{j p}(c:PE X a ta):PC X .Is a (.Constant .none j p) (WC ta):=by intro P s σ H Q I h;refine dC (c P s σ H _ I h) λv s1 x=>?_;have(x,d,i,r,q):=x;exact UZ (is_none_gen (.bl _,d,i,by rw[r.AZ];rfl,q))
def Q7{j p}(c:PE X a ta):PC X .IsNot a (.Constant .none j p) (Sr ta):=by intro P s σ H Q I h;refine dC (c P s σ H _ I h) λv s1 x=>?_;have(x,d,i,r,q):=x;exact UZ (isnot_none_gen (.bl _,d,i,by rw[r.AZ];rfl,q))
def tB(t:TE):TT:=λσ H Q=>t σ H λx h=>∃c,x=.bl c/\Q c h
def Ye{op:CmpOp}{t:TE}(h:PC X op a b t)(c:gi op b=false:=by first|exact L _ (by ext) (by ext)|rfl):PE X (.Compare a [op] [b] pos) t:=λp s σ H Q I w=>wpAny_Compare1 (h p s σ H Q I w) c
def YK{op:CmpOp}{t:TE}(h:PC X op a b t)(e:gi op b=false:=by first|exact L _ (by ext) (by ext)|rfl):PT X (.Compare a [op] [b] pos) (tB t):=by intro p s σ H Q I w;refine vx (dC (h p s σ H _ I w) λv s1 e=>dC e λu s2 f=>dC f λc S (x,g,i,r,j)=>?_) e;have(d,rfl,q):=j;cases r;exact dP (g,i,q)
def YM(h:PE X e t)(c:autoParam (∀kQ,isTrue e X.env kQ=do let v<-kQ;standAt e.pos;fy [v] (truthy v)) hD):PT X e (tB t):=by intro p s σ H Q I w;refine isTrue_plain (dC (h p s σ H _ I w) λv s1 (x,f,i,r,g)=>?_) (c _);have(d,rfl,q):=g;cases r;exact dP (f,i,q)
variable{tA tB':TT}{b':List Expr}
def Ev(t u:TT):TT:=λσ H Q=>t σ H λc h=>if c=J then u σ h Q else Q a' h
def IZ(t u:TT):TT:=λσ H Q=>t σ H λc h=>if c=J then Q J h else u σ h Q
def Nv(t:TT):TT:=λσ H Q=>t σ H λc h=>Q (!c) h
def RK(d:PT X a tA):PW X (.BoolOp .And [a] pos) tA:=by intro w p s σ H Q I h;refine isTrue_and (dC (d p s σ H Q I h) λc s1 e=>?_);cases c with|true=>exact isTrue_and_nil e|false=>exact e
def YQ(d:PT X a tA):PW X (.BoolOp .Or [a] pos) tA:=by intro w p s σ H Q I h;refine isTrue_or (dC (d p s σ H Q I h) λc s1 e=>?_);cases c with|false=>exact isTrue_or_nil e|true=>exact e
def YO(e:PT X a tA)(f:PW X (.BoolOp .And (b::b') pos) tB'):PW X (.BoolOp .And (a::b::b') pos) (Ev tA tB'):=by intro w p s σ H Q I h;refine isTrue_and (dC (e p s σ H _ I h) λc s1 (d,i,q)=>?_);cases c with|true=>exact f w p s1 σ d Q i q|false=>exact(d,i,q)
def acj(e:PT X a tA)(f:PW X (.BoolOp .Or (b::b') pos) tB'):PW X (.BoolOp .Or (a::b::b') pos) (IZ tA tB'):=by intro w p s σ H Q I h;refine isTrue_or (dC (e p s σ H _ I h) λc s1 (d,i,q)=>?_);cases c with|true=>exact(d,i,q)|false=>exact f w p s1 σ d Q i q
def YL(d:PT X a tA):PT X (.UnaryOp .Not a pos) (Nv tA):=by intro p s σ H Q I h;exact isTrue_not (d p s σ H (λc e=>Q (!c) e) I h)
def UR(ta tb:TE):TE:=λσ H Q=>ta σ H λx h=>∃c,x=.bl c/\if c=J then tb σ h Q else Q (.bl a') h
def x3(ta tb:TE):TE:=λσ H Q=>ta σ H λx h=>∃c,x=.bl c/\if c=J then Q (.bl J) h else tb σ h Q
def UT(ta:TE):TE:=λσ H Q=>ta σ H λx h=>∃c,x=.bl c/\Q (.bl !c) h
def L9{op}(h:PE X a t):PE X (.BoolOp op [a] pos) t:=λp s σ H Q I w=>BoolOp_one (h p s σ H Q I w)
def Yc(e:PE X a ta)(f:PE X (.BoolOp .And (b::b') pos) tb):PE X (.BoolOp .And (a::b::b') pos) (UR ta tb):=by intro p s σ H Q I h;refine BoolOp_and (dC (e p s σ H _ I h) λv s1 x=>?_);have(x,d,i,r,q):=x;have(c,rfl,q):=q;cases r;refine dP ?_;cases c with|true=>exact f p s1 σ d Q i q|false=>exact(.bl a',d,i,rfl,q)
def UV(e:PE X a ta)(f:PE X (.BoolOp .Or (b::b') pos) tb):PE X (.BoolOp .Or (a::b::b') pos) (x3 ta tb):=by intro p s σ H Q I h;refine BoolOp_or (dC (e p s σ H _ I h) λv s1 x=>?_);have(x,d,i,r,q):=x;have(c,rfl,q):=q;cases r;refine dP ?_;cases c with|false=>exact f p s1 σ d Q i q|true=>exact(.bl J,d,i,rfl,q)
def Yh(d:PE X a ta):PE X (.UnaryOp .Not a pos) (UT ta):=by intro p s σ H Q I h;refine UnaryOp_ (dC (d p s σ H _ I h) λv s1 x=>?_);have(x,e,i,r,q):=x;have(c,rfl,q):=q;cases r;exact not_of (dP (.bl !c,e,i,rfl,q))
def wv(t:TT)(ta tb:TE):TE:=λσ H Q=>t σ H λc h=>if c=J then ta σ h Q else tb σ h Q
def L4(f:PT X c tA)(g:PE X a ta)(j:PE X b tb):PE X (.IfExp c a b pos) (wv tA ta tb):=by intro p s σ H Q I h;refine wpAny_IfExp (dC (f p s σ H _ I h) λd s1 (e,i,q)=>?_);cases d with|true=>exact g p s1 σ e Q i q|false=>exact j p s1 σ e Q i q
end
def jd(K:Frag)(H:Hp)(a:Addr)(xs:ϕ):Prop:=Rd H a (.lst xs)\/∃(o:Obj)(i:Array Value)(n:Nat),K.lookup a=O o/\o.cls=.type "list"/\o.dict=af/\o.data=.seq i n/\i.size<=sizeLine/\Vals xs i.toList
def fK(K:Frag)(H:Hp)(a:Addr)(xs:ϕ):Prop:=Rd H a (.tup xs)\/∃(o:Obj)(i:Array Value)(n:Nat),K.lookup a=O o/\o.cls=.type "tuple"/\o.data=.seq i n/\i.size<=sizeLine/\Vals xs i.toList
noncomputable def ae7:Value->Option V|.none=>O .non|.bool b=>O (.bl b)|.int i _=>O (.int i)|.str x _=>O (.str x)|.bytes b _=>O (.Z1 b)|.float b _=>O (.Po b)|.ref a=>O (.ref a)|.type n=>O (.ty n)|_=>af
def RelV.abs(r:RelV x u):ae7 u=O x:=by cases x with|non=>cases r;rfl|bl _=>cases r;rfl|int _=>have(t,rfl):=r;rfl|str _=>have(t,rfl):=r;rfl|Z1 _=>have(t,rfl):=r;rfl|Po _=>have(t,rfl):=r;rfl|ref _=>cases r;rfl|ty _=>cases r;rfl
def RelV.inj(r:RelV x u)(q:RelV y u):x=y:=cJ (r.abs.symm.trans q.abs)
theorem Vals.inj:∀{xs ys:ϕ}{us:List Value},Vals xs us->Vals ys us->xs=ys:=by intro xs ys us a;induction a generalizing ys with|nil=>intro b;cases b;rfl|cons r t i=>intro b;cases b with|cons R T=>rw[r.inj R,i T]
section
variable{X:Cx}{bb:cp}{σ:tSt}{H:Hp}{s:be}{a:Addr}{xs ys:ϕ}
def jd.of{K:Frag}(h:H a=O (.lst xs)):jd K H a xs:=.inl (.inl h)
def fK.of{K:Frag}(h:H a=O (.tup xs)):fK K H a xs:=.inl (.inl h)
def Inv.list(I:Inv X bb σ H s)(h:jd X.K H a xs):∃its:List Value,Vals xs its/\PlainL s.heap a its.toArray/\xs.length<=sizeLine:=by
 rcases h with h|⟨o,its,n,k,c,d,b,f,r⟩;.have(z,its,n,r,e):=h.ok I.di;exact(its,r,(_,n,e,rfl,rfl,rfl),z)
 .refine(its.toList,r,(o,n,I.nF a o k,c,d,by simpa using b),?_);have e:=r.length;simp only[bU]at e;lia
def Inv.tuple(I:Inv X bb σ H s)(h:fK X.K H a xs):∃its:List Value,Vals xs its/\IsTup s.heap a its.toArray/\xs.length<=sizeLine:=by
 rcases h with h|⟨o,its,n,k,c,b,d,r⟩;.have(z,its,r,p):=h.ok I.di;exact(its,r,p,z)
 .refine(its.toList,r,(o,I.nF a o k,c,n,by simpa using b),?_);have e:=r.length;simp only[bU]at e;lia
def Inv.La(I:Inv X bb σ H s)(h:jd X.K H a xs)(h':jd X.K H a ys):xs=ys:=by
 obtain⟨i,r,⟨o,n,e,_,_,d⟩,_⟩:=I.list h;obtain⟨its',R,⟨c,N,E,_,_,D⟩,_⟩:=I.list h';rw[e]at E;cases E;rw[d]at D;injection D with b _;have:i=its':=by simpa using cy Array.toList b
 subst this;exact r.inj R
def Inv.rm(I:Inv X bb σ H s)(h:fK X.K H a xs)(h':fK X.K H a ys):xs=ys:=by
 obtain⟨i,r,⟨o,e,_,n,d⟩,_⟩:=I.tuple h;obtain⟨its',R,⟨c,E,_,N,D⟩,_⟩:=I.tuple h';rw[e]at E;cases E;rw[d]at D;injection D with b _;have:i=its':=by simpa using cy Array.toList b
 subst this;exact r.inj R
end
abbrev Cx.wF(X:Cx)(E:dA):Cx:={X with xe:=E}
abbrev Cx.XG(X:Cx):Cx:=X.wF λ_ _=>False
theorem Cx.Ok.wF{X:Cx}(ok:X.Ok)(E:dA):(X.wF E).Ok:=(ok.mod,ok.kind,ok.glob,ok.blt,ok.above,ok.inj,ok.has,ok.Tu,ok.hd,ok.frames,ok.l0,ok.V8,ok.bs,ok.G3,ok.yT,ok.Ay,ok.mE,ok.NY)
def Cx.Ok.mX{X:Cx}(ok:(X.wF E).Ok):X.Ok:=(ok.mod,ok.kind,ok.glob,ok.blt,ok.above,ok.inj,ok.has,ok.Tu,ok.hd,ok.frames,ok.l0,ok.V8,ok.bs,ok.G3,ok.yT,ok.Ay,ok.mE,ok.NY)
section
variable{X:Cx}{bb:cp}{σ:tSt}{H:Hp}{s:be}{E:dA}
theorem Inv.wF(I:Inv X bb σ H s)(E:dA):Inv (X.wF E) bb σ H s:=(I.ok.wF E,I.os,I.bare,I.base,I.loc,I.cell,I.free,I.jy,I.pin,I.di,I.len)
theorem Inv.mX(I:Inv (X.wF E) bb σ H s):Inv X bb σ H s:=(I.ok.mX,I.os,I.bare,I.base,I.loc,I.cell,I.free,I.jy,I.pin,I.di,I.len)
theorem SP.mX(h:SP (X.wF E) bb D f s'):SP X bb D f s':=by cases f with|next=>have(a,b,I,q):=h;exact(a,b,I.mX,q)|brk=>have(a,b,I,q):=h;exact(a,b,I.mX,q)|cont=>have(a,b,I,q):=h;exact(a,b,I.mX,q)|ret u=>have(v,a,b,I,r,q):=h;exact(v,a,b,I.mX,r,q)
theorem oH.XG{st:List Stmt}(h:oH X.XG st t):oH X st t:=λbb s σ H D I w=>fe (h bb s σ H D (I.wF _) w) (λ_ _ q=>q.mX) λ_ _ z=>ad0 z
end
section
variable{X:Cx}{st:Stmt}{b':List Stmt}{t u:TS}{e:Expr}{te:TE}{pos:Pos}
def acY:TS:=λD σ H=>D.nx σ H
def Lr(t u:TS):TS:=λD σ H=>t {D with nx:=u D} σ H
def Ga:oH X [] acY:=λ_ _ σ H _ I h=>lT (σ,H,I,h)
def qf(b:PS X st t)(c:oH X b' u):oH X (st::b') (Lr t u):=by intro p s σ H D I h;refine wpAny_execs_cons (dC (b p s σ H {D with nx:=u D} I h) λf s1 q=>?_);cases f with|next=>have(a,d,i,q):=q;exact c p s1 a d D i q|ret v=>exact q|brk=>exact q|cont=>exact q
def qg(a:PS X st t):oH X [st] t:=by intro p s σ H D I h;refine wpAny_execs_cons (dC (a p s σ H D I h) λf s1 q=>?_);cases f with|next=>exact lT q|ret v=>exact q|brk=>exact q|cont=>exact q
def Zh:TS:=λD σ H=>D.bk σ H
def acV:TS:=λD σ H=>D.ct σ H
def Mx:PS X (.Break pos) Zh:=λ_ _ σ H _ I h=>wpAny_Break (σ,H,I,h)
def A8:PS X (.Continue pos) acV:=λ_ _ σ H _ I h=>wpAny_Continue (σ,H,I,h)
def Inv.quiet{σ:tSt}(I:Inv X p σ H s):interactive X.env=false:=by simp[interactive,I.ok.kind]
def acX(te:TE):TS:=λD σ H=>te σ H λ_ h=>D.nx σ h
def RE(a:PE X e te)(b:autoParam (gt e af pos.line X.env=pure a') o0):PS X (.Expr e pos) (acX te):=by intro p s σ H D I h;exact wpAny_Expr_any (dC (a p s σ H _ I h) λv s1 (x,c,i,r,q)=>(σ,c,i,q)) I.quiet b
def ahH(te:TE):TS:=λD σ H=>te σ H D.rt
def y6(a:PE X e te):PS X (.Return (O e) pos) (ahH te):=by intro p s σ H D I h;exact wpAny_Return_some (dC (a p s σ H _ I h) λv s1 (x,b,i,r,q)=>(x,σ,b,i,r,q))
def ahF(c:TT)(t u:TS):TS:=λD σ H=>c σ H λb h=>if b=J then t D σ h else u D σ h
def Uu(g:PT X c T)(j:oH X a t)(k:oH X b u):PS X (.If c a b pos) (ahF T t u):=by intro p s σ H D I h;refine wpAny_If (dC (g p s σ H _ I h) λd s1 (f,i,q)=>?_);cases d with|true=>exact j p s1 σ f D i q|false=>exact k p s1 σ f D i q
end
abbrev TG:=V->tSt->Hp->(tSt->Hp->Prop)->Prop
abbrev Th:=ϕ->tSt->Hp->(tSt->Hp->Prop)->Prop
def PG(X:Cx)(T:Expr)(t:TG):Prop:=∀(p:cp)(s:be)(σ:tSt)(H:Hp)(v:V)(u:Value)(Q:tSt->Hp->Prop),Inv X p σ H s->RelV v u->t v σ H Q->bv (ce X.prog X.w) X.A (assign T X.env u) (λ_ S=>∃a h,Inv X p a h S/\Q a h) X.xe s
def Vh(X:Cx)(ts:List Expr)(t:Th):Prop:=∀(p:cp)(s:be)(σ:tSt)(H:Hp)(v:ϕ)(u:List Value)(Q:tSt->Hp->Prop),Inv X p σ H s->Vals v u->t v σ H Q->bv (ce X.prog X.w) X.A (assignInOrder ((gc ts X.env).map (·.2)) u) (λ_ S=>∃a h,Inv X p a h S/\Q a h) X.xe s
abbrev Vl:=V->V->V->Hp->(Hp->Prop)->Prop
def Om(X:Cx)(t:Vl):Prop:=∀(p:cp)(s:be)(σ:tSt)(H:Hp)(o i v:V)(a I u:Value)(Q:Hp->Prop),Inv X p σ H s->RelV o a->RelV i I->RelV v u->t o i v H Q->bv (ce X.prog X.w) X.A (setItem a I u) (λ_ S=>∃h,Inv X p σ h S/\Q h) X.xe s
section
variable{X:Cx}{pos:Pos}
def mG(i:Nat):TG:=λv σ H Q=>Q (σ.set i (O v)) H
def Ry{i:Nat}{x:Str}(a:X.N.Nodup)(b:autoParam (X.N[i]?=O x) o0)(c:Loc X.env.scope x:=by exact Or.inl rfl)(f:autoParam (X.fn x=J\/X.env.scope.names.lookup x=O .local) hF):PG X (.Name x pos) (mG i):=by intro p s σ H v u Q I r h;exact wpAny_assign_Name (vg I a b c r (λS d=>(_,H,d,h)) f)
def ub:Th:=λv σ H Q=>v=[]/\Q σ H
def TC(t:TG)(u:Th):Th:=λs σ H Q=>∃v r,s=v::r/\t v σ H λa h=>u r a h Q
def Rz:Vh X [] ub:=by intro p s σ H v u Q I r h;have(e,h):=h;subst e;cases r;exact assignInOrder_nil (σ,H,I,h)
def Mn(b:PG X e t)(c:Vh X es u)(d:autoParam ((gc (e::es) X.env).map (·.2)=assign e X.env::(gc es X.env).map (·.2)) o0):Vh X (e::es) (TC t u):=by intro p s σ H g U Q I r h;have(v,j,E,h):=h;subst E;cases r with|cons r R=>rw[d];refine assignInOrder_cons (dC (b p s σ H _ _ _ I r h) λ_ s1 a=>?_);have(a,f,i,q):=a;exact c p s1 a f _ _ Q i R q
def Wn(K:Frag)(n:Nat)(t:Th):TG:=λv σ H Q=>∃a x,v=.ref a/\fK K H a x/\x.length=n/\t x σ H Q
def YC(c:X.calm)(h:Vh X es t)(d:autoParam ((gc es X.env).length=n) o0)(P:autoParam ((gc es X.env).findIdx? (·.1)=af) o0):PG X (.Tuple es k pos) (Wn X.K n t):=by intro p s σ H v u Q I r w;have(a,x,E,q,l,w):=w;subst E;cases r;have(i,R,f,z):=I.tuple q;refine assign_Tuple_tuple (I.ok.hd c) f (by simp[d,<-l,R.length]) P λg j=>?_;have m:Inv X p σ H {s with heap:=g}:=I.kept (t':=s.toks) λb o e=>j b o (bG (aU e)) e;exact h p _ σ H x _ Q m (by simpa using R) w
def Wl(T ti:TE)(t:Vl):TG:=λv σ H Q=>T σ H λo h=>ti σ h λi a=>t o i v a λb=>Q σ b
def Ml(c:PE X o T)(d:PE X i ti)(e:Om X t)(f:autoParam (∀v,assign (.Subscript o i pos) X.env v=do
   let a<-fy [v] (eval o X.env)let b<-fy [v,a] (eval i X.env)standAt pos
   fy [v,a,b] (setItem a b v)release [v,a,b] []) hD):PG X (.Subscript o i pos) (Wl T ti t):=by intro p s σ H v u Q I r h;rw[f];refine aj (eC (dC (c p s σ H _ I h) λa s1 x=>?_));have(x,g,j,R,q):=x;refine aj (eC (dC (d p s1 σ g _ j q) λb s2 y=>?_));have(y,k,l,m,n):=y;refine aj (U6 (aj (eC (dC (e p s2 σ k x y v a b u _ l R m r n) λ_ S (w,z,A)=>?_))));exact wpAny_release (σ,w,z,A)
def zp(t:TE)(g:TG):TS:=λD σ H=>t σ H λx h=>g x σ h D.nx
def DO(a:PE X e t)(b:PG X tg g)(c:autoParam (swapsWithSole [tg] e pos.line X.env=pure a') o0)(w:autoParam (swappedStores [tg] e X.env=pure af) o0)(d:autoParam ((gc [tg] X.env).map (·.2)=[assign tg X.env]) o0):PS X (.Assign [tg] e pos) (zp t g):=by intro p s σ H D I h;refine wpAny_Assign_stores (dC (a p s σ H _ I h) λv s1 (x,f,i,r,Q)=>?_) c w;rw[d];exact dC (b p s1 σ f x v _ i r Q) λ_ s2 q=>q
def Mz(a:X.N.Nodup)(b:X.N[i]?=O x)(c:Loc X.env.scope x)(d:PE X e t)(f:autoParam (gt e (O (.Name x p)) pos.line X.env=pure a') o0)(g:autoParam (X.fn x=J\/X.env.scope.names.lookup x=O .local) hF):PS X (.Assign [.Name x p] e pos) (zp t (mG i)):=by intro P s σ H D I h;refine wpAny_Assign_Name (dC (d P s σ H _ I h) λv s1 (y,j,k,r,q)=>?_) f;exact vg k a b c r (λs2 l=>(_,j,l,q)) g
def RF(i:Nat){x:Str}{e:Expr}{t:TE}{p:Pos}(h:X.N.Nodup)(H:PE X e t)(a:autoParam (X.N[i]?=O x) o0)(b:Loc X.env.scope x:=by exact Or.inl rfl)(s:autoParam (gt e (O (.Name x p)) pos.line X.env=pure a') o0)(f:autoParam (X.fn x=J\/X.env.scope.names.lookup x=O .local) hF):PS X (.Assign [.Name x p] e pos) (zp t (mG i)):=Mz h a b H s f
def Nn(c:TT)(t:TS):TS:=λD σ H=>∃W:Nat->tSt->Hp->Prop,(∃m,W m σ H)/\∀m σ H,W m σ H->c σ H λb h=>if b=J then ∃N:tSt->Hp->Prop,(∀a d,N a d->∃M,M<m/\W M a d)/\t {D with nx:=N,ct:=N,bk:=D.nx} σ h else D.nx σ h
def A9(o:PassesOwn (ce X.prog X.w) X.A X.env X.xe)(C:PT X c T)(E:oH X B l):PS X (.While c B [] pos) (Nn T l):=by intro p s σ H D I h;obtain⟨W,⟨m0,F⟩,t⟩:=h;refine wpAny_While (codeAny_whileLoop (λn S=>∃e r,Inv X p e r S/\W n e r) ?_ m0 (σ,H,I,F));rintro n s1 ⟨d,u,G,K⟩;refine gA o (dC (C p s1 d u _ G (t n d u K)) λb s2 (x,y,q)=>?_);cases b with
 |true=>have(N,z,q):=q;rw[bI rfl];refine gA o (dC (E p s2 d x _ y q) λf L Q=>?_);cases f with|next=>have(a,g,i,n3):=Q;have(m,j,k):=z a g n3;exact(m,j,a,g,i,k)|cont=>have(a,g,i,n3):=Q;have(m,j,k):=z a g n3;exact(m,j,a,g,i,k)|brk=>exact Q|ret v=>exact Q
 |false=>rw[bL aL];exact lT (d,x,y,q)
end
structure It where
 go:Nat->Hp->Prop
 yld:Nat->Hp->V->Hp->Prop
 stop:Nat->Hp->Prop
def mi(X:Cx)(P:cp)(H:Hp)(b:Addr):Prop:=H b=af/\b≠X.env.locals/\b∉X.fs/\(b∈X.ex\/X.s₀.heap.objs.size<=b)/\(∀x c,X.env.cells.lookup x=O c->c≠b)/\∀p∈X.pn++P,p.1≠b
def Inv.Kl{σ:tSt}{b:Addr}(I:Inv X P σ H s)(h:s.heap.objs.size<=b)(n:H' b=af):mi X P H' b:=by
 refine(n,l9 (bu I.lt h),I.ag3 h,.inr (aE I.sz h),λx c e z=>?_,λp a z=>?_);.have(v,q):=I.cell x c e;exact absurd (bu q.lt (by rw[z];exact h)) (cI _)
 .exact absurd (bu (aU (I.pin p a).1) (by rw[z];exact h)) (cI _)
structure G1(P:cr)(w:cf)(K:Frag)(tg:Expr)(a:It)(fp:List Addr)(it:Addr)(tn:Nat->Heap->Prop):Prop where
 mem:it∈fp
 obj:∀i h,tn i h->∀b∈fp,∃o,h.get? b=O o/\∀v,o.data≠.cell v
 keep:∀i h h',tn i h->(∀b∈fp,∀o,h.get? b=O o->h'.get? b=O o)->tn i h'
 item:∀(X:Cx),X.prog=P->X.w=w->X.K=K->X.calm->∀(i:Nat)(bb:cp)(s:be)(σ:tSt)(H:Hp)(E:dA),Inv X bb σ H s->(∀b∈fp,mi X bb H b)->tn i s.heap->a.go i H->bv (ce P w) X.A (pyNext (.ref it)) (λr s1=>∃u,r=O u/\bv (ce P w) X.A (letOwnedTupleGo tg (.ref it) u) (λ_ s2=>∃x H',Inv X bb σ H' s2/\RelV x u/\a.yld i H x H'/\tn (i+1) s2.heap/\∀b∈fp,H' b=af) E s1) E s
 done:∀(X:Cx),X.prog=P->X.w=w->X.K=K->X.calm->∀(i:Nat)(bb:cp)(s:be)(σ:tSt)(H:Hp)(E:dA),Inv X bb σ H s->(∀b∈fp,mi X bb H b)->tn i s.heap->a.stop i H->bv (ce P w) X.A (pyNext (.ref it)) (λr s1=>r=af/\Inv X bb σ H s1) E s
 self:∀(A:c9)(i:Nat)(s:be)(Q:dA)(E:dA),tn i s.heap->Q (.ref it) s->bv (ce P w) A (pyIter (.ref it)) Q E s
abbrev TI:=tSt->Hp->(It->Hp->Prop)->Prop
def BM(X:Cx)(p:cp)(σ:tSt)(tg:Expr)(R:It->Hp->Prop)(i:Value)(s2:be):Prop:=∃(I:Addr)(f:List Addr)(t:Nat->Heap->Prop)(j:It)(H:Hp),i=.ref I/\Inv X p σ H s2/\G1 X.prog X.w X.K tg j f I t/\t 0 s2.heap/\(∀b∈f,mi X p H b)/\R j H
def PI(X:Cx)(tg iter:Expr)(W:TI):Prop:=∀(p:cp)(s:be)(σ:tSt)(H:Hp)(R:It->Hp->Prop),Inv X p σ H s->W σ H R->bv (ce X.prog X.w) X.A (eval iter X.env) (λv s1=>bv (ce X.prog X.w) X.A (pyIter v) (BM X p σ tg R) X.xe s1) X.xe s
def Kr{E:dA}(a:s.heap.get? i=O o)(c:o.cls=.type n)(d:o.data=.fields vs)(b:["enumerate","zip","dict_itemiterator","dict_reverseitemiterator","odict_iterator","itertools.zip_longest","itertools.pairwise"].contains n=a')(H:Q () s):bv M A (letOwnedTupleGo tg (.ref i) u) Q E s:=by unfold letOwnedTupleGo;cases tg<;>first|exact aJ H|(cases u<;>first|exact aJ H|(refine aj (wpAny_load a ?_);rw[c,d];show bv M A (if(["enumerate","zip","dict_itemiterator","dict_reverseitemiterator","odict_iterator","itertools.zip_longest","itertools.pairwise"].contains n&&vs[0]?==O (dL _))=J then _ else _) Q E s;rw[bL (by intro h;rw[b,Bool.false_and]at h;cases h)];exact aJ H))
def j0(K:Frag)(a:Addr):It:=(λi H=>∃X x,jd K H a X/\X[i]?=O x,λi H x h=>h=H/\∀X,jd K H a X->X[i]?=O x,λi H=>∃X,jd K H a X/\X.length<=i)
def ot(K:Frag)(a:Addr):It:=(λi H=>∃X x,fK K H a X/\X[i]?=O x,λi H x h=>h=H/\∀X,fK K H a X->X[i]?=O x,λi H=>∃X,fK K H a X/\X.length<=i)
def kT(lo:Int)(n:Nat):It:=(λi _=>i<n,λi H x h=>h=H/\x=.int (lo+i),λi _=>n<=i)
def IK{K:Frag}(a it:Addr):G1 P w K tg (j0 K a) [it] it λi h=>h.IsListIter it a i where
 mem:=by simp
 obj:=λi h st b g=>by
  have e:b=it:=by simpa using g
  subst e;have(o,e,c,d):=st;exact(o,e,λv z=>by rw[d]at z;cases z)
 keep:=λi h j st k=>st.at λo e=>k it (by simp) o e;item:=by intro X m n r L i f s σ H E I l st t;subst m n r;have(N,x,q,y):=t;have(A,R,p,Q):=I.list q;have(u,hu,S):=R.get y;have(F,B,T,C,D,G):=l it (by simp);refine E_ st p.isList (x:=u) (by simpa using hu) λj M U=>?_;have W:Inv X f σ H {s with heap:=j}:=I.turned (t':=s.toks) (λb o g e=>(U.2 b g).trans e) F B C D G;have(o,e,c,d):=id M;exact(u,rfl,Kr (s:={s with heap:=j}) e c d (by ext) (x,H,W,S,(rfl,λys Y=>by rw[I.La Y q];exact y),M,λb g=>(l b g).1))
 done:=by intro X m n r L i f s σ H E I l st t;subst m n r;have(N,q,y):=t;have(A,R,p,Q):=I.list q;have(F,B,T,C,D,G):=l it (by simp);have hl:=R.length;exact tt (I.ok.hd L) st p.isList (by simp;lia) λj Z=>(rfl,I.turned (t':=s.toks) (λb o g e=>Z b o g e) F B C D G)
 self:=λ_ _ _ _ _ st h=>wpAny_pyIter_listiter st h
def Eu{K:Frag}(a it:Addr):G1 P w K tg (ot K a) [it] it λi h=>h.IsTupleIter it a i where
 mem:=by simp
 obj:=λi h st b g=>by
  have e:b=it:=by simpa using g
  subst e;have(o,e,c,d):=st;exact(o,e,λv z=>by rw[d]at z;cases z)
 keep:=λi h l st k=>st.at λo e=>k it (by simp) o e;item:=by intro X n r t L i f s σ H E I m st y;subst n r t;have(N,x,q,A):=y;have(j,R,p,Q):=I.tuple q;have(u,hu,S):=R.get A;have(F,B,T,C,D,G):=m it (by simp);refine wpAny_pyNext_tuple_item st (show s.heap.IsTuple a j.toArray from p) (x:=u) (by simpa using hu) λl M U=>?_;have W:Inv X f σ H {s with heap:=l}:=I.turned (t':=s.toks) (λb o g e=>(U.2 b g).trans e) F B C D G;have(o,e,c,d):=id M;exact(u,rfl,Kr (s:={s with heap:=l}) e c d (by ext) (x,H,W,S,(rfl,λys Y=>by rw[I.rm Y q];exact A),M,λb g=>(m b g).1))
 done:=by intro X n r t L i f s σ H E I m st y;subst n r t;have(N,q,A):=y;have(j,R,p,Q):=I.tuple q;have(F,B,T,C,D,G):=m it (by simp);have hl:=R.length;exact wpAny_pyNext_tuple_end (I.ok.hd L) st (show s.heap.IsTuple a j.toArray from p) (by simp;lia) λl Z=>(rfl,I.turned (t':=s.toks) (λb o g e=>Z b o g e) F B C D G)
 self:=λ_ _ _ _ _ st h=>wpAny_pyIter_tupleiter st h
def Et{K:Frag}(it:Addr)(lo:Int)(n:Nat):G1 P w K tg (kT lo n) [it] it λi h=>IsRangeIter h it (lo+(i:Nat)*1) ((n:Int)-(i:Nat)) 1 where
 mem:=by simp
 obj:=λi h st b a=>by
  have e:b=it:=by simpa using a
  subst e;exact(_,st,λv z=>by have Z:Data.fields _=Data.cell v:=z;cases Z)
 keep:=λi h c st k=>k it (by simp) _ st;item:=by intro X d g j l i p s σ H E I f st m;subst d g j;have(F,q,A,r,u,x):=f it (by simp);have W:=Walks.range (prog:=X.prog) (w:=X.w) (I.ok.hd l) it lo 1 n;refine W.item i s _ _ m st λv c T B y C=>?_;have(t,rfl):=B;have D:Inv X p σ H {s with heap:=c,toks:=T}:=I.turned (λb o a e=>C b o (by simpa using a) e) F q r u x;refine(_,rfl,Kr (s:={s with heap:=c,toks:=T}) (n:="range_iterator") y rfl rfl (by ext) (.int (lo+i),H,D,(t,?_),(rfl,rfl),y,λb a=>(f b a).1));rw[Int.mul_one]
 done:=by intro X d g j l i p s σ H E I f st m;subst d g j;have(F,q,A,r,u,x):=f it (by simp);exact wpAny_pyNext_range_end (I.ok.hd l) st (by have:n<=i:=m;lia) λc G=>(rfl,I.turned (t':=s.toks) (λb o a e=>G b o a e) F q r u x)
 self:=λ_ _ _ _ _ st h=>wpAny_pyIter_rangeiter st h
section
variable{X:Cx}{tg:Expr}
def MF{σ:tSt}{E:dA}{lo:Int}(I:Inv X p σ H s)(a:-2^62<=lo)(c:lo<2^62)(d:-2^62<=h)(f:h<2^62)(q:R (kT lo (h-lo).toNat) H):bv (ce X.prog X.w) X.A (pyIter (.ref s.heap.objs.size)) (BM X p σ tg R) E {s with heap:=s.heap.push {cls:=.type "range",data:=.fields #[.int lo t,.int h u,.int 1 v]},toks:=T}:=by
 refine wpAny_pyIter_range (IsRange.new ..) (small_one a c d f) ?_;have i:Inv X p σ H {s with heap:=s.heap.push {cls:=.type "range",data:=.fields #[.int lo t,.int h u,.int 1 v]},toks:=T}:=I.kept λb o e=>aA _ e;refine((s.heap.push {cls:=.type "range",data:=.fields #[.int lo t,.int h u,.int 1 v]}).objs.size,[(s.heap.push {cls:=.type "range",data:=.fields #[.int lo t,.int h u,.int 1 v]}).objs.size],_,_,H,rfl,i.kept (t':=T) λb o e=>aA _ e,Et _ lo (h-lo).toNat,?_,λb g=>?_,q)
 .have j:lo+((0:Nat):Int)*1=lo:=by simp
  have k:(((h-lo).toNat:Nat):Int)-((0:Nat):Int)=Builtin.Range.rangeSize lo h 1:=by rw[rangeSize_one];split<;>lia
  show IsRangeIter _ _ (lo+((0:Nat):Int)*1) ((((h-lo).toNat:Nat):Int)-((0:Nat):Int)) 1;rw[j,k];exact a5 _ rfl
 .have e:b=(s.heap.push {cls:=.type "range",data:=.fields #[.int lo t,.int h u,.int 1 v]}).objs.size:=by simpa using g
  subst e;exact i.Kl (ay _) (i.di.fresh (ay _))
def aaQ(t:TA):TI:=λσ H R=>t σ H λv h=>∃j:Int,v=[.int j]/\-2^62<=j/\j<2^62/\R (kT 0 j.toNat) h
def Ik(g:Gl X "range")(m:X.mg "range"=af)(b:PA X [a] T)(c:autoParam (dt [a] X.env=[(a',eval a X.env)]) o0):PI X tg (.Call (.Name "range" p) [a] [] pos) (aaQ T):=by intro P s σ H R I h;refine Call_ (uJ I g m boot_range (ma (dC (b pos P s σ H _ I h) λu s1 (v,l,i,d,Q)=>?_) c rfl));have(j,e,Q,f,q):=Q;subst e;cases d with|cons r k=>cases k;have(t,rfl):=r;exact call_range_1 (MF i (by lia) (by lia) Q f (by simpa using q))
def Sd(w:TI)(g:TG)(t:TS):TS:=λD σ H=>w σ H λj c=>∃W:Nat->Nat->tSt->Hp->Prop,(∃m,W 0 m σ c)/\∀i m σ H,W i m σ H->j.stop i H/\D.nx σ H\/j.go i H/\∃N:tSt->Hp->Prop,(∀a h,N a h->∃M,M<m/\W (i+1) M a h)/\∀x h,j.yld i H x h->g x σ h λb d=>t {D with nx:=N,ct:=N,bk:=D.nx} b d
def uV(fp:List Addr)(h:Heap):cp:=fp.filterMap λb=>(h.get? b).map λo=>(b,o)
def jA(H:b∈fp)(e:h.get? b=O o):(b,o)∈uV fp h:=nW.mpr (b,H,by rw[e];rfl)
def HR(H:p∈uV fp h):p.1∈fp/\h.get? p.1=O p.2:=by have(b,a,e):=nW.mp H;cases q:h.get? b with|none=>rw[q]at e;cases e|some o=>rw[q]at e;have E:(b,o)=p:=cJ e;subst E;exact(a,q)
def Inv.pinned{σ:tSt}(I:Inv X P σ H s)(f:∀b∈fp,mi X P H b)(a:∀b∈fp,∃o,s.heap.get? b=O o/\∀v,o.data≠.cell v):Inv X (P++uV fp s.heap) σ H s:=I.yY λp c=>(bf.mp c).elim (λz=>I.pin p (ba _ z)) λz=>by have(h,e):=HR z;have(F,g,i,_):=f p.1 h;have(o,E,d):=a p.1 h;rw[e]at E;cases E;exact(e,F,g,i,d)
def Inv.kP{σ:tSt}(I:Inv X (P++pl) σ H s):Inv X P σ H s:=I.yY λp h=>I.pin p (ba _ (g6 _ h))
def DP(y:PassesOwn (ce X.prog X.w) X.A X.env X.xe)(hc:X.calm)(hi:PI X tg iter wi)(hg:PG X tg g)(c:oH X B tb)(hs:autoParam (∀x,g5 iter X.env x=pure x) hD):PS X (.For tg iter B [] pos) (Sd wi g tb):=by
 intro p s σ H D I h;refine wpAny_For (dC (hi p s σ H _ I h) λv s1 h1=>dC h1 λitv s2 h2=>?_) hs;obtain⟨it,F,tn,j,H2,e,I2,T,K,f2,W,⟨m0,w0⟩,z⟩:=h2;subst e;have L:∀{H':Hp},(∀b∈F,H' b=af)->∀b∈F,mi X p H' b:=λhn b c=>(hn b c,(f2 b c).2);refine codeAny_forLoop_any (λn s'=>∃i k H',Inv X p k H' s'/\tn i s'.heap/\(∀b∈F,H' b=af)/\W i n k H') ?_ m0 (0,σ,H2,I2,K,λb c=>(f2 b c).1,w0);rintro n s3 ⟨i,l,G,I3,S,C,w3⟩;rcases z i n l G w3 with ⟨stop,qn⟩|⟨go,N,hN,step⟩;.refine gA y (dC (T.done X rfl rfl rfl hc i p s3 l G X.xe I3 (L C) S stop) λr s4 (M,I4)=>?_);subst M;exact lT (l,G,I4,qn)
 .refine gA y (dC (T.item X rfl rfl rfl hc i p s3 l G X.xe I3 (L C) S go) λr s4 (u,M,h4)=>?_);subst M;refine gA y (dC h4 λ_ s5 x=>?_);have(x,H5,I5,r5,y5,P,R):=x;have U:=I5.pinned (L R) (T.obj _ _ P);refine gA y (dC (hg _ s5 l H5 x u _ U r5 (step x H5 y5)) λ_ s6 Y=>?_);have(Y,H6,I6,q6):=Y;refine gA y (dC (c _ s6 Y H6 _ I6 q6) λf Z Q=>?_);have again:∀{a:tSt}{q:Hp},Inv X (p++uV F s5.heap) a q Z->N a q->∃m,m<n/\∃i k H',Inv X p k H' Z/\tn i Z.heap/\(∀b∈F,H' b=af)/\W i m k H':=λ{a q}t E=>by have(m',hm,w7):=hN a q E;refine(m',hm,i+1,a,q,t.kP,T.keep _ _ _ P λb c o e=>(t.pin (b,o) (ba _ (ba _ (jA c e)))).1,λb c=>?_,w7);have(o,e,d):=T.obj _ _ P b c;exact(t.pin (b,o) (ba _ (ba _ (jA c e)))).2.1
  cases f with|next=>have(a,q,t,E):=Q;exact again t E|cont=>have(a,q,t,E):=Q;exact again t E|brk=>have(a,q,t,Q):=Q;exact(a,q,t.kP,Q)|ret v=>have(x7,a,q,t,r7,Q):=Q;exact(x7,a,q,t.kP,r7,Q)
end
abbrev R2:=V->V->Hp->VK->Prop
def jZ(X:Cx)(f:Value->Value->Sem Value)(r:R2):Prop:=∀(p:cp)(s:be)(σ:tSt)(H:Hp)(x y:V)(v u:Value)(Q:VK),Inv X p σ H s->RelV x v->RelV y u->r x y H Q->bv (ce X.prog X.w) X.A (f v u) (EP X p σ Q) X.xe s
def ZW(X:Cx)(f:Value->Sem Value)(r:V->Hp->VK->Prop):Prop:=∀(p:cp)(s:be)(σ:tSt)(H:Hp)(x:V)(v:Value)(Q:VK),Inv X p σ H s->RelV x v->r x H Q->bv (ce X.prog X.w) X.A (f v) (EP X p σ Q) X.xe s
def dQ(X:Cx)(f:Value)(r:ϕ->Hp->VK->Prop):Prop:=∀(p:cp)(s:be)(σ:tSt)(H:Hp)(x:ϕ)(u:List Value)(Q:VK),Inv X p σ H s->Vals x u->r x H Q->bv (ce X.prog X.w) X.A (call f u) (EP X p σ Q) X.xe s
def i9(r:R2)(t T:TE):TE:=λσ H Q=>t σ H λx h=>T σ h λy a=>r x y a Q
def FM(r:V->Hp->VK->Prop)(t:TE):TE:=λσ H Q=>t σ H λx h=>r x h Q
def rI(C:Int->Int->Prop)(g:Int->Int->V):R2:=λx y H Q=>∃i j,x=.int i/\y=.int j/\C i j/\Q (g i j) H
def IA(g:Int->Int->V):R2:=λx y H Q=>∃i j,x=.int i/\y=.int j/\Q (g i j) H
def rU(g:Int->V):V->Hp->VK->Prop:=λx H Q=>∃i,x=.int i/\Q (g i) H
section
variable{X:Cx}{a b c:Expr}{ta tb tc:TE}{pos:Pos}
def VA(i:PE X a ta)(j:PE X b tb){σ:tSt}{R:V->V->Hp->Prop}(I:Inv X p σ H s)(h:ta σ H λx g=>tb σ g λy d=>R x y d){Q:dA}{f:Value->Value->Sem Value}(k:∀v u s2 x y d,Inv X p σ d s2->RelV x v->RelV y u->R x y d->bv (ce X.prog X.w) X.A (f v u) Q X.xe s2):bv (ce X.prog X.w) X.A (eval a X.env) (λv S=>bv (ce X.prog X.w) X.A (eval b X.env) (λu e=>bv (ce X.prog X.w) X.A (f v u) Q X.xe e) X.xe S) X.xe s:=by refine dC (i p s σ H _ I h) λv s1 x=>?_;have(x,g,l,r,q):=x;refine dC (j p s1 σ g _ l q) λu s2 y=>?_;have(y,d,m,n,o):=y;exact k v u s2 x y d m r n o
def ZB(o:jZ X (binaryOp op) r)(d:PE X a ta)(e:PE X b tb):PE X (.BinOp a op b pos) (i9 r ta tb):=by intro p s σ H Q I h;exact wpAny_BinOp (VA d e I h λv u s2 x y f i R g q=>o p s2 σ f x y v u Q i R g q)
def ab2(o:ZW X (unaryOp op) r)(d:PE X a ta):PE X (.UnaryOp op a pos) (FM r ta):=by intro p s σ H Q I h;exact UnaryOp_ (dC (d p s σ H _ I h) λv s1 (x,e,i,R,q)=>o p s1 σ e x v Q i R q)
def ov{g:Int->Int->Int}(rule:∀(i j:Int)(t u:Tok)(s:be)(Q:dA)(E:dA),C i j->Q (.int (g i j) s.toks) {s with toks:=s.toks+1}->bv (ce X.prog X.w) X.A (f (.int i t) (.int j u)) Q E s):jZ X f (rI C λi j=>.int (g i j)):=by intro p s σ H x y v u Q I r R h;have(i,j,rfl,rfl,d,q):=h;have(t,rfl):=r;have(T,rfl):=R;exact rule i j t T s _ _ d (.int (g i j),H,I.tok _,(_,rfl),q)
def Cc{g:Int->Int->Int}(rule:∀(i j:Int)(t u:Tok)(s:be)(Q:dA)(E:dA),Q (.int (g i j) s.toks) {s with toks:=s.toks+1}->bv (ce X.prog X.w) X.A (f (.int i t) (.int j u)) Q E s):jZ X f (IA λi j=>.int (g i j)):=by intro p s σ H x y v u Q I r R h;have(i,j,rfl,rfl,q):=h;have(t,rfl):=r;have(T,rfl):=R;exact rule i j t T s _ _ (.int (g i j),H,I.tok _,(_,rfl),q)
def XU{g:Int->Int->Bool}(rule:∀(i j:Int)(t u:Tok)(s:be)(Q:dA)(E:dA),Q (.bool (g i j)) s->bv (ce X.prog X.w) X.A (f (.int i t) (.int j u)) Q E s):jZ X f (IA λi j=>.bl (g i j)):=by intro p s σ H x y v u Q I r R h;have(i,j,rfl,rfl,q):=h;have(t,rfl):=r;have(T,rfl):=R;exact rule i j t T s _ _ (.bl (g i j),H,I,rfl,q)
def F_(i j:Int):Prop:=0<j/\j<1073741824
def Jq(i j:Int):Prop:=-2^64<i/\i<2^64\/-2^64<j/\j<2^64
def Jq.ok(h:Jq i j):IntMulOk i j:=by
 rcases h with ⟨H,d⟩|⟨H,d⟩;.exact .of_left (intBits_le_64 H d)
 .exact .of_right (intBits_le_64 H d)
def XW:jZ X (binaryOp .Add) (IA λi j=>.int (i+j)):=Cc λ_ _ _ _ _ _ _ q=>add_int q
def X5:jZ X (binaryOp .Sub) (IA λi j=>.int (i-j)):=Cc λ_ _ _ _ _ _ _ q=>sub_int q
def X2:jZ X (binaryOp .Mult) (rI Jq λi j=>.int (i*j)):=ov λ_ _ _ _ _ _ _ h q=>mul_int q h.ok
def Q2:jZ X (binaryOp .FloorDiv) (rI F_ λi j=>.int (i/j)):=ov λi j _ _ _ _ _ h q=>by have H:(0:Int)<j:=h.1;have d:j<1073741824:=h.2;exact floordiv_int (by lia) (by rw[Int.fdiv_eq_ediv_of_nonneg i (by lia)];exact q) (.inl (PyProof.noPylong_small (by lia)))
def X1:jZ X (binaryOp .Mod) (rI (λ_ j=>0<j) λi j=>.int (i%j)):=ov λi j _ _ _ _ _ h q=>by have H:(0:Int)<j:=h;exact mod_int' (by lia) (by rw[Int.fmod_eq_emod_of_nonneg i (by lia)];exact q)
def unI{g:Int->Int}(rule:∀(i:Int)(t:Tok)(s:be)(Q:dA)(E:dA),Q (.int (g i) s.toks) {s with toks:=s.toks+1}->bv (ce X.prog X.w) X.A (f (.int i t)) Q E s):ZW X f (rU λi=>.int (g i)):=by intro p s σ H x v Q I r h;have(i,rfl,q):=h;have(t,rfl):=r;exact rule i t s _ _ (.int (g i),H,I.tok _,(_,rfl),q)
def Zo:ZW X (unaryOp .USub) (rU λi=>.int (-i)):=unI λ_ _ _ _ _ q=>neg_int q
def We{σ:tSt}{K:Bool}(I:Inv X p σ H s)(q:Q (.bl k) H)(e:k=K):EP X p σ Q (.bool K) s:=by subst e;exact(.bl k,H,I,rfl,q)
def TB:jZ X (compareOp .Lt) (IA λi j=>.bl (decide (i<j))):=XU λ_ _ _ _ _ _ _ q=>lt_int q
def abS:jZ X (compareOp .LtE) (IA λi j=>.bl (decide (i<=j))):=XU λ_ _ _ _ _ _ _ q=>le_int q
def abR:jZ X (compareOp .Gt) (IA λi j=>.bl (decide (j<i))):=XU λ_ _ _ _ _ _ _ q=>gt_int q
def HS:jZ X (compareOp .In) λx y H Q=>∃i j,x=.str i/\y=.str j/\Q (.bl !(ab9 j i 0 j.length 1).isEmpty) H:=by intro p s σ H x y v u Q I r R h;have(i,j,rfl,rfl,q):=h;have(t,rfl):=r;have(T,rfl):=R;exact in_str (We I q rfl)
def jZ.or(h:jZ X f r)(h':jZ X f r'):jZ X f λx y H Q=>r x y H Q\/r' x y H Q:=by
 intro p s σ H x y v u Q I R d q;rcases q with q|q;.exact h p s σ H x y v u Q I R d q
 .exact h' p s σ H x y v u Q I R d q
def Ra(o:jZ X (compareOp op) r)(d:PE X a ta)(e:PE X b tb)(m:gi op b=a'):PE X (.Compare a [op] [b] pos) (i9 r ta tb):=by intro p s σ H Q I h;exact wpAny_Compare1 (VA d e I h λv u s2 x y f i R g q=>o p s2 σ f x y v u Q i R g q) m
def WP(t:TE):TT:=λσ H Q=>t σ H λx h=>∃k,x=.bl k/\Q k h
def y9(o:jZ X (compareOp op) r)(d:PE X a ta)(f:PE X b tb)(m:gi op b=a'):PT X (.Compare a [op] [b] pos) (WP (i9 r ta tb)):=by intro p s σ H Q I h;refine vx (dC (d p s σ H _ I h) λv s1 (x,g,i,R,q)=>dC (f p s1 σ g _ i q) λu s2 (y,j,l,n,t)=>dC (o p s2 σ j x y v u _ l R n t) λc S (z,w,A,B,k,e,C)=>?_) m;subst e;cases B;exact dP (w,A,C)
def Ng(r r':R2)(ta tb tc:TE):TE:=λσ H Q=>ta σ H λx d=>tb σ d λy e=>r x y e λz h=>∃k,z=.bl k/\if k=J then tc σ h λw f=>r' y w f Q else Q (.bl a') h
def L3{op o:CmpOp}{r r':R2}(g:jZ X (compareOp op) r)(K:jZ X (compareOp o) r')(j:PE X a ta)(l:PE X b tb)(m:PE X c tc)(n:lastMarks [op,o] [b,c]=false:=by with_unfolding_all rfl):PE X (.Compare a [op,o] [b,c] pos) (Ng r r' ta tb tc):=by intro p s σ H Q I h;refine Compare_chain (dC (j p s σ H _ I h) λv s1 (x,t,w,A,B)=>chain_link (dC (l p s1 σ t _ w B) λu s2 (y,C,D,R,E)=>dC (g p s2 σ C x y v u _ D A R E) λd S (z,f,i,F,k,e,q)=>?_)) n;subst e;cases F;refine dP ?_;cases k with|false=>exact ite_ff (.bl a',f,i,rfl,q)|true=>exact ite_tt (chain_last (dC (m p S σ f _ i q) λW G (Z,L,M,N,P)=>K p G σ L y Z u W Q M R N P))
def qS:(sizeLine:Nat)<2^63:=by rw[vQ];decide
def DE:jZ X (binaryOp .Add) λx y H Q=>∃i j,x=.str i/\y=.str j/\i.length+j.length<=sizeLine/\Q (.str (i++j)) H:=by intro p s σ H x y v u Q I r R h;have(i,j,rfl,rfl,z,q):=h;have(t,rfl):=r;have(T,rfl):=R;exact add_str (λT k=>(.str (i++j),H,I.tok _,(_,rfl),q)) z
def o6(r:Vals [x] us):∃u,us=[u]/\RelV x u:=by cases r with|cons R d=>cases d;exact(_,rfl,R)
def G7:dQ X (.type "int") λxs H Q=>(∃i,xs=[.int i]/\Q (.int i) H)\/∃k,xs=[.bl k]/\Q (.int (if k then 1 else 0)) H:=by
 intro p s σ H xs U Q I r h;rcases h with ⟨i,rfl,q⟩|⟨k,rfl,q⟩;.have(u,rfl,t,rfl):=o6 r;exact call_int_int (.int i,H,I,(_,rfl),q)
 .have(u,rfl,R):=o6 r;cases R;exact call_int_bool (.int (if k then 1 else 0),H,I.tok _,(_,rfl),q)
def x5:dQ X (.type "str") λxs H Q=>∃i,xs=[.int i]/\i.natAbs.log2<1920/\Q (.str (toString i)) H:=by intro p s σ H xs U Q I r h;have(i,rfl,z,q):=h;have(u,rfl,t,rfl):=o6 r;exact PySem.P.str_of_int z (.str _,H,I.tok _,(_,rfl),q)
end
structure BV(h:Heap)(x dx C:Addr)(mA:db):Prop where
 obj:h.get? x=O (instObj C dx)ns:h.Ns1 dx mA
 ne:dx≠x
def HJ{h:Heap}{m:db}(n:h.Ns1 d m):∃b,h.get? d=O b/\∀name,lookIn name b=O (m name):=by
 have(o,E,p,H,c,k,_,f):=n;refine(o,H,λname=>?_);have e:=f name;unfold nsFind findBy at e;rw[<-zN]at e;unfold lookIn;rw[c];dsimp only;split;.rename_i y q;rw[q]at e;exact cy O e
 .rename_i q;rw[q]at e;have a:E.toList.any (·.refKey)=false:=by rw[List.any_eq_false];intro y g;have(z,t,w):=k y (Array.mem_toList_iff.mp g);simp[DictEntry.refKey,w]
  have A:¬E.toList.any (·.refKey)=true:=by rw[a];exact aL
  rw[bL A];exact cy O e
def BV.look(I:BV h x d C m):∃o,PySem.W.InstAt h x (instObj C d) C (O o)/\∀name,lookIn name o=O (m name):=let (o,H,l):=HJ I.ns;(o,(I.obj,rfl,rfl,H),l)
section
variable{prog:cr}{w:cf}{A:c9}{E:dA}{s:be}{K:Frag}{x dx C f:Addr}{mA:db}{name:Str}{v:Value}
def PF{Q:dA}(X:K.In s.heap)(I:BV s.heap x dx C mA)(H:plainGet K C name)(a:hasDictIn K C)(b:findIn K (.ref C) name=O af)(c:mA name=O v)(d:handedIn v)(h:Q v {s with toks:=s.toks+1}):bv (ce prog w) A (getAttr (.ref x) name e) Q E s:=by have(o,j,l):=I.look;exact PySem.W.get_value X j (xE H).1 (PySem.W.findObj_own a b rfl (by rw[l,c])) d h
def Kq(X:K.In s.heap)(I:BV s.heap x dx C mA)(H:plainGet K C name)(a:findIn K (.ref C) name=O (O (.ref f)))(t:isFn K (.ref f))(b:mA name=af)(h:Q (.ref f,[.ref x]) s):bv (ce prog w) A (getMethod (.ref x) name pl) Q E s:=by have(o,j,l):=I.look;exact PySem.W.method_fn X j (xE H).1 (xE H).2 a (nZ.mp t) (by show(lookIn name o).map (·.isSome)=O a';rw[l,b];rfl) h
def RZ(X:K.In s.heap)(I:BV s.heap x dx C mA)(e:findIn K (.ref C) "__setattr__"=O (O (.builtin "object.__setattr__")))(p:plainOver K C)(t:takerIn K C name=O af)(g:hasDictIn K C)(i:ah5 mA n)(N:n.length<=sizeLine)(h:∀h',BV h' x dx C (λy=>if y=name then O v else mA y)->ad2 dx s.heap h'->Q () {s with heap:=h',toks:=s.toks+2}):bv (ce prog w) A (setAttr (.ref x) name v) Q E s:=by have(q,j,z):=I.look;refine PySem.W.set_plain X j e (PySem.W.osa_open (s:={s with toks:=s.toks+1}) (r:=af) X j p t λb=>?_);have(B,k,u):=PySem.W.any_some g;have l:s.heap.get? x=O (.ref C,O dx,.plain,#[]):=I.obj;refine aj (aJ (aj (aj (wpAny_loadPart l (aj (Looks.here (s:={s with toks:=s.toks+1}) (PySem.W.looks_clsIn X k) ?_))))));rw[u];refine aJ (a:=O dx) (aj (aJ (aj ?_)));refine wpAny_nsSet1 (s:={s with toks:=s.toks+1}) I.ns λh' L H=>?_;have(F,m,o,D,c,d):=L.count (PySem.Within.cons name v i);refine aj (wpAny_lookBehind D (by rw[c];exact pastItsLine_dict (aE d (by rw[ag];lia))) ?_);exact aJ (h _ ((H.2 _ (bX I.ne)).trans I.obj,L,I.ne) H)
def Lf(X:K.In s.heap)(H:makesIn K C)(i:findIn K (.ref C) "__init__"=O (O (.ref f)))(a:typeIn K (.ref f)=O (.type "function"))(h:codeAny (ce prog w) (A.under (.builtin "type.__call__" (.ref C::vs,k))) (.call (.ref f) (.ref (s.heap.objs.size+1)::vs,k)) (PySem.W.InitBack (s.heap.objs.size+1) R) {s with heap:=(s.heap.push emptyDict).push (instObj C s.heap.objs.size)}):codeAny (ce prog w) A (.call (.ref C) (vs,k)) R s:=by have(b,g,d,t,os):=s;exact PySem.W.make_core (PySem.W.makes_of X H) (PySem.W.looks_findIn X i) (λself=>PySem.W.bind_fn X self a) (.inl rfl) h
end
noncomputable def iJ(f:Str)(v:V):List (Str×V)->List (Str×V)|[]=>[(f,v)]|(g,x)::r=>if g=f then(g,v)::r else(g,x)::iJ f v r
theorem rN(f g:Str)(v:V):∀fs:List (Str×V),(iJ f v fs).lookup g=if g=f then O v else fs.lookup g
 |[]=>by
  show ae8 g [(f,v)]=_;by_cases h:g=f;.have H:(g==f)=true:=nZ.mpr h;simp only[ae8,H,bI h]
  .have H:(g==f)=false:=b3.mpr h;simp only[ae8,H,bL h]|(k,x)::r=>by
  have i:=rN f g v r;rw[show iJ f v ((k,x)::r)=if k=f then(k,v)::r else(k,x)::iJ f v r from rfl];by_cases a:k=f
  .rw[bI a];by_cases h:g=k;.have H:(g==k)=true:=nZ.mpr h;simp only[ae8,H,bI (h.trans a)]
   .have H:(g==k)=false:=b3.mpr h;simp only[ae8,H,bL λe:g=f=>h (e.trans a.symm)]
  .rw[bL a];by_cases h:g=k;.have H:(g==k)=true:=nZ.mpr h;simp only[ae8,H,bL λe:g=f=>a (h.symm.trans e)]
   .have H:(g==k)=false:=b3.mpr h;simp only[ae8,H];exact i
theorem qR(f:Str)(v:V):∀fs:List (Str×V),f∈(iJ f v fs).map (·.1)/\∀g,g∈fs.map (·.1)->g∈(iJ f v fs).map (·.1)
 |[]=>(by simp[iJ],λg h=>by simp at h)|(k,x)::r=>by
  have(i,I):=qR f v r;rw[show iJ f v ((k,x)::r)=if k=f then(k,v)::r else(k,x)::iJ f v r from rfl];by_cases H:k=f;.rw[bI H];subst H;exact(by simp,λg h=>by simpa using h)
  .rw[bL H];refine(?_,λg h=>?_);.rw[aH];exact ao _ i
   .rw[aH]at h⊢;rcases aK.mp h with e|e;.exact aK.mpr (.inl e)
    .exact ao _ (I g e)
theorem rM(f:Str)(v:V):∀fs:List (Str×V),(iJ f v fs).length<=fs.length+1
 |[]=>by simp[iJ]|(k,x)::r=>by
  have i:=rM f v r;rw[show iJ f v ((k,x)::r)=if k=f then(k,v)::r else(k,x)::iJ f v r from rfl];by_cases h:k=f;.rw[bI h,ag,ag];lia
  .rw[bL h,ag,ag];lia
def n0.some_of(r:n0 (O v) o):∃u,o=O u/\RelV v u:=by cases o with|none=>exact(show False from r).elim|some u=>exact(u,rfl,r)
def n0.none_of(r:n0 af o):o=none:=by cases o with|none=>rfl|some u=>exact(show False from r).elim
def Ht(r:RelV v u):handedIn u=true:=by cases v with|non=>cases show u=ab0 from r;rfl|bl b=>cases show u=af9 b from r;rfl|int i=>have(t,e):=show ∃t,u=af3 i t from r;cases e;rfl|str x=>have(t,e):=show ∃t,u=af7 x t from r;cases e;rfl|Z1 b=>have(t,e):=show ∃t,u=Value.bytes b t from r;cases e;rfl|Po b=>have(t,e):=show ∃t,u=Value.float b t from r;cases e;rfl|ref a=>cases show u=aa8 a from r;rfl|ty n=>cases show u=af4 n from r;rfl
section
variable{P:cr}{w:cf}{H H':Hp}{h h':Heap}{a C dx:Addr}{fs yo:List (Str×V)}
def tj(D:kS P w H h)(e:H a=O (.ins C dx fs)):∃m,BV h a dx C m/\(∀f,n0 (fs.lookup f) (m f))/\ah5 m (fs.map (·.1))/\fs.length<=1000/\H dx=O (.own a):=by have(d,z,N,o,m,n,r,q):=show eg P w H h a (.ins C dx fs)from D a _ e;exact(m,(o,n,N),r,q,z,d)
end
structure EC(K:Frag)(C:Addr):Prop where
 pg:plainGet K C Str.empty=J
 hd:hasDictIn K C=J
 po:plainOver K C=J
 sa:findIn K (.ref C) "__setattr__"=O (O (.builtin "object.__setattr__"))
def EC.get{K:Frag}(c:EC K C)(f:Str):plainGet K C f=true:=c.pg
def kX(K:Frag)(C:Addr)(f:Str):Prop:=findIn K (.ref C) f=O af
def kX.ac8{K:Frag}(n:kX K C f):takerIn K C f=O none:=by unfold takerIn;rw[show findIn K (.ref C) f=O af from n];rfl
structure Oj(K:Frag)(C:Addr)(m:Str)(f:Addr):Prop where
 at_:findIn K (.ref C) m=O (O (.ref f))fn:isFn K (.ref f)=J
 kp:keepIn K (.ref f)=J
section
variable{X:Cx}{bb:cp}{σ:tSt}{H:Hp}{s:be}{a C dx:Addr}{fs:List (Str×V)}{f:Str}{v:V}{A:c9}{E:dA}
def uw{Q:dA}(I:Inv X bb σ H s)(e:H a=O (.ins C dx fs))(c:EC X.K C)(n:kX X.K C f)(l:fs.lookup f=O v)(h:∀u s',Inv X bb σ H s'->RelV v u->Q u s'):bv (ce X.prog X.w) A (getAttr (.ref a) f b) Q E s:=by have(m,d,r,_,_,_):=tj I.di e;have(u,hu,R):=n0.some_of (v:=v) (o:=m f) (by rw[<-l];exact r f);exact PF I.nF d (c.get f) c.hd n hu (Ht R) (h u _ (I.tok _) R)
def CL(I:Inv X bb σ H s)(e:H a=O (.ins C dx fs))(c:EC X.K C)(k:Oj X.K C m g)(l:fs.lookup m=af)(h:Q (.ref g,[.ref a]) s):bv (ce X.prog X.w) A (getMethod (.ref a) m pl) Q E s:=by have(M,o,r,_,_,_):=tj I.di e;have n:M m=none:=n0.none_of (by rw[<-l];exact r m);exact Kq I.nF o (c.get m) k.at_ k.fn n h
def ve(I:Inv X bb σ H s)(e:H a=O (.ins C dx fs))(c:EC X.K C)(n:kX X.K C f)(F:fs.length<1000)(R:RelV y u)(h:∀s',Inv X bb σ (dv H a (.ins C dx (iJ f y fs))) s'->Q () s'):bv (ce X.prog X.w) A (setAttr (.ref a) f u) Q E s:=by
 have(m,d,r,W,_,j):=tj I.di e;have k:(fs.map (·.1)).length<=sizeLine:=by rw[ae,vQ];lia
 refine RZ I.nF d c.sa c.po n.ac8 c.hd W k λl i S=>h _ ?_;have p:∃o,l.get? dx=O o:=let (o,_,_,t,_):=i.ns;(o,t);refine I.write (x:=a) (e:=dx) (by rw[e];exact ae3) (.inr j) (λb q B z=>(S.2 b B).trans z) p ?_;refine(by rw[bJ d.ne];exact j,?_,d.ne,i.obj,_,i.ns,λg=>?_,λg D=>?_);.have:=rM f y fs;lia
 .show n0 ((iJ f y fs).lookup g) (if g=f then O u else m g);rw[rN];by_cases q:g=f;.rw[bI q,bI q];exact R
  .rw[bL q,bL q];exact r g
 .by_cases q:g=f;.rw[q];exact(qR f y fs).1
  .refine(qR f y fs).2 g (W g λz=>D ?_);show(if g=f then O u else m g)=af;rw[bL q];exact z
def Inv.made(I:Inv X bb σ H s):Inv X bb σ (dv (dv H s.heap.objs.size (.own (s.heap.objs.size+1))) (s.heap.objs.size+1) (.ins C s.heap.objs.size [])) {s with heap:=(s.heap.push emptyDict).push (instObj C s.heap.objs.size)}:=by
 have c:(s.heap.push emptyDict).get? s.heap.objs.size=O emptyDict:=a5 s.heap rfl;have d:((s.heap.push emptyDict).push (instObj C s.heap.objs.size)).get? (s.heap.objs.size+1)=O (instObj C s.heap.objs.size):=by have:=a5 (s.heap.push emptyDict) (o:=instObj C s.heap.objs.size) rfl;rwa[gZ]at this
 have g:(s.heap.push emptyDict).Ns s.heap.objs.size λ_=>af:=(emptyDict,#[],_,c,rfl,λe h=>absurd h (by simp),λ_=>rfl);have i:=I.laid (a:=s.heap.objs.size) (o:=.own (s.heap.objs.size+1)) (h':=s.heap.push emptyDict) (t':=s.toks) (λb u q=>aA _ q) (ay _) (_,c);refine i.laid (a:=s.heap.objs.size+1) (o:=.ins C s.heap.objs.size []) (t':=s.toks) (λb u q=>aA _ q) (l8 (gZ _ _)) ?_;have n:s.heap.objs.size≠s.heap.objs.size+1:=bG (fG _);refine(by rw[bJ n,bQ],bA _,n,d,λ_=>af,(Heap.Ns1.of_empty g).at λo q=>aA _ q,λ_=>ae3,λy j=>absurd rfl j)
def Ox{Q:dA}(b:gm e f env (eval e env)=eval e env)(h:bv (ce prog w) A (eval e env) (λo S=>bv (ce prog w) A (getAttr o f J) Q E S) E s):bv (ce prog w) A (eval (.Attribute e f pos) env) Q E s:=Attribute_any_ h (by rw[arm_eval_Attribute,b])
end
def ahE(K:Frag)(t:TE)(f:Str):TE:=λσ H Q=>t σ H λx h=>∃a C d fs v,x=.ref a/\h a=O (.ins C d fs)/\EC K C/\kX K C f/\fs.lookup f=O v/\Q v h
def Ji(K:Frag)(t T:TE)(f:Str):TS:=λD σ H=>T σ H λy b=>t σ b λx h=>∃a C d fs,x=.ref a/\h a=O (.ins C d fs)/\EC K C/\kX K C f/\fs.length<1000/\D.nx σ (dv h a (.ins C d (iJ f y fs)))
def I_(X:Cx)(op:Operator)(rd:V->V->Hp->VK->Prop):Prop:=∀(p:cp)(s:be)(σ:tSt)(H:Hp)(x y:V)(u v:Value)(Q:VK),Inv X p σ H s->RelV x u->RelV y v->rd x y H Q->bv (ce X.prog X.w) X.A (inplaceOp op u v) (EP X p σ Q) X.xe s
def Gi(K:Frag)(t T:TE)(rd:V->V->Hp->VK->Prop)(f:Str):TS:=λD σ H=>t σ H λx h=>∃a C d fs v,x=.ref a/\h a=O (.ins C d fs)/\EC K C/\kX K C f/\fs.lookup f=O v/\T σ h λy c=>rd v y c λz b=>∃ω Y,b a=O (.ins C ω Y)/\Y.length<1000/\D.nx σ (dv b a (.ins C ω (iJ f z Y)))
section
variable{X:Cx}{o e value:Expr}{f:Str}{pos pos' Bv:Pos}{ta tv:TE}
def Yf(b:PE X e ta)(d:gm e f X.env (eval e X.env)=eval e X.env):PE X (.Attribute e f pos) (ahE X.K ta f):=by intro p s σ H Q I h;refine Ox d (dC (b p s σ H _ I h) λu s1 x=>?_);have(x,g,i,r,a,C,D,fs,v,ex,E,c,n,l,q):=x;subst ex;obtain rfl:u=aa8 a:=r;exact uw i E c n l λU s2 j R=>(v,g,j,R,q)
def YJ(b:PE X o ta)(v:PE X value tv)(d:gt value (O (.Attribute o f pos')) pos.line X.env=pure a'):PS X (.Assign [.Attribute o f pos'] value pos) (Ji X.K ta tv f):=by intro p s σ H D I h;refine plainObj_wpAny_Assign_Attribute (dC (v p s σ H _ I h) λu s1 (y,g,i,r,q)=>dC (b p s1 σ g _ i q) λj s2 (x,t,k,R,a,C,w,fs,ex,E,c,n,l,Q)=>?_) d;subst ex;obtain rfl:j=aa8 a:=R;exact ve k E c n l r λS m=>(σ,_,m,Q)
def Io(b:PE X o ta)(d:PE X value tv)(g:I_ X op rd):PS X (.AugAssign (.Attribute o f Bv) op value pos) (Gi X.K ta tv rd f):=by intro p s σ H D I h;refine wpAny_AugAssign_AttributeAny (dC (b p s σ H _ I h) λi s1 x=>?_);have(x,j,k,r,a,C,T,fs,v,ex,m,c,n,l,q):=x;subst ex;obtain rfl:i=aa8 a:=r;refine uw k m c n l λu s2 t R=>dC (d p s2 σ j _ t q) λw S (y,A,B,F,Q)=>dC (g p S σ A v y u w _ B R F Q) λW U z=>?_;have(z,Y,G,L,ω,Z,E,M,N):=z;exact ve G E c n M L λs5 P=>(σ,_,P,N)
def x0:V->V->Hp->VK->Prop:=λx y H Q=>∃i j,x=.int i/\y=.int j/\Q (.int (i+j)) H
def WY:I_ X .Add x0:=by rintro p s σ H x y u v Q I r R ⟨i,j,rfl,rfl,q⟩;have(t,rfl):=show ∃t,u=af3 i t from r;have(T,rfl):=show ∃T,v=af3 j T from R;exact PyProof.Rows.iadd_int (.int (i+j),H,I.tok _,(_,rfl),q)
end
section
variable{X:Cx}{bb:cp}{σ:tSt}{H:Hp}{s:be}{A:c9}{E:dA}{Q:dA}{c:Value}{b:Bool}
inductive qH(K:Frag)(H:Hp):V->Value->Prop where|non:qH K H .non (.type "NoneType")|bl(x:Bool):qH K H (.bl x) (.type "bool")|int(i:Int):qH K H (.int i) (.type "int")|str(x:Str):qH K H (.str x) (.type "str")|Po(x:UInt64):qH K H (.Po x) (.type "float")|lst{a:Addr}{xs:ϕ}(e:H a=O (.lst xs)):qH K H (.ref a) (.type "list")|CK{a:Addr}{o:Obj}{xs:ϕ}(e:H a=O (.CK o (.lst xs))):qH K H (.ref a) (.type "list")|tup{a:Addr}{xs:ϕ}(e:H a=O (.tup xs)):qH K H (.ref a) (.type "tuple")|dK{a:Addr}{bE:List (cv×V)}(e:H a=O (.dK bE)):qH K H (.ref a) (.type "dict")|dT{a:Addr}{bE:List (List cv×V)}(e:H a=O (.dT bE)):qH K H (.ref a) (.type "dict")|ins{a C dx:Addr}{fs:List (Str×V)}(e:H a=O (.ins C dx fs))(cl:EC K C)(ha:findIn K (.ref C) "__class__"=O (O (.builtin "object.__class__")))(hn:PySem.W.specialIn K (.builtin "object.__class__") "__get__"=O (O (.builtin "getset_descriptor.__get__")))(htk:PySem.W.takesIn K (.builtin "object.__class__")=O J)(hm:mroIn K C (.type "object")=O J):qH K H (.ref a) (.ref C)
def HD(I:Inv X bb σ H s)(r:RelV x u)(ty:qH X.K H x t)(e:kitOne X.K t c=O b)(h:∀T,Q (.bool b) {s with toks:=T}):bv (ce X.prog X.w) A (call (.builtin "isinstance") [u,c]) Q E s:=by cases ty with|non=>cases show u=ab0 from r;exact cK PySem.W.kitx_none I.nF ae3 e (λz=>nomatch z) h|bl y=>cases show u=af9 y from r;exact cK PySem.W.kitx_bool I.nF ae3 e (λz=>nomatch z) h|int i=>have(t,q):=show ∃t,u=af3 i t from r;cases q;exact cK PySem.W.kitx_int I.nF ae3 e (λz=>nomatch z) h|str y=>have(t,q):=show ∃t,u=af7 y t from r;cases q;exact cK PySem.W.kitx_str I.nF ae3 e (λz=>nomatch z) h|Po y=>have(t,q):=show ∃t,u=Value.float y t from r;cases q;exact cK PySem.W.kitx_float I.nF ae3 e (λz=>nomatch z) h|@lst a k f=>cases show u=aa8 a from r;have(_,_,n,_,g):=show eg X.prog X.w H s.heap a (.lst k)from I.di a _ f;exact cK PySem.W.kitx_list I.nF (_,g,rfl) e (λz=>nomatch z) h|@CK a v k f=>cases show u=aa8 a from r;have(_,_,_,n,_,g):=show eg X.prog X.w H s.heap a (.CK v (.lst k))from I.di a _ f;exact cK PySem.W.kitx_list I.nF (_,g,rfl) e (λz=>nomatch z) h|@tup a k f=>cases show u=aa8 a from r;have(_,_,_,p):=show eg X.prog X.w H s.heap a (.tup k)from I.di a _ f;have(o,g,l,_):=p;exact cK PySem.W.kitx_tuple I.nF (o,g,l) e (λz=>nomatch z) h|@dK a B f=>cases show u=aa8 a from r;have(_,_,N,_,p):=show eg X.prog X.w H s.heap a (.dK B)from I.di a _ f;have(o,D,F,g,l,_):=p;exact cK PySem.W.kitx_dict I.nF (o,g,l.1) e (λz=>nomatch z) h|@dT a B f=>cases show u=aa8 a from r;have(_,_,k,_,o,D,F,g,l,_):=show eg X.prog X.w H s.heap a (.dT B)from I.di a _ f;exact cK PySem.W.kitx_dict I.nF (o,g,l.1) e (λz=>nomatch z) h|@ins a C P fs f cl G L m M=>cases show u=aa8 a from r;have(R,d,_):=tj I.di f;have(S,j,_):=d.look;exact cK (PySem.W.kitx_own (cl.get _) cl.hd G L m M) I.nF j e (λz=>nomatch z) h
end
structure dR(k:Nat)(A:c9):Prop where
 hd:A.handled=af
 dp:A.depth+3*k+5<recursionLimit
 un:A.units+16*k+200<cLine
def dR.mono(r:dR k A)(h:j<=k):dR j A:=(r.hd,by have:=r.dp;lia,by have:=r.un;lia)
theorem dR.deeper(r:dR (k+1) A)(env:Env):dR k (A.deeper env):=(r.hd,by have:=r.dp;show A.depth+1+3*k+5<_;lia,by have:=r.un;show A.units+3+16*k+200<_;lia)
def Dm{A:c9}:(A.under (.builtin "type.__call__" (.ref C::us,k))).depth=A.depth+1:=by first|rfl|simp[Around.under,Code.weight,Code.isCreation,Code.isGuard,Code.isCaller,Code.frames,Code.isFrame,guardIds]
def Dn{A:c9}:(A.under (.builtin "type.__call__" (.ref C::us,k))).units=A.units+1:=by first|rfl|simp[Around.under,Code.cUnits,Code.frames,Code.isFrame]
def dR.make(r:dR (k+1) A)(C:Addr)(us:List Value)(K:List (Str×Value)):dR k (A.under (.builtin "type.__call__" (.ref C::us,K))):=(r.hd,by have:=r.dp;rw[Dm];lia,by have:=r.un;rw[Dn];lia)
theorem dR.depth(r:dR k A):A.depth<recursionLimit:=by have:=r.dp;lia
theorem dR.units(r:dR k A):A.units+64<cLine:=by have:=r.un;lia
def Eo:TA:=λ_ H Q=>Q [] H
def Nh(t:TE)(tr:TA):TA:=λσ H Q=>t σ H λx h=>tr σ h λX a=>Q (x::X) a
section
variable{X:Cx}{e:Expr}{es:List Expr}{te:TE}{t:TA}{pos:Pos}
def qX:PA X [] Eo:=λ_ _ _ _ H Q I h=>Calls.spliced_nil ([],H,I,.nil,h)
def FW(a:PE X e te)(r:PA X es t)(b:autoParam (dt (e::es) X.env=(a',eval e X.env)::dt es X.env) o0):PA X (e::es) (Nh te t):=by intro pos p s σ H Q I h;rw[b];show bv _ _ (spliced ((a',eval e X.env)::en pos (dt es X.env))) _ _ s;refine Calls.spliced_cons (dC (a p s σ H _ I h) λu s1 x=>?_);have(x,c,i,R,q):=x;exact dC (r pos p s1 σ c _ i q) λU s2 (d,f,g,j,k)=>(x::d,f,g,.cons R j,k)
def IC(t:TA):TE:=λσ H Q=>t σ H λx h=>x.length<=sizeLine/\∀p,h p=af->Q (.ref p) (dv h p (.tup x))
def Sh(t:TA):TE:=λσ H Q=>t σ H λx h=>x.length<=sizeLine/\∀p,h p=af->Q (.ref p) (dv h p (.lst x))
def Yj{x}(h:PA X es t):PE X (.Tuple es x pos) (IC t):=by intro p s σ H Q I c;refine wpAny_Tuple_spliced (dC (h pos p s σ H _ I c) λU s1 (d,a,i,r,z,q)=>(by rw[<-r.length];exact z,?_));have f:a s1.heap.objs.size=none:=i.di.fresh (ay _);refine(.ref s1.heap.objs.size,dv a s1.heap.objs.size (.tup d),i.laid (t':=s1.toks) (λb u e=>aA _ e) (ay _) ?_,rfl,q _ f);exact(z,U,r,(_,a5 _ rfl,rfl,_,rfl))
def DK(h:PA X es t):PE X (.List es pos) (Sh t):=by intro p s σ H Q I c;refine wpAny_List_spliced (dC (h pos p s σ H _ I c) λU s1 (x,a,i,r,z,q)=>(by rw[<-r.length];exact z,?_));have f:a s1.heap.objs.size=none:=i.di.fresh (ay _);refine(.ref s1.heap.objs.size,dv a s1.heap.objs.size (.lst x),i.laid (t':=s1.toks) (λb u e=>aA _ e) (ay _) ?_,rfl,q _ f);exact(z,U,0,r,a5 _ rfl)
end
abbrev Sp:=ϕ->Hp->VK->XK->Prop
abbrev wG:=List Env->Hp->be->XK->Value->be->Prop
structure BU(P:cr)(w:cf)(K:Frag)(mg:db)(base:Heap)(A:c9)(outer:List Env)(s:be)(H:Hp):Prop where
 frames:A.frames=O outer
 mod:Mod K mg base
 bs:∀b o,base.get? b=O o->s.heap.get? b=O o/\H b=af
 G3:base.objs.size<=s.heap.objs.size
 mE:s.heap.FunFrames base outer
 NY:∀b∈ox outer,H b=af
 di:kS P w H s.heap
 bare:AllBare s.gens
def CE(o:List Env)(P:cr)(w:cf)(H:Hp)(s:be)(Q:VK)(u:Value)(s':be):Prop:=∃v h,s'.os=s.os/\AllBare s'.gens/\Un (ox o) [] H h s.heap s'.heap/\kS P w h s'.heap/\RelV v u/\Q v h
def CR(CX:wG)(o:List Env)(P:cr)(w:cf)(H:Hp)(s:be)(Q:VK)(E:XK)(r:Result)(s':be):Prop:=match r with|.ok (.ret u)=>CE o P w H s Q u s'|.ok _=>False|.error e=>CX o H s E e s'
structure iB(P:cr)(w:cf)(K:Frag)(mg:db)(base:Heap)(CX:wG)(k:Nat)(f:Addr)(fd:dV)(ps:ϐ)(sp:Sp):Prop where
 len:∀vs H Q E,sp vs H Q E->vs.length=ps.length
 run:∀(A:c9)(outer:List Env)(s:be)(H:Hp)(args:Args)(us:List Value)(vs:ϕ)(Q:VK)(E:XK),dR k A->BU P w K mg base A outer s H->BindsTo s fd args (ps.zip us)->Vals vs us->sp vs H Q E->codeAny (ce P w) A (.call (.ref f) args) (CR CX outer P w H s Q E) s
theorem iB.mono{K:Frag}(F:iB P w K m base CX j f d ps sp)(h:j<=k):iB P w K m base CX k f d ps sp:=(F.len,λA o s H args u v Q E r=>F.run A o s H args u v Q E (r.mono h))
def iB.imp{K:Frag}(F:iB P w K m base CX k f d ps sp)(h:∀vs H Q E,Zd vs H Q E->sp vs H Q E):iB P w K m base CX k f d ps Zd:=(λvs H Q E q=>F.len vs H Q E (h _ _ _ _ q),λA o s H args u vs Q E r e b v a=>F.run A o s H args u vs Q E r e b v (h _ _ _ _ a))
def BU.make{K:Frag}(e:BU P w K m base A o s H)(C:Addr)(us:List Value)(k:List (Str×Value)):BU P w K m base (A.under (.builtin "type.__call__" (.ref C::us,k))) o s H:=(by first|exact e.frames|(simpa[Around.under,Code.envs,Code.isFrame,pushEnvs]using e.frames),e.mod,e.bs,e.G3,e.mE,e.NY,e.di,e.bare)
section
variable{X:Cx}{bb:cp}{σ:tSt}{H:Hp}{s s':be}
def Inv.Λ(I:Inv X bb σ H s):BU X.prog X.w X.K X.mg X.base X.A X.stack s H:=(I.ok.frames,I.ok.mod,I.bs,aE I.ok.G3 I.sz,I.stack,I.qk,I.di,I.bare)
def Inv.after(I:Inv X bb σ H s)(h:CE X.stack X.prog X.w H s Q u s'):EP X bb σ Q u s':=by have(v,a,os,B,un,D,r,q):=h;have(c,g,d,t,o):=s';obtain rfl:o=s.os:=os;exact(v,a,I.call (h':=c) (g':=g) (d':=d) (t':=t) (ch:=[]) un D B λb z=>absurd z (by simp),r,q)
end
def Nd(sp:Sp)(v:ϕ)(E:XK)(t:TA):TE:=λσ H Q=>t σ H λs h=>sp (s++v) h Q E
def Nj(C:Addr)(m:Str)(sp:Sp)(v:ϕ)(E:XK)(T:TE)(t:TA):TE:=λσ H Q=>T σ H λx h=>∃a d fs,x=.ref a/\h a=O (.ins C d fs)/\fs.lookup m=af/\t σ h λs b=>sp (x::(s++v)) b Q E
def GG(C:Addr)(sp:Sp)(I:ϕ)(E:XK)(t:TA):TE:=λσ H Q=>t σ H λs h=>∀x d,h x=af->h d=af->d≠x->sp (.ref x::(s++I)) (dv (dv h d (.own x)) x (.ins C d [])) (λv a=>v=.non/\Q (.ref x) a) E
def Binds(K:Frag)(f:dV)(ps:ϐ)(ds:List Value):Prop:=∀(s:be)(u:List Value),K.In s.heap->(u++ds).length=ps.length->BindsTo s f (u,[]) (ps.zip (u++ds))
def Binds.all{K:Frag}(h:∀us:List Value,us.length=ps.length->bindArgs f (us,[])=pure (ps.zip us)):Binds K f ps []:=λs us _ H=>by rw[aI]at H⊢;exact .of_eq (h us H)
def dZ(CX:wG)(X:Cx)(E:XK):Prop:=∀(p:cp)(σ:tSt)(H:Hp)(s:be)(e:Value)(S:be),Inv X p σ H s->CX X.stack H s E e S->X.xe e S
section
variable{X:Cx}{CX:wG}{k:Nat}{f C:Addr}{fd:dV}{ps:ϐ}{sp:Sp}{vI:ϕ}{ds:List Value}{E:XK}{x m:Str}{p pos ci:Pos}{e o:Expr}{es:List Expr}{ta:TE}{t:TA}
def zd{σ:tSt}(F:iB X.prog X.w X.K X.mg X.base CX k f fd ps sp)(a:dR k X.A)(b:Binds X.K fd ps ds)(d:Vals vI ds)(c:dZ CX X E)(I:Inv X P σ H s)(r:Vals vs us)(h:sp (vs++vI) H Q E):bv (ce X.prog X.w) X.A (call (.ref f) us) (EP X P σ Q) X.xe s:=by
 have R:Vals (vs++vI) (us++ds):=r.append d;have l:(us++ds).length=ps.length:=by rw[<-R.length];exact F.len _ _ _ _ h
 refine wpAny_call (md (F.run X.A X.stack s H (us,[]) (us++ds) (vs++vI) Q E a I.Λ (b s us I.nF l) R h) λr S q=>?_);cases r with|error e=>exact c P σ H s e S I q|ok g=>cases g with|ret u=>exact I.after q|next=>exact ad0 q|brk=>exact ad0 q|cont=>exact ad0 q
def Q9(F:iB X.prog X.w X.K X.mg X.base CX k f fd ps sp)(a:dR k X.A)(g:Gl X x)(b:X.mg x=O (.ref f))(c:keepIn X.K (.ref f))(d:Binds X.K fd ps ds)(j:Vals vI ds)(l:dZ CX X E)(n:PA X (e::es) t)(u:autoParam ((x==("__debug__":Str))=a') W1)(v:autoParam (dt (e::es) X.env=(a',eval e X.env)::dt es X.env) o0)(D:autoParam ((en pos (dt es X.env)).any (·.1)=a') o0):PE X (.Call (.Name x p) (e::es) [] pos) (Nd sp vI E t):=by intro P s σ H Q I h;refine fX (nH I g b ?_ u);refine nY (h₀:=X.base) I.ok.mod.T6 c (dC (n pos P s σ H _ I h) λU s1 (y,z,i,r,q)=>(i.nF,?_)) v D;exact zd F a d j l i r q
def L7{pl:Sem Bool}(d:PE X o ta)(c:EC X.K C)(b:Oj X.K C m f)(F:iB X.prog X.w X.K X.mg X.base CX k f fd ps sp)(r:dR k X.A)(g:Binds X.K fd ps ds)(j:Vals vI ds)(n:dZ CX X E)(y:autoParam (eval (.Call (.Attribute o m ci) [] [] pos) X.env=do
   let v<-eval o X.env
   standAt ci.atName let(f,first)<-fy [v] (getMethod v m pl)callWith pos f first (en pos (dt [] X.env)) (backToKw pos (g_ [] X.env))) o0):PE X (.Call (.Attribute o m ci) [] [] pos) (Nj C m sp vI E ta Eo):=by intro P s σ H Q I h;refine PySem.W.methodCall_KW (pl:=pl) (dC (d P s σ H _ I h) λu s1 (x,B,i,R,a,D,fs,ex,z,l,q)=>?_) y;subst ex;obtain rfl:u=aa8 a:=R;refine CL i z c b l ?_;exact CU (first:=[.ref a]) i.nF b.kp (zd (us:=[.ref a]) (vs:=[.ref a]) F r g j n i (.cons rfl .nil) q)
structure Mk(K:Frag)(C f:Addr):Prop where
 makes:makesIn K C=J
 init:findIn K (.ref C) "__init__"=O (O (.ref f))fn:isFn K (.ref f)=J
 kp:keepIn K (.ref C)=J
def Bq{σ:tSt}(M:Mk X.K C f)(F:iB X.prog X.w X.K X.mg X.base CX k f fd ps sp)(a:dR (k+1) X.A)(b:Binds X.K fd ps ds)(c:Vals vI ds)(g:dZ CX X E)(I:Inv X P σ H s)(r:Vals vs us)(h:∀x d,H x=af->H d=af->d≠x->sp (.ref x::(vs++vI)) (dv (dv H d (.own x)) x (.ins C d [])) (λv j=>v=.non/\Q (.ref x) j) E):bv (ce X.prog X.w) X.A (call (.ref C) us) (EP X P σ Q) X.xe s:=by
 have q:=h (s.heap.objs.size+1) s.heap.objs.size (I.di.fresh (Nat.le_succ _)) (I.di.fresh (ay _)) (bG (fG _));have i:=Inv.made (C:=C) I;have R:Vals (V.ref (s.heap.objs.size+1)::(vs++vI)) (aa8 (s.heap.objs.size+1)::(us++ds)):=.cons rfl (r.append c);have l:(aa8 (s.heap.objs.size+1)::us++ds).length=ps.length:=by have e:=R.length;rw[F.len _ _ _ _ q]at e;exact e.symm
 refine wpAny_call (Lf (f:=f) I.nF M.makes M.init (nZ.mp M.fn) (md (F.run _ X.stack _ _ (aa8 (s.heap.objs.size+1)::us,[]) (aa8 (s.heap.objs.size+1)::(us++ds)) _ _ E (a.make C us []) (i.Λ.make C us []) (b _ (aa8 (s.heap.objs.size+1)::us) i.nF l) R q) λr S W=>?_));cases r with|error e=>exact g P σ _ _ e S i W|ok n=>cases n with|ret u=>have(v,y,z,B,D,G):=i.after W;subst D;exact(B,(V.ref (s.heap.objs.size+1),y,z,rfl,G))|next=>exact ad0 W|brk=>exact ad0 W|cont=>exact ad0 W
def Rf(M:Mk X.K C f)(F:iB X.prog X.w X.K X.mg X.base CX k f fd ps sp)(a:dR (k+1) X.A)(g:Gl X x)(b:X.mg x=O (.ref C))(c:Binds X.K fd ps ds)(d:Vals vI ds)(j:dZ CX X E)(l:PA X (e::es) t)(n:autoParam ((x==("__debug__":Str))=a') W1)(u:autoParam (dt (e::es) X.env=(a',eval e X.env)::dt es X.env) o0)(D:autoParam ((en pos (dt es X.env)).any (·.1)=a') o0):PE X (.Call (.Name x p) (e::es) [] pos) (GG C sp vI E t):=by intro P s σ H Q I h;refine fX (nH I g b ?_ n);refine nY (h₀:=X.base) I.ok.mod.T6 M.kp (dC (l pos P s σ H _ I h) λU s1 (v,y,i,r,q)=>(i.nF,?_)) u D;exact Bq M F a c d j i r q
def L6(M:Mk X.K C f)(F:iB X.prog X.w X.K X.mg X.base CX k f fd ps sp)(r:dR (k+1) X.A)(g:Gl X x)(a:X.mg x=O (.ref C))(b:Binds X.K fd ps ds)(d:Vals vI ds)(c:dZ CX X E)(j:autoParam ((x==("__debug__":Str))=a') W1):PE X (.Call (.Name x p) [] [] pos) (GG C sp vI E Eo):=by intro P s σ H Q I h;refine fX (nH I g a ?_ j);exact CU I.nF M.kp (Bq (us:=[]) M F r b d c I .nil h)
end
section
variable{X:Cx}{CX:wG}{k:Nat}{f C:Addr}{fd:dV}{ps ks:ϐ}{sp:Sp}{E:XK}{x m:Str}{p pos ci agI:Pos}{e o:Expr}{es:List Expr}{kws:List Keyword}{te ta:TE}{t tk:TA}{nm:Option Str}
variable{g:List Value->List Value->List Value}{gV:ϕ->ϕ->ϕ}
end
structure eD(N P:ϐ)(sc:Scope):Prop where
 kind:sc.kind=.function
 co:sc.isCoroutine=a'
 gen:sc.isGenerator=a'
 nd:N.Nodup
 pre:N.take P.length=P
 par:∀x∈P,sc.names.lookup x=O .local\/sc.names.lookup x=O .cell
 XF:∀y∈sc.names,y.2≠.free
theorem wM{kindOf:Str->Option NameKind}:∀{binds:List (Str×Value)}{m:db},(∀v,(x,v)∉binds)->bindL kindOf binds m x=m x
 |[],_,_=>rfl|(n,v)::r,m,h=>by
  unfold bindL;rw[wM λw H=>h w (ao _ H)];split
  .have:x≠n:=by rintro rfl;exact h v au
   simp[this]
  .rfl
theorem wK{kindOf:Str->Option NameKind}:∀{binds:List (Str×Value)}{m:db},(∀v,(x,v)∉binds)->bindC kindOf binds m x=m x
 |[],_,_=>rfl|(n,v)::r,m,h=>by
  unfold bindC;rw[wK λw H=>h w (ao _ H)];split;.rfl
  .have:x≠n:=by rintro rfl;exact h v au
   simp[this]
theorem wL{kindOf:Str->Option NameKind}{x:Str}{v:Value}:∀{P:ϐ}{vs:List Value}{i:Nat}{m:db},P.Nodup->P[i]?=O x->vs[i]?=O v->kindOf x=O .local->bindL kindOf (P.zip vs) m x=O v|[],_,_,_,_,h,_,_=>by simp at h|_::_,[],_,_,_,_,h,_=>by simp at h|p::P,w::vs,0,m,n,H,a,k=>by simp at H a;subst H;subst a;show bindL kindOf ((p,w)::P.zip vs) m p=_;unfold bindL;rw[wM λv b=>(cj.mp n).1 (Jn b).1,bI k];simp|p::P,w::vs,i+1,m,n,H,a,k=>by show bindL kindOf ((p,w)::P.zip vs) m x=_;unfold bindL;exact wL (i:=i) (cj.mp n).2 (by simpa using H) (by simpa using a) k
theorem wJ{kindOf:Str->Option NameKind}{x:Str}{v:Value}:∀{P:ϐ}{vs:List Value}{i:Nat}{m:db},P.Nodup->P[i]?=O x->vs[i]?=O v->kindOf x≠O .local->bindC kindOf (P.zip vs) m x=O v|[],_,_,_,_,h,_,_=>by simp at h|_::_,[],_,_,_,_,h,_=>by simp at h|p::P,w::vs,0,m,n,H,a,k=>by simp at H a;subst H;subst a;show bindC kindOf ((p,w)::P.zip vs) m p=_;unfold bindC;rw[wK λv b=>(cj.mp n).1 (Jn b).1,bL k];simp|p::P,w::vs,i+1,m,n,H,a,k=>by show bindC kindOf ((p,w)::P.zip vs) m x=_;unfold bindC;exact wJ (i:=i) (cj.mp n).2 (by simpa using H) (by simpa using a) k
def start(N:ϐ)(vs:ϕ):tSt:=vs.map O++aa5 (N.length-vs.length) af
noncomputable def qN(CX:wG)(P:cr)(w:cf)(K:Frag)(mg:db)(base:Heap)(N:ϐ)(q:Str)(S:Scope)(f:Addr)(c:Value)(A:c9)(outer:List Env)(s:be)(H:Hp)(E:XK):Cx where prog:=P;w:=w;K:=K;mg:=mg;base:=base;A:=A.deeper (envOfC q S s.heap.objs.size f c);N:=N;s₀:=s;H₀:=H;env:=envOfC q S s.heap.objs.size f c;outer:=outer;stack:=envOfC q S s.heap.objs.size f c::outer;ex:=[];calm:=J;fn:=λ_=>J;pn:=[];xe:=λe a=>bv (ce P w) (A.deeper (envOfC q S s.heap.objs.size f c)) (leaving (envOfC q S s.heap.objs.size f c) e) (λ_ I=>CX outer H s E e I) (λb I=>CX outer H s E b I) a
def Ac{s:Scope}(h:s.names.lookup x=O .cell):∃c,(cellsFrom n s.names []).lookup x=O c:=by have q:=z_ s.names n [] (.inl h);exact cq.mp q
def HA{K:Frag}(S:eD N ps d)(G:A.handled=af)(e0:BU P w K M base A o s H)(L:vs.length=ps.length)(r:Vals vs us)(x:InCallC s s.heap.objs.size (bindL (envOfC Q d s.heap.objs.size f C).kindOf (ps.zip us) λ_=>af) (cellsFrom (s.heap.objs.size+1) d.names []) (bindC (envOfC Q d s.heap.objs.size f C).kindOf (ps.zip us) λ_=>af) s1):Inv (qN CX P w K M base N Q d f C A o s H E) [] (start N vs) H s1:=by
 have T:ps.length<=N.length:=by have:=cy ad1 S.pre;rw[bW]at this;lia
 have(B,U,rfl,F):=x.done;have j:∀b:Addr,b∉(qN CX P w K M base N Q d f C A o s H E).ex:=λb z=>absurd (show b∈([]:List Addr)from z) (by simp);refine((e0.mod,S.kind,rfl,rfl,ay _,λy z c B g=>?_,λy l=>?_,λy c _ h=>?_,λ_=>G,Around.frames_deeper e0.frames,.inr (rfl,rfl),λb z=>absurd z (j b),e0.bs,e0.G3,λb _ _=>j b,λb z=>absurd z (j b),e0.mE,e0.NY),rfl,e0.bare,Un.kept F,(_,x.toInCall.ns,λi y v B g W=>?_),λy c h=>(_,x.cell y c h),e0.di.fresh (ay _),λy c h=>?_,λp m=>absurd (show p∈([]:cp)from m) (by simp),e0.di.kept F,?_);.exact name_of_addr x.apart (iA B) (iA g)
 .have l:d.names.lookup y=O .cell\/d.names.lookup y=O .free:=l;rcases l with l|l;.exact Ac l
  .exact absurd rfl (S.XF _ (iA l))
 .exact y_ (x.above y c (iA h))
 .have D:i<vs.length:=by
   unfold start at g;by_cases D:i<vs.length;.exact D
   .rw[aM (by simpa using D)]at g;rw[fB]at g;split at g<;>cases g
  have I:vs[i]?=O v:=by unfold start at g;rw[aZ (by simpa using D),bN]at g;cases e:vs[i]? with|none=>rw[e]at g;cases g|some a=>rw[e]at g;cases g;rfl
  have(u,hu,R):=r.get I;have m:ps[i]?=O y:=by rw[<-S.pre,iM (by lia)];exact B
  have t:ps.Nodup:=by rw[<-S.pre];exact S.nd.sublist (cQ _ _)
  refine(u,R,?_);rcases S.par y (a7 m)with k|k;.exact .inl (k,wL t m hu k)
  .have(c,e):=Ac (n:=s.heap.objs.size+1) k;refine .inr (.inl k,c,e,?_);have q:=x.cell y c e;rw[wJ t m hu (by show d.names.lookup y≠_;rw[k];decide)]at q;exact q
 .exact e0.di.fresh (y_ (x.above y c (iA h)))
 .unfold start;show _=N.length;rw[aa,ae,bR];lia
def AA{K:Frag}{kV:Value}(lk:K.lookup f=O (oc,M,.func (fnOf name l p B a D kV doc z C F ct),T))(U:codeIn K F l)(S:eD N ps a)(len:∀vs H Q E,sp vs H Q E->vs.length=ps.length)(Y:∀(A:c9)(c:List Env)(s:be)(H:Hp)(vs:ϕ)(Q:VK)(E:XK),dR k (A.deeper (envOfC l a s.heap.objs.size f F))->sp vs H Q E->∃t,oH (qN CX P w K m base N l a f F A c s H E) B t/\t {nx:=λ_ H'=>Q .non H',rt:=Q} (start N vs) H):iB P w K m base CX (k+1) f (fnOf name l p B a D kV doc z C F ct) ps sp:=by
 refine(len,λA c s H args Z vs Q E g e0 hb r G=>?_);have hl:=len _ _ _ _ G;have X:K.In s.heap:=e0.mod.T6.keeps λb o e=>(e0.bs b o e).1;have L:s.heap.NoLimit:=e0.mod.nolimit.keeps λb o e=>(e0.bs b o e).1;have i:∀y∈ps.zip Z,a.names.lookup y.1=O .local\/a.names.lookup y.1=O .cell/\((cellsFrom (s.heap.objs.size+1) a.names []).lookup y.1).isSome:=λ(n,v) hy=>by
  rcases S.par n (Jn hy).1 with q|q;.exact .inl q
  .exact .inr (q,z_ _ _ _ (.inl q))
 refine codeAny_call_function g.depth (X _ _ lk) rfl S.co S.gen rfl (PySem.W.codeRec_of X U) (hb _ _ _ _ ?_);refine wpAny_newFunctionEnv_cells S.kind i λenv he s1 x=>?_;subst he;refine(L.keeps x.toInCall.keep,codeAny_func ?_);have(t,ht,hq):=Y A c s H vs Q E (g.deeper _) G;have I:Inv (qN CX P w K m base N l a f F A c s H E) [] (start N vs) H s1:=HA S g.hd e0 hl r x;refine fe (ht [] s1 (start N vs) H _ I hq) (λfl s' h=>?_) λe s' h=>h;have fin:∀{d:tSt}{H':Hp}{v:V}{u:Value},Inv (qN CX P w K m base N l a f F A c s H E) [] d H' s'->RelV v u->Q v H'->CE c P w H s Q u s':=λ{d H' v u}j R q=>(v,H',j.os,j.bare,j.base,j.di,R,q);cases fl with|ret u=>have(v,d,H',j,R,q):=h;exact fin j R q|next=>have(d,H',j,q):=h;exact fin (v:=V.non) (u:=ab0) j rfl q|brk=>have(_,_,_,q):=h;exact ad0 q|cont=>have(_,_,_,q):=h;exact ad0 q
section
variable{X:Cx}{x:Str}{p pos:Pos}{e:Expr}{es:List Expr}{t:TA}{id T:String}{r:ϕ->Hp->VK->Prop}
def ki(r:ϕ->Hp->VK->Prop)(t:TA):TE:=λσ H Q=>t σ H λv h=>r v h Q
def LZ(c:dQ X (.builtin id) r)(g:Gl X x)(m:X.mg x=af)(v:d4 x=O (.builtin id))(a:PA X (e::es) t)(n:autoParam (x≠"__name__") W1)(j:autoParam ((x==("__debug__":Str))=a') W1)(b:autoParam (dt (e::es) X.env=(a',eval e X.env)::dt es X.env) o0)(d:autoParam ((en pos (dt es X.env)).any (·.1)=a') o0):PE X (.Call (.Name x p) (e::es) [] pos) (ki r t):=by intro P s σ H Q I h;refine fX (uJ I g m v ?_ n j);exact PyProof.Rows.callWith_builtin1 (dC (a pos P s σ H _ I h) λu s1 (f,i,k,R,q)=>c P s1 σ i f u Q k R q) b d
def HZ(c:dQ X (.type T) r)(g:Gl X x)(m:X.mg x=af)(v:d4 x=O (.type T))(a:PA X (e::es) t)(n:autoParam (x≠"__name__") W1)(j:autoParam ((x==("__debug__":Str))=a') W1)(b:autoParam (dt (e::es) X.env=(a',eval e X.env)::dt es X.env) o0)(d:autoParam ((en pos (dt es X.env)).any (·.1)=a') o0):PE X (.Call (.Name x p) (e::es) [] pos) (ki r t):=by intro P s σ H Q I h;refine fX (uJ I g m v ?_ n j);exact ma (dC (a pos P s σ H _ I h) λu s1 (f,i,k,R,q)=>c P s1 σ i f u Q k R q) b d
end
end L2
namespace HT
section
open PySem.SeqAt
open PySem.AutoSeq1(wpAny_loadPart')
open PySem.MeetsSeq PySem.MeetsSeq2 PySem.MeetsSeq3
end
section
variable{prog:cr}{w:cf}{A:c9}{E:dA}{s:be}
def OP{Q:dA}(g:IsTup s.heap t vs.toArray)(i:IsTup s.heap b ws.toArray)(v:vs ≠[])(j:ws=[]->Q (.ref t) s)(k:ws ≠[]->Q (.ref s.heap.objs.size) {s with heap:=s.heap.push {cls:=.type "tuple",data:=.seq (vs++ws).toArray}})(l:vs.length+ws.length<=sizeLine):bv (ce prog w) A (binaryOp .Add (.ref t) (.ref b)) Q E s:=by
 obtain⟨⟨cls,D,data,sl⟩,o,c,n,f⟩:=id g;obtain⟨⟨m,d,data2,S⟩,W,h,N,H⟩:=id i;simp only at c f h H;subst c f h H;have e:vs.toArray++ws.toArray=(vs++ws).toArray:=by simp
 by_cases a:ws=[];.exact B_ (_,o,rfl) (_,W,rfl) GR U5 si qz (pz _ _) (tuple_addW1 t b vs.toArray ws.toArray n N D d sl S (by simpa using v) (by simp[a])) (o,W,j a)
 .refine B_ (_,o,rfl) (_,W,rfl) GR U5 si qz (pz _ _) (tuple_addW2 t b vs.toArray ws.toArray n N D d sl S (by simpa using v) (by simpa using a) (by rw[aP,aP];exact l)) (o,W,?_);rw[e];exact k a
def fR(n d:Nat):Option Int->Nat|none=>d|some v=>if v<0 then(v+(n:Int)).toNat else min v.toNat n
def vc(n d:Nat):fR n d af=d:=rfl
def Gj(n d k:Nat):fR n d (O (k:Int))=min k n:=by show(if(k:Int)<0 then((k:Int)+(n:Int)).toNat else min (k:Int).toNat n)=min k n;rw[bL (by lia),gJ]
def Y2(n d:Nat)(H:d<=n)(o:Option Int):fR n d o<=n:=by cases o with|none=>exact H|some v=>
  show(if v<0 then(v+(n:Int)).toNat else min v.toNat n)<=n;by_cases h:v<0;.rw[bI h];lia
  .rw[bL h];exact qx _ _
def x8(v:Int)(n d:Nat):(if v<0 then max (v+(n:Int)) 0 else min v (n:Int))=((fR n d (O v):Nat):Int):=by
 show(if v<0 then max (v+(n:Int)) 0 else min v (n:Int))=((if v<0 then(v+(n:Int)).toNat else min v.toNat n:Nat):Int);by_cases h:v<0;.simp only[bI h];lia
 .simp only[bL h];lia
def BZ(lo h:Option Int)(n:Nat):ae0 lo h 1 (n:Int)=(((fR n 0 lo:Nat):Int),((fR n n h:Nat):Int)):=by
 have H:¬(1:Int)<0:=by lia
 unfold ae0;simp only[H,vP];refine Prod.ext ?_ ?_;.cases lo with|none=>rfl|some v=>exact x8 v n 0
 .cases h with|none=>rfl|some v=>exact x8 v n n
def DN(i j:Nat):ad3 (i:Int) (j:Int) 1=j-i:=by
 unfold ad3;have h:(1:Int)>0:=by lia
 simp only[h,me,Int.ediv_one];split<;>lia
def vf(p:IsPart v o)(h:Q o s):bv (ce prog w) A (Builtin.Slice.slicePartIndex v) Q E s:=by cases p with|none=>exact slicePart_none h|int i t=>exact slicePart_int h
def kO{lo:Option Int}{Q:Int×Int×Nat->be->Prop}(b:s.heap.IsSliceOf sl v u .none)(pl:IsPart v lo)(p:IsPart u H)(h:Q (((fR n 0 lo:Nat):Int),1,fR n n H-fR n 0 lo) s):bv (ce prog w) A (af0 (.ref sl) (pure (n:Int))) Q E s:=by have(os,P,c,a):=id b;unfold af0 Builtin.Slice.sliceFields;refine aj (aj (bP P a (x:=v) rfl (aj (bP P a (x:=u) rfl (aj (bP P a (x:=.none) rfl (aJ ?_)))))));refine aj (slicePart_none ?_);show bv _ _ (if((1:Int)==0)=J then _ else _) _ _ s;rw[bL (by ext)];refine aj (vf pl (aj (vf p (aj (aJ ?_)))));show bv _ _ (match ae0 lo H 1 (n:Int)with|(lo,H)=>pure (Prod.mk lo (Prod.mk (1:Int) (ad3 lo H 1)))) _ _ s;rw[BZ lo H n];show bv _ _ (pure (Prod.mk (((fR n 0 lo:Nat):Int)) (Prod.mk (1:Int) (ad3 ((fR n 0 lo:Nat):Int) ((fR n n H:Nat):Int) 1)))) _ _ s;rw[DN];exact aJ h
def Mp(xs:Array Value)(i k:Nat):((ac7 k).filterMap λ(m:Nat)=>xs[((i:Int)+(m:Int)*1).toNat]?).toArray=((xs.toList.drop i).take k).toArray:=by
 have e:(λ(m:Nat)=>xs[((i:Int)+(m:Int)*1).toNat]?)=λm=>xs[i+m]?:=by
  funext m;have:((i:Int)+(m:Int)*1).toNat=i+m:=by lia
  rw[this]
 rw[e];have:=pick_run xs i k;rw[List.filterMap_map]at this;have a:((λx=>xs[x]?)∘ λx=>i+x)=λm=>xs[i+m]?:=rfl;rw[a]at this;rw[this]
def pT{lo:Option Int}{Q:dA}(a:IsTup s.heap t bn)(d:s.heap.IsSliceOf sl v u .none)(pl:IsPart v lo)(p:IsPart u H)(e:¬(fR bn.size 0 lo=0/\fR bn.size bn.size H=bn.size))(h:Q (.ref s.heap.objs.size) {s with heap:=s.heap.push {cls:=.type "tuple",data:=.seq ((bn.toList.drop (fR bn.size 0 lo)).take (fR bn.size bn.size H-fR bn.size 0 lo)).toArray}})(N:bn.size<=sizeLine):bv (ce prog w) A (getItem (.ref t) (.ref sl)) Q E s:=by
 have F:sizeOk (.seq ((bn.toList.drop (fR bn.size 0 lo)).take (fR bn.size bn.size H-fR bn.size 0 lo)).toArray):=by show((bn.toList.drop (fR bn.size 0 lo)).take (fR bn.size bn.size H-fR bn.size 0 lo)).toArray.size<=sizeLine;rw[aP,bW,fC,bU];lia
 have j:fR bn.size bn.size H<=bn.size:=Y2 _ _ (ay _) H;have(os,P,b,f):=id d;have c:s.TypeIs (.ref sl) "slice":=(os,P,b);unfold getItem;try with_reducible refine eC ?_
 first|refine aj (aJ ?_)|skip
 refine aj (wpAny_sequenceKey a.typeIs (by ext) ?_);refine aj (dN (name:=ad6 "__getitem__") a.typeIs cF (hV cF a.typeIs wh ?_ (args_tuple_getitem _ _)));show bv _ _ (af1 (.ref t)>>=_) _ _ s;refine aj (tupleItemsOf_ a ?_);refine aj (su c ?_);rw[bI (by ext)];refine aj (kO d pl p ?_);have o:¬(((fR bn.size 0 lo:Nat):Int)==0&&(1:Int)==1&&fR bn.size bn.size H-fR bn.size 0 lo==bn.size)=J:=by intro q;rw[aO,aO]at q;have g:((fR bn.size 0 lo:Nat):Int)=0:=kB q.1.1;have i:fR bn.size bn.size H-fR bn.size 0 lo=bn.size:=kB q.2;exact e (by lia,by lia)
 show bv _ _ (if(((fR bn.size 0 lo:Nat):Int)==0&&(1:Int)==1&&fR bn.size bn.size H-fR bn.size 0 lo==bn.size)=J then _ else _) _ _ s;rw[bL o,Mp];first|exact aj (m:=ad4 _) (dO (aJ (_,rfl,aJ h)) F)|exact aj (m:=ad4 _) (dO (aj (aJ (aJ (_,rfl,aJ h)))) F)|exact aj (aj (m:=ad4 _) (dO (aJ (aJ (_,rfl,aJ h))) F))|exact aj (aj (m:=ad4 _) (dO (aJ (_,rfl,aJ h)) F))
end
end HT
namespace L2
abbrev TO:=tSt->Hp->(Option Int->Hp->Prop)->Prop
def PO(X:Cx)(e:Option Expr)(t:TO):Prop:=∀(p:cp)(s:be)(σ:tSt)(H:Hp)(Q:Option Int->Hp->Prop),Inv X p σ H s->t σ H Q->bv (ce X.prog X.w) X.A (evalPart e X.env) (λu S=>∃o h,Inv X p σ h S/\IsPart u o/\Q o h) X.xe s
def Sj:TO:=λ_ H Q=>Q af H
def ac4(t:TE):TO:=λσ H Q=>t σ H λx h=>∃i,x=.int i/\Q (O i) h
section
variable{X:Cx}{e:Expr}{te:TE}{lo hi:Option Expr}{tl th:TO}{pos p2:Pos}
def F5:PO X af Sj:=by intro p s σ H Q I h;rw[evalPart_none];exact aJ (af,H,I,.none,h)
def F6(h:PE X e te):PO X (O e) (ac4 te):=by intro p s σ H Q I w;rw[evalPart_some];refine dC (h p s σ H _ I w) λu s1 x=>?_;have(x,a,b,r,c):=x;have(i,rfl,q):=c;have(t,rfl):=r;exact(O i,a,b,.int i t,q)
def IV(X:Cx)(r:V->Option Int->Option Int->Hp->VK->Prop):Prop:=∀(p:cp)(s:be)(σ:tSt)(H:Hp)(x:V)(v l u:Value)(lo hi:Option Int)(sl:Addr)(Q:VK),Inv X p σ H s->RelV x v->s.heap.IsSliceOf sl l u .none->IsPart l lo->IsPart u hi->r x lo hi H Q->∃T id,typeLookup (.type T) "__getitem__"=pure (O (.builtin id))/\s.TypeIs v T/\bv (ce X.prog X.w) X.A (getItem v (.ref sl)) (EP X p σ Q) X.xe s
def IV.or(h:IV X r)(h':IV X r'):IV X λx lo hi H Q=>r x lo hi H Q\/r' x lo hi H Q:=by
 intro p s σ H x v l u lo hi sl Q I R a P b q;rcases q with q|q;.exact h p s σ H x v l u lo hi sl Q I R a P b q
 .exact h' p s σ H x v l u lo hi sl Q I R a P b q
def V'(r:V->Option Int->Option Int->Hp->VK->Prop)(te:TE)(tl th:TO):TE:=λσ H Q=>te σ H λx h=>tl σ h λl a=>th σ a λu b=>r x l u b Q
def A5(f:IV X r)(g:PE X e te)(i:PO X lo tl)(hu:PO X hi th):PE X (.Subscript e (.Slice lo hi af p2) pos) (V' r te tl th):=by intro p s σ H Q I h;refine Subscript_ (dC (g p s σ H _ I h) λv s1 x=>?_);have(x,j,k,R,m):=x;refine wpAny_Slice (dC (i p s1 σ j _ k m) λa s2 (l,n,o,P,t)=>dC (hu p s2 σ n _ o t) λc S u=>?_);have(u,d,y,z,B):=u;rw[evalPart_none];refine aJ ?_;have C:Inv X p σ d {S with heap:=S.heap.push {cls:=.type "slice",data:=.fields #[a,c,.none]}}:=y.kept (t':=S.toks) λb G q=>aA _ q;have(T,id,D,E,F):=f p {S with heap:=S.heap.push {cls:=.type "slice",data:=.fields #[a,c,.none]}} σ d x v a c l u S.heap.objs.size Q C R (Heap.IsSliceOf.new ..) P z B;show bv (ce X.prog X.w) X.A (subscriptTail e (.Slice lo hi af p2) v (.ref S.heap.objs.size)) (EP X p σ Q) X.xe {S with heap:=S.heap.push {cls:=.type "slice",data:=.fields #[a,c,.none]}};exact tail_any (ops:=[.ref S.heap.objs.size,v]) E D F (by with_unfolding_all rfl)
def mw(xs:ϕ)(lo hi:Option Int):ϕ:=(xs.drop (HT.fR xs.length 0 lo)).take (HT.fR xs.length xs.length hi-HT.fR xs.length 0 lo)
def rB(xs:ϕ)(lo hi:Option Int):(mw xs lo hi).length<=xs.length:=by unfold mw;rw[bW,fC];lia
def TD(K:Frag):V->Option Int->Option Int->Hp->VK->Prop:=λx lo hi H Q=>∃a s,x=.ref a/\fK K H a s/\¬(HT.fR s.length 0 lo=0/\HT.fR s.length s.length hi=s.length)/\∀p,H p=af->Q (.ref p) (dv H p (.tup (mw s lo hi)))
def Zc:IV X (TD X.K):=by
 intro p s σ H x v l g lo hi sl Q I R d P u h;have(a,c,rfl,f,w,q):=h;cases R;have(i,r,t,z):=I.tuple f;have n:i.toArray.size=c.length:=by rw[aP];exact r.length.symm
 refine("tuple",_,cF.lookup,t.typeIs,?_);refine HT.pT t d P u (by rw[n];exact w) ?_ (by rw[n];exact z);rw[n];refine(.ref s.heap.objs.size,_,I.laid (t':=s.toks) (o:=.tup (mw c lo hi)) (λb j q=>aA _ q) (ay _) ?_,rfl,q _ (I.di.fresh (ay _)));exact(aE (rB c lo hi) z,_,(r.drop (HT.fR c.length 0 lo)).take (HT.fR c.length c.length hi-HT.fR c.length 0 lo),IsTup.new _ _)
def acn(K:Frag):R2:=λx y H Q=>∃a b s Y,x=.ref a/\y=.ref b/\fK K H a s/\fK K H b Y/\s ≠[]/\s.length+Y.length<=sizeLine/\(Y=[]->Q (.ref a) H)/\(Y ≠[]->∀p,H p=af->Q (.ref p) (dv H p (.tup (s++Y))))
def Vals.yP(r:Vals xs us):us=[]↔xs=[]:=by cases r with|nil=>simp|cons _ _=>simp
def Q1:jZ X (binaryOp .Add) (acn X.K):=by intro p s σ H x y v u Q I d f h;have(a,b,g,Y,rfl,rfl,i,j,k,c,l,m):=h;cases d;cases f;have(n,R,P,_):=I.tuple i;have(U,r,p2,_):=I.tuple j;refine HT.OP P p2 (λz=>k (R.yP.mp z)) (λz=>(.ref a,H,I,rfl,l (r.yP.mp z))) (λz=>?_) (by rw[<-R.length,<-r.length];exact c);refine(.ref s.heap.objs.size,_,I.laid (t':=s.toks) (o:=.tup (g++Y)) (λb t q=>aA _ q) (ay _) ?_,rfl,m (λw=>z (r.yP.mpr w)) _ (I.di.fresh (ay _)));exact(by rw[aa];exact c,_,R.append r,IsTup.new _ _)
end
def T4(n:Nat)(i:Int):Option Nat:=if 0<=i then(if i<n then O i.toNat else af)else if-(n:Int)<=i then O (i+n).toNat else af
noncomputable def EM{α:Type}(xs:List α)(i:Int):Option α:=(T4 xs.length i).bind λj=>xs[j]?
def Ft(h:T4 n i=O j):seqIndex? i n=O j/\j<n/\-(n:Int)<=i/\i<n:=by
 unfold T4 at h;by_cases a:0<=i
 .rw[bI a]at h;by_cases H:i<n;.rw[bI H]at h;have e:i.toNat=j:=cJ h;exact(by rw[rz a H,e],by lia,by lia,H)
  .rw[bL H]at h;cases h
 .rw[bL a]at h;by_cases H:-(n:Int)<=i;.rw[bI H]at h;have e:(i+n).toNat=j:=cJ h;exact(by rw[C_ (by lia) H,e],by lia,H,by lia)
  .rw[bL H]at h;cases h
def xM(h:EM xs i=O v):∃j,seqIndex? i xs.length=O j/\xs[j]?=O v/\j<xs.length/\-(xs.length:Int)<=i/\i<xs.length:=by unfold EM at h;cases e:T4 xs.length i with|none=>rw[e]at h;cases h|some j=>rw[e]at h;have(H,a,b,c):=Ft e;exact(j,H,h,a,b,c)
def nc(b:Expr):Prop:=∀o i,subscripted b a' o i=operate [o,i] (getItem o i)
def ED(X:Cx)(r:R2):Prop:=∀(e slice:Expr)(p:cp)(s:be)(σ:tSt)(H:Hp)(x y:V)(v u:Value)(Q:VK),Inv X p σ H s->RelV x v->RelV y u->r x y H Q->subscripted slice a' v u=operate [v,u] (getItem v u)->bv (ce X.prog X.w) X.A (subscriptTail e slice v u) (EP X p σ Q) X.xe s
def Ve(X:Cx)(id:String)(r:V->ϕ->Hp->VK->Prop):Prop:=∀(p:cp)(s:be)(σ:tSt)(H:Hp)(x:V)(a:ϕ)(v:Value)(u:List Value)(Q:VK),Inv X p σ H s->RelV x v->Vals a u->r x a H Q->bv (ce X.prog X.w) X.A (call (.builtin id) (v::u)) (EP X p σ Q) X.xe s
section
variable{X:Cx}{a b:Expr}{ta tb:TE}{pos:Pos}
def ED.or(h:ED X r)(h':ED X r'):ED X λx y H Q=>r x y H Q\/r' x y H Q:=by
 intro e slice p s σ H x y v u Q I R c q d;rcases q with q|q;.exact h e slice p s σ H x y v u Q I R c q d
 .exact h' e slice p s σ H x y v u Q I R c q d
def FX{r:R2}(c:ED X r)(d:PE X a ta)(e:PE X b tb)(f:nc b:=by exact λ_ _=>rfl):PE X (.Subscript a b pos) (i9 r ta tb):=by intro p s σ H Q I h;exact Subscript_ (VA d e I h λv u s2 x y g i R j q=>c a b p s2 σ g x y v u Q i R j q (f _ _))
def vr(K:Frag):R2:=λx y H Q=>∃p s i v,x=.ref p/\y=.int i/\jd K H p s/\EM s i=O v/\Q v H
def P0(K:Frag):R2:=λx y H Q=>∃p s i v,x=.ref p/\y=.int i/\fK K H p s/\EM s i=O v/\Q v H
def xv:R2:=λx y H Q=>∃z i c,x=.str z/\y=.int i/\z.length<=sizeLine/\EM z.cps.toList i=O c/\Q (.str ⟨#[c]⟩) H
def Qu:ED X (vr X.K):=by
 intro e slice P s σ H x y v u Q I R m h g;have(p,F,i,z,rfl,rfl,n,o,q):=h;cases R;have(t,rfl):=m;have(d,r,l,G):=I.list n;have(j,c,A,L,B,C):=xM o;have(w,E,D):=r.get A;have hl:=r.length;have hn:=qS;have fin:EP X P σ Q w s:=(z,H,I,D,q);by_cases k:0<=i
 .have f:i.toNat=j:=by rw[rz k C]at c;exact cJ c
  exact item_listR l.isList k (by lia) (by rw[f];simpa using E) fin g
 .have f:(i+(d.toArray.size:Int)).toNat=j:=by rw[C_ (by lia) B]at c;rw[aP,<-hl];exact cJ c
  exact fW (x:=w) l.isList.typeIs slot_list_getitem.lookup (wpAny_getItem_list_neg (Q:=λr S=>r=w/\EP X P σ Q r S) l.isList (by lia) (by rw[aP]<;>lia) (by lia) (by rw[f];simpa using E) (rfl,fin)) g
def Xg:ED X (P0 X.K):=by intro e slice P s σ H x y v u Q I R c h d;have(p,o,i,z,rfl,rfl,f,g,q):=h;cases R;have(t,rfl):=c;have(k,r,l,A):=I.tuple f;have(j,m,n,B,D,F):=xM g;have(w,E,C):=r.get n;have hl:=r.length;have hn:=qS;have fin:EP X P σ Q w s:=(z,H,I,C,q);exact fW (x:=w) l.typeIs slot_tuple_getitem.lookup (getItem_tuple (j:=j) (Q:=λr S=>r=w/\EP X P σ Q r S) l (by lia) (by lia) (by rw[aP,<-hl];exact m) (by simpa using E) (rfl,fin)) d
def Xe:ED X xv:=by
 intro e slice p s σ H x y v u Q I r R h f;have(z,i,c,rfl,rfl,w,g,q):=h;have(t,rfl):=r;have(T,rfl):=R;have(j,d,k,A,l,m):=xM g;have n:z.cps.toList.length=z.length:=by simp[Str.length]
 rw[n]at d l m;have hn:=qS;exact tail_any (sj s z t) slot_str_getitem.lookup (getItem_str (c:=c) (by have E:decide (i< -(2^63:Int))=false:=bg (by lia);have o:decide (i>=2^63)=false:=bg (by lia);rw[E,o,zB]) (by rw[d];simpa using k) (.str ⟨#[c]⟩,H,I.tok _,(_,rfl),q)) f
def Ps(K:Frag):R2:=λx y H Q=>vr K x y H Q\/P0 K x y H Q\/xv x y H Q
def Xd:ED X (Ps X.K):=Qu.or (Xg.or Xe)
def Dp(its:List Value)(n j:Nat)(u:Value):ag4 (·.setIfInBounds j u) {cls:=.type "list",data:=.seq its.toArray n}={cls:=.type "list",data:=.seq (its.set j u).toArray n}:=by simp[ag4]
theorem Inv.lst{σ:tSt}{H:Hp}{s:be}{p:Addr}{xs:ϕ}(I:Inv X P σ H s)(h:H p=O (.lst xs)):∃(its:List Value)(n:Nat),Vals xs its/\s.heap.get? p=O {cls:=.type "list",data:=.seq its.toArray n}/\xs.length<=sizeLine:=by have(z,its,n,r,e):=I.di p _ h;exact(its,n,r,e,z)
def Inv.Xw{σ:tSt}{its:List Value}(I:Inv X P σ H s)(h:H p=O (.lst xs))(o:s.heap.get? p=O {cls:=.type "list",data:=.seq its.toArray n})(c:f {cls:=.type "list",data:=.seq its.toArray n}={cls:=.type "list",data:=.seq its'.toArray N})(r:Vals ys its')(z:ys.length<=sizeLine)(t:Nat):Inv X P σ (dv H p (.lst ys)) {s with heap:=s.heap.update p f,toks:=t}:=by
 have e:(s.heap.update p f).get? p=O {cls:=.type "list",data:=.seq its'.toArray N}:=by rw[cS f o (by rw[c]<;>rfl),c]
 refine I.write (x:=p) (e:=p) (by rw[h];trivial) (.inl rfl) (λb u d q=>(b6 _ _ (bX d)).trans q) (_,e) ?_;exact(z,its',N,r,e)
def ME:V->V->V->Hp->(Hp->Prop)->Prop:=λo i v H Q=>∃p x k j,o=.ref p/\i=.int k/\H p=O (.lst x)/\T4 x.length k=O j/\Q (dv H p (.lst (x.set j v)))
def Bs:Om X ME:=by
 intro P s σ H o i v D E u Q I R y z h;have(p,A,k,j,rfl,rfl,g,B,q):=h;cases R;have(t,rfl):=y;have(c,n,r,e,C):=I.lst g;have(d,F,l,m):=Ft B;have hl:=r.length;have hn:=qS;have w:Inv X P σ (dv H p (.lst (A.set j v))) {s with heap:=s.heap.update p (ag4 (·.setIfInBounds j u))}:=I.Xw g e (Dp c n j u) (r.set z j) (by rw[a6];exact C) s.toks;by_cases x:0<=k
 .have f:k.toNat=j:=by rw[rz x m]at d;exact cJ d
  exact PySem.W.ki_setAt e x (by lia) (by rw[aP,<-hl];exact m) (by rw[f];exact(_,w,q))
 .have f:(k+(c.toArray.size:Int)).toNat=j:=by rw[C_ (by lia) l]at d;rw[aP,<-hl];exact cJ d
  exact PySem.W.ki_setBack e (by lia) (by rw[aP,<-hl];exact l) (by lia) (by rw[f];exact(_,w,q))
def zg(lo H:Option Int)(n:Nat):(hA lo H af n).1=((HT.fR n 0 lo:Nat):Int)/\(hA lo H af n).2.1=((HT.fR n n H:Nat):Int)/\(hA lo H af n).2.2=1:=by
 refine(?_,?_,rfl);.cases lo with|none=>simp[hA,HT.fR]|some i=>
   simp only[hA,HT.fR,Option.getD_none,show(1:Int)>0 by ext,me];by_cases h:i<0;.simp only[h,me]<;>lia
   .simp only[h,vP]<;>lia
 .cases H with|none=>simp[hA,HT.fR]|some i=>
   simp only[hA,HT.fR,Option.getD_none,show(1:Int)>0 by ext,me];by_cases h:i<0;.simp only[h,me]<;>lia
   .simp only[h,vP]<;>lia
def wA(its:List Value)(lo h:Option Int):slicePick its.toArray lo h af=((its.drop (HT.fR its.length 0 lo)).take (HT.fR its.length its.length h-HT.fR its.length 0 lo)).toArray:=by have(H,c,d):=zg lo h its.toArray.size;unfold slicePick;rw[H,c,d];simp only[sliceRange_one,pick_run,aP]<;>rfl
def O'(K:Frag):V->Option Int->Option Int->Hp->VK->Prop:=λx lo h H Q=>∃a s,x=.ref a/\jd K H a s/\∀p,H p=af->Q (.ref p) (dv H p (.lst (mw s lo h)))
def R3:IV X (O' X.K):=by intro p s σ H x v l g lo i sl Q I R d P u h;have(a,c,rfl,e,q):=h;cases R;have(f,r,t,z):=I.list e;have n:=r.length;refine("list",_,slot_list_getitem.lookup,t.isList.typeIs,?_);refine wpAny_getItem_list_slice t.isList d P u .none (by simp) ?_ (by rw[aP]<;>lia);rw[wA,<-n];refine(.ref s.heap.objs.size,_,I.laid (t':=s.toks) (o:=.lst (mw c lo i)) (λb j q=>aA _ q) (ay _) ?_,rfl,q _ (I.di.fresh (ay _)));exact(aE (rB c lo i) z,_,0,(r.drop (HT.fR c.length 0 lo)).take (HT.fR c.length c.length i-HT.fR c.length 0 lo),a5 _ rfl)
def mD:V->Bool|.non=>J|.bl _=>J|.int _=>J|.str _=>J|_=>a'
noncomputable def NX:V->V->Bool|.non,.non=>J|.bl a,.bl b=>a==b|.bl a,.int b=>(if a then 1 else 0)==b|.int a,.bl b=>a==if b then 1 else 0|.int a,.int b=>a==b|.str a,.str b=>a==b|_,_=>a'
def V3(R:RelV y u)(r:RelV x v)(F:mD y)(f:mD x):SeqAt.EqAt A s u v (NX y x):=by cases y with
 |non=>cases R;cases x with|non=>cases r;exact SeqAt.EqAt.same _|bl b=>cases r;exact SeqAt.EqAt.none_bool b|int b=>have(t,rfl):=r;exact SeqAt.EqAt.none_int b t|str b=>have(t,rfl):=r;exact SeqAt.EqAt.none_str b t|_=>exact absurd (show a'=J from f) aL
 |bl a=>cases R;cases x with|non=>cases r;exact SeqAt.EqAt.bool_none a|bl b=>cases r;exact SeqAt.EqAt.bool_bool a b|int b=>have(t,rfl):=r;exact SeqAt.EqAt.bool_int a b t|str b=>have(t,rfl):=r;exact SeqAt.EqAt.bool_str a b t|_=>exact absurd (show a'=J from f) aL
 |int a=>have(T,rfl):=R;cases x with|non=>cases r;exact SeqAt.EqAt.int_none a T|bl b=>cases r;exact SeqAt.EqAt.int_bool a T b|int b=>have(t,rfl):=r;exact SeqAt.EqAt.int_int a T b t|str b=>have(t,rfl):=r;exact SeqAt.EqAt.int_str a T b t|_=>exact absurd (show a'=J from f) aL
 |str a=>have(T,rfl):=R;cases x with|non=>cases r;exact SeqAt.EqAt.str_none a T|bl b=>cases r;exact SeqAt.EqAt.str_bool a T b|int b=>have(t,rfl):=r;exact SeqAt.EqAt.str_int a T b t|str b=>have(t,rfl):=r;exact SeqAt.EqAt.str_str a T b t|_=>exact absurd (show a'=J from f) aL
 |_=>exact absurd (show a'=J from F) aL
def Pe(x:V)(u:Value):Bool:=match u with|.none=>NX .non x|.bool b=>NX (.bl b) x|.int i _=>NX (.int i) x|.str z _=>NX (.str z) x|_=>a'
def Ke(r:RelV y u)(f:mD y):Pe x u=NX y x:=by cases y with|non=>cases r;rfl|bl b=>cases r;rfl|int i=>have(t,rfl):=r;rfl|str z=>have(t,rfl):=r;rfl|_=>exact absurd (show a'=J from f) aL
def EH:∀{xs:ϕ}{us:List Value},Vals xs us->xs.all mD->us.any (Pe x)=xs.any λy=>NX y x:=by intro xs us h f;induction h with|nil=>rfl|cons r t i=>rw[aG,aO]at f;rw[kR,kR,Ke r f.1,i f.2]
theorem uN{x:V}{v:Value}(R:RelV x v)(F:mD x):∀{xs:ϕ}{us:List Value},Vals xs us->xs.all mD->∀u∈us,SeqAt.EqAt A s u v (Pe x u)
 |_,_,.nil,_=>λu hu=>by cases hu|y::xs,u::us,.cons r t,f=>λU hu=>by
  rw[aG,aO]at f;rcases aK.mp hu with rfl|hu;.rw[Ke r f.1];exact V3 r R f.1 F
  .exact uN R F t f.2 U hu
def P9(x:V)(xs:ϕ):Bool:=xs.any λy=>NX y x
def Gc(K:Frag)(neg:Bool):R2:=λx y H Q=>∃p s,y=.ref p/\(jd K H p s\/fK K H p s)/\mD x=J/\s.all mD=J/\Q (.bl (if neg then !P9 x s else P9 x s)) H
def xj:jZ X (compareOp .In) (Gc X.K a'):=by
 intro e s σ H x y v u Q I R g h;have(p,j,rfl,c,f,fs,q):=h;cases g;rcases c with c|c;.have(i,r,P,z):=I.list c;refine SeqAt.in_listAt (Pe x) P.isList (λw d=>uN R f r fs w (by simpa using d)) (.bl _,H,I,rfl,?_);rw[show i.toArray.any (Pe x)=i.any (Pe x)by simp,EH r fs];exact q
 .have(i,r,P,z):=I.tuple c;refine SeqAt.in_tupleAt (Pe x) P (λw d=>uN R f r fs w (by simpa using d)) (.bl _,H,I,rfl,?_);rw[show i.toArray.any (Pe x)=i.any (Pe x)by simp,EH r fs];exact q
def xW:dQ X (.builtin "len") λxs H Q=>∃p ys,xs=[.ref p]/\(jd X.K H p ys\/fK X.K H p ys)/\Q (.int ys.length) H:=by
 intro d s σ H xs U Q I r h;have(p,ys,rfl,c,q):=h;have(u,rfl,x):=o6 r;cases x;have hn:=qS;rcases c with c|c;.have(i,R,P,z):=I.list c;have n:=R.length;exact Calls.call_len_list P.isList (by simp only[aP]<;>lia) (.int ys.length,H,I.tok _,(s.toks+1,by rw[aP,n]),q)
 .have(i,R,P,z):=I.tuple c;have n:=R.length;exact len_tuple P (by simp only[aP]<;>lia) (.int ys.length,H,I.tok _,(s.toks+1,by rw[aP,n]),q)
def xX:dQ X (.builtin "len") λxs H Q=>∃z,xs=[.str z]/\z.length<=sizeLine/\Q (.int z.length) H:=by intro p s σ H xs U Q I r h;have(z,rfl,c,q):=h;have(u,rfl,t,rfl):=o6 r;have hn:=qS;exact len_str (by lia) (.int z.length,H,I.tok _,(_,rfl),q)
def dQ.or(h:dQ X f r)(h':dQ X f r'):dQ X f λxs H Q=>r xs H Q\/r' xs H Q:=by
 intro p s σ H xs u Q I R q;rcases q with q|q;.exact h p s σ H xs u Q I R q
 .exact h' p s σ H xs u Q I R q
def xY:dQ X (.type "list") λxs H Q=>∃p ys,xs=[.ref p]/\(jd X.K H p ys\/fK X.K H p ys)/\∀l,H l=af->Q (.ref l) (dv H l (.lst ys)):=by
 intro P s σ H xs U Q I r h;have(p,ys,rfl,d,q):=h;have(u,rfl,x):=o6 r;cases x;have fin:∀(i:List Value),Vals ys i->ys.length<=sizeLine->∀(c:Heap)(C:Nat),(∀b v,s.heap.get? b=O v->c.get? b=O v)->c.get? s.heap.objs.size=O {cls:=.type "list",dict:=af,data:=.seq i.toArray C,slots:=#[]}->EP X P σ Q (.ref s.heap.objs.size) {s with heap:=c}:=λi R z c C k e=>(.ref s.heap.objs.size,_,I.laid (t':=s.toks) k (ay _) (show eg X.prog X.w _ c _ (.lst ys)from(z,i,C,R,e)),rfl,q _ (I.di.fresh (ay _)));rcases d with d|d;.have(i,R,g,z):=I.list d;have f:=R.length;have(o,j,m,n,t):=g.isList;exact call_list_seq p (.inl rfl) j m t (λc C k e=>fin i R z c C k e) (by simp only[aP]<;>lia)
 .have(i,R,g,z):=I.tuple d;have f:=R.length;have(o,j,m,n,t):=g;exact call_list_seq p (.inr rfl) j m t (λc C k e=>fin i R z c C k e) (by simp only[aP]<;>lia)
def vY:dQ X (.type "tuple") λxs H Q=>∃p ys,xs=[.ref p]/\((jd X.K H p ys/\∀l,H l=af->Q (.ref l) (dv H l (.tup ys)))\/fK X.K H p ys/\Q (.ref p) H):=by
 intro P s σ H xs U Q I r h;have(p,ys,rfl,h):=h;have(u,rfl,x):=o6 r;cases x;rcases h with ⟨d,q⟩|⟨d,q⟩;.have(i,R,f,z):=I.list d;have n:=R.length;refine call_tuple_list f.isList (λc k=>?_) (by simp only[aP]<;>lia);have g:Inv X P σ H {s with heap:=c}:=I.kept (t':=s.toks) k;have j:Inv X P σ (dv H c.objs.size (.tup ys)) {s with heap:=c.push {cls:=.type "tuple",data:=.seq i.toArray}}:=g.laid (t':=s.toks) (λb o e=>aA _ e) (ay _) (show eg X.prog X.w _ _ _ (.tup ys)from(z,i,R,IsTup.new _ _));exact(.ref c.objs.size,_,j,rfl,q _ (g.di.fresh (ay _)))
 .have(i,R,f,z):=I.tuple d;exact call_tuple_same f (.ref p,H,I,rfl,q)
def ij(K:Frag)(T:String)(x:V)(H:Hp):Prop:=match x with|.str _=>T="str"|.int _=>T="int"|.ref p=>(T="list"/\∃s,jd K H p s)\/(T="tuple"/\∃o,K.lookup p=O o/\o.cls=.type "tuple"/\o.dict=af)\/T="dict"/\((∃B,H p=O (.dK B))\/∃B,H p=O (.dT B))\/T="set"/\∃S n,H p=O (.set S n)|_=>False
def Nx{σ:tSt}(I:Inv X P σ H s)(r:RelV x v)(ty:ij X.K T x H):
  s.TypeIs v T/\∀a,v=.ref a->∃f,s.heap.get? a=O f/\f.dict=none:=by cases x with|str z=>have(t,rfl):=r;cases show T="str"from ty;exact(sj s z t,λ_ e=>nomatch e)|int i=>have(t,rfl):=r;cases show T="int"from ty;exact(typeIs_int s i t,λ_ e=>nomatch e)|ref p=>
  cases r;rcases ty with ⟨rfl,k,q⟩|⟨rfl,o,h,g,d⟩|⟨rfl,h⟩|⟨rfl,S,n,h⟩;.have(j,_,l,_):=I.list q;refine(l.isList.typeIs,λa e=>?_);cases e;have(o,n,e,c,d,_):=l;exact(o,e,d)
  .refine((o,I.nF p o h,g),λa e=>?_);cases e;exact(o,I.nF _ o h,d)
  .have z:∃o,s.heap.get? p=O o/\o.ExactDict:=by
    rcases h with ⟨B,h⟩|⟨B,h⟩;.have(_,_,_,_,o,_,_,e,ex,_):=I.di p _ h;exact(o,e,ex)
    .have(_,_,_,_,o,_,_,e,ex,_):=I.di p _ h;exact(o,e,ex)
   have(o,e,ex):=z;refine((o,e,ex.1),λa E=>?_);cases E;exact(o,e,ex.2.1)
  .have(o,_,_,_,e,ex,_):=I.di p _ h;refine((o,e,ex.1),λa E=>?_);cases E;exact(o,e,ex.2.1)|_=>exact ad0 ty
def zn(K:Frag)(T:String)(r:V->ϕ->Hp->VK->Prop)(t:TE):TE:=λσ H Q=>t σ H λx h=>ij K T x h/\r x [] h Q
def Op(K:Frag)(T:String)(r:V->ϕ->Hp->VK->Prop)(o:TE)(t:TA):TE:=λσ H Q=>o σ H λx h=>ij K T x h/\t σ h λs c=>r x s c Q
variable{o e:Expr}{es:List Expr}{to:TE}{t:TA}{name:Str}{ci dH:Pos}{T id:String}{r:V->ϕ->Hp->VK->Prop}
def Yd(P:PlainAttrs T)(slot:Slot T name id)(y:typeOf (.builtin id)=pure (.type "method_descriptor"))(m:Ve X id r)(c:PE X o to)(u:autoParam (gm o name X.env (eval o X.env)=eval o X.env) o0)(d:autoParam ((ci.endLine==dH.line)=J) o0):PE X (.Call (.Attribute o name ci) [] [] dH) (zn X.K T r to):=by intro p s σ H Q I h;refine wpAny_Call_method0_late u d (dC (c p s σ H _ I h) λv s1 x=>?_);have(x,f,i,R,ty,q):=x;have(g,j):=Nx i R ty;exact(T,id,P,slot,y,g,j,r9 rfl (PySem.evalArgs_none (m p s1 σ f x [] v [] Q i R .nil q)))
def Uq(P:PlainAttrs T)(slot:Slot T name id)(y:typeOf (.builtin id)=pure (.type "method_descriptor"))(m:Ve X id r)(c:PE X o to)(d:PA X (e::es) t)(u:autoParam (gm o name X.env (eval o X.env)=eval o X.env) o0)(W:autoParam (((en dH (dt (e::es) X.env)).all (λx=>!x.1)&&(backToKw dH (g_ [] X.env)).all (λx=>x.1.isSome)&&decide ((e::es).length+([]:List Keyword).length+(if([]:List Keyword).isEmpty then 0 else 1)<30))=J) o0)(f:autoParam ((ci.endLine==dH.line)=J) o0)(g:autoParam (dt (e::es) X.env=(a',eval e X.env)::dt es X.env) o0)(w:autoParam ((en dH (dt es X.env)).any (·.1)=a') o0):PE X (.Call (.Attribute o name ci) (e::es) [] dH) (Op X.K T r to t):=by intro p s σ H Q I h;refine D_ u W f rfl (dC (c p s σ H _ I h) λv s1 x=>?_);have(x,j,i,R,ty,q):=x;have(k,l):=Nx i R ty;refine(T,id,P,slot,y,k,l,?_);have A:=d dH p s1 σ j _ i q;rw[g]at A⊢;refine r9 (by show(a'||(en dH (dt es X.env)).any (·.1))=a';rw[w]<;>rfl) (vL ?_);exact dC A λU s2 (n,z,B,C,D)=>m p s2 σ z x n v U Q B R C D
end
def xL(X:Cx)(id:String)(r:V->ϕ->Hp->VK->Prop):Prop:=∀(p:cp)(s:be)(σ:tSt)(H:Hp)(x:V)(a:ϕ)(v:Value)(u:List Value)(Q:VK),Inv X p σ H s->RelV x v->Vals a u->r x a H Q->bv (ce X.prog X.w) X.A (call (.builtin id) (v::u)) (EP X p σ Q) X.xe s
def Vals.one:∀{x:V}{us:List Value},Vals [x] us->∃u,us=[u]/\RelV x u:=by intro _ _ h;cases h with|cons r t=>cases t;exact(_,rfl,r)
def Vals.two:∀{x y:V}{us:List Value},Vals [x,y] us->∃u v,us=[u,v]/\RelV x u/\RelV y v:=by intro _ _ _ h;cases h with|cons r t=>cases t with|cons q t=>cases t;exact(_,_,rfl,r,q)
def Vals.zero:∀{us:List Value},Vals [] us->us=[]|_,.nil=>rfl
theorem Vals.dropLast(h:Vals xs us):Vals xs.dropLast us.dropLast:=by induction h with|nil=>exact .nil|cons r t i=>cases t with|nil=>exact .nil|cons q T=>exact .cons r i
theorem Vals.rep(h:Vals xs us):∀k:Nat,Vals (aa5 k xs).flatten (aa5 k us).flatten|0=>.nil|k+1=>by rw[b0,b0,cx,cx];exact Vals.append h (Vals.rep h k)
def CF{α:Type}(l:List α):l.eraseIdx (l.length-1)=l.dropLast:=by induction l with|nil=>rfl|cons a r i=>cases r with|nil=>rfl|cons b r=>
   have e:(a::b::r).length-1=(b::r).length-1+1:=by have h:(a::b::r).length=r.length+2:=rfl;have H:(b::r).length=r.length+1:=rfl;lia
   rw[e,List.eraseIdx_cons_succ,i];all_goals rfl
theorem d_(its:List Value):∀(k:Nat)(acc:List Value),ah4 (λx X=>x++X) acc.toArray (aa5 k its.toArray)=(acc++(aa5 k its).flatten).toArray
 |0,acc=>by simp|k+1,acc=>by
  have e:acc.toArray++its.toArray=(acc++its).toArray:=by simp
  have E:acc++its++(aa5 k its).flatten=acc++(aa5 (k+1) its).flatten:=by rw[b0,cx,aD]
  rw[<-E,<-d_ its k (acc++its),<-e,b0,List.foldl_cons]
section
variable{X:Cx}{bb:cp}{σ:tSt}{H:Hp}{s:be}{l b:Addr}{xs ys zs:ϕ}
def Inv.abi{its:List Value}(I:Inv X bb σ H s)(h:H l=O (.lst xs))(e:s.heap.get? l=O {cls:=.type "list",data:=.seq its.toArray n})(a:f its.toArray=its'.toArray)(v:Vals ys its')(z:ys.length<=sizeLine):Inv X bb σ (dv H l (.lst ys)) {s with heap:=s.heap.update l (ag4 f),toks:=t'}:=by have q:=PySem.IsL.update e f;rw[a]at q;refine I.write (x:=l) (e:=l) (by rw[h];exact trivial) (.inl rfl) (λB u c hu=>(b6 s.heap (ag4 f) (bX c)).trans hu) (_,q) ?_;exact(z,its',_,v,q)
def Inv.Xu(I:Inv X bb σ H s)(h:Vals ys its)(z:ys.length<=sizeLine):Inv X bb σ (dv H s.heap.objs.size (.lst ys)) {s with heap:=s.heap.push {cls:=.type "list",data:=.seq its.toArray},toks:=t'}:=I.laid (λ_ _ q=>aA _ q) (ay _) (z,its,0,h,a5 _ rfl)
theorem Inv.fresh(I:Inv X bb σ H s):H s.heap.objs.size=none:=I.di.fresh (ay _)
def Inv.Lc(I:Inv X bb σ H s)(h:H l=O (.lst xs)):xs.length<=sizeLine/\∃(its:List Value)(n:Nat),Vals xs its/\xs.length=its.length/\s.heap.get? l=O {cls:=.type "list",data:=.seq its.toArray n}:=by have(z,its,n,r,e):=I.di l _ h;exact(z,its,n,r,r.length,e)
def Lu(h:n<=sizeLine):ae5 n=false:=by unfold ae5;exact bg (by lia)
end
section
variable{X:Cx}
def Ge:V->ϕ->Hp->VK->Prop:=λx v H Q=>∃l s y,x=.ref l/\v=[y]/\H l=O (.lst s)/\s.length<sizeLine/\Q .non (dv H l (.lst (s++[y])))
def xg:xL X "list.append" Ge:=by intro p s σ H x d v U Q I R b h;have(l,f,y,rfl,rfl,a,g,q):=h;cases R;have(u,rfl,c):=b.one;have(z,i,n,r,j,e):=I.Lc a;refine iY F.slot_list_append (_,e,rfl) F.entry_list_append (F.args_list_append_2 _ _) (PySem.list_append l i.toArray n u (by rw[aP];lia)) (e,?_);refine(.non,_,I.abi (its':=i++[u]) a e (by simp) (r.append (.cons c .nil)) ?_,rfl,q);rw[aa,List.length_singleton];lia
def w4:V->ϕ->Hp->VK->Prop:=λx v H Q=>∃l s y,x=.ref l/\v=[]/\H l=O (.lst s)/\s[s.length-1]?=O y/\Q y (dv H l (.lst s.dropLast))
def Xz:xL X "list.pop" w4:=by
 intro p s σ H x k v U Q I R d h;have(l,m,y,rfl,rfl,c,f,q):=h;cases R;have a:=d.zero;subst a;have(z,i,n,r,g,e):=I.Lc c;have(u,hu,j):=r.get f;have b:i.toArray[i.toArray.size-1]?=O u:=by show i.toArray[i.length-1]?=O u;rw[<-FS,<-g];exact hu
 refine iY F.slot_list_pop (_,e,rfl) F.entry_list_pop (F.args_list_pop_1 _) (MeetsSeq.list_pop_last l i.toArray n u b (by rw[aP];lia)) (e,?_);refine(y,_,I.abi (its':=i.dropLast) c e ?_ r.dropLast ?_,j,q);.show i.toArray.eraseIdxIfInBounds (i.toArray.size-1)=i.dropLast.toArray;rw[aP,List.eraseIdxIfInBounds_toArray,CF]
 .rw[List.length_dropLast];lia
def RM:R2:=λx y H Q=>∃l b s z,x=.ref l/\y=.ref b/\H l=O (.lst s)/\H b=O (.lst z)/\s.length+z.length<=sizeLine/\∀p,H p=af->Q (.ref p) (dv H p (.lst (s++z)))
def DF:jZ X (binaryOp .Add) RM:=by
 intro p s σ H x y v u Q I R a h;have(l,b,j,Z,rfl,rfl,c,B,k,q):=h;cases R;cases a;have(z,i,n,r,m,e):=I.Lc c;have(o,U,N,d,f,E):=I.Lc B;refine PySem.P.add_list e E ?_ (by rw[aP,aP];lia);have g:i.toArray++U.toArray=(i++U).toArray:=by simp
 rw[g];exact(.ref _,_,I.Xu (t':=s.toks) (r.append d) (by rw[aa];lia),rfl,q _ I.fresh)
def AT:R2:=λx y H Q=>∃l k s,x=.ref l/\y=.int k/\H l=O (.lst s)/\-2^63<=k/\k<2^63/\s.length*k.toNat<=sizeLine/\∀p,H p=af->Q (.ref p) (dv H p (.lst (aa5 k.toNat s).flatten))
def QC{α:Type}(xs:List α)(k:Nat):(aa5 k xs).flatten.length=k*xs.length:=by induction k with|zero=>simp|succ k i=>rw[b0,cx,aa,i,Nat.succ_mul,Nat.add_comm]
def X4:jZ X (binaryOp .Mult) AT:=by
 intro p s σ H x y v u Q I R j h;have(l,k,G,rfl,rfl,o,w,C,g,q):=h;cases R;have(t,rfl):=j;have(z,i,n,r,D,e):=I.Lc o;have b:i.toArray.size*k.toNat<=sizeLine:=by rw[aP,<-D];exact g
 have A:¬i.toArray.size*k.toNat>(2^63-1)/8:=by
  have:(sizeLine:Nat)<=(2^63-1)/8:=by ext
  lia
 have c:¬(!Builtin.List.listFitsIndex k)=true:=by rw[fitsIndex_both w C];exact aL
 have B:¬ae5 (i.toArray.size*k.toNat)=true:=by rw[Lu b];exact aL
 have K:ah4 (λd f=>d++f) #[] (aa5 (if i.toArray.isEmpty=J then 0 else k.toNat) i.toArray)=(aa5 k.toNat i).flatten.toArray:=by
  have E:∀m:Nat,ah4 (λd f=>d++f) #[] (aa5 m i.toArray)=(aa5 m i).flatten.toArray:=λm=>by have:=d_ i m [];rw[lS]at this;exact this
  rw[E];cases i with|nil=>simp|cons a L=>rw[bL (by simp)]
 refine wpAny_binaryOp_repeat_ref (T:="list") (U:="int") (by ext) (_,e,rfl) (λS=>typeIs_int S k t) noFill_list_mul F.fills_int_mul F.slot_int_rmul repeat_list F.slot_int_index.lookup (iY F.slot_int_rmul (typeIs_int s k t) F.entry_int_rmul (F.args_int_rmul_2 _ _) (int___rmul___int_list k t l i.toArray n) (e,rfl,(_,e,rfl),iY F.slot_list_mul (_,e,rfl) F.entry_list_mul (F.args_list_mul_2 _ _) (AutoListH.list___mul___list_int_3 l i.toArray n k t c A B) (e,?_)));rw[K];exact(.ref _,_,I.Xu (t':=s.toks) (r.rep k.toNat) (by rw[QC,Nat.mul_comm];exact g),rfl,q _ I.fresh)
end
section
variable{prog:cr}{w:cf}{A:c9}{E:dA}{s:be}
end
section
variable{X:Cx}
end
end L2
namespace Att
open PySem.W PySem.Calls
def sF:∀(ns:List Int)(vs:List Value),WellAll P h vs (ns.map WData.int)->IntsAre vs ns:=by intro ns;induction ns with|nil=>intro vs w;rw[b8]at w;cases w;exact .nil|cons n ns i=>intro vs w;rw[aH]at w;cases w with|cons a b=>cases a;exact .cons _ _ (i _ b)
def IE{l:OpenLaw}(i:l.most=O n)(p:l.row.toRowW.claim.pre args)(e:WellAll P h v args):∃a vs N,v=[aa8 a]/\args=[WData.list (N.map WData.int)]/\h.get? a=O {cls:=.type "list",data:=.seq vs.toArray}/\IntsAre vs N/\N.length<=n:=by
 have f:WShape.hasAll [] args [.list .int]=true:=(pre_splitW p).1;have g:l.pre.holds [] {args:=args}=true:=(pre_splitW p).2;have(d,r,rfl,j,k):=hasAllW_cons f;obtain rfl:=hasAllW_nil k;have(x,rfl,m):=hasW_list j;have(N,rfl):=items_int m;have H:N.length<=n:=by
  unfold OpenLaw.pre at g;have b:(WTm.not (.lt (.lit (.int (n:Int))) (.len (.arg 0)))).holds [] {args:=[.list (N.map .int)]}=true:=by have b:=(holds_andW g).1;rw[i]at b;exact b
  have c:=condW_of b (w_not (w_lt w_lit (w_len_list (w_arg rfl))));rw[ae]at c;refine Nat.le_of_not_lt λq=>?_;have Q:(n:Int)<((N.length:Nat):Int):=by lia
  first|(rw[a9 Q]at c;exact absurd c (by ext))|(simp at c;lia)
 cases e with|cons w W=>cases W;cases w with|list o E=>exact(_,_,N,rfl,rfl,o,sF N _ E,H)
def Il(l:OpenLaw)(args:List WData):l.row.toRowW.claim.post args (.bool J) args=true:=postW_of (r:=l.row.toRowW) (X:=J==J) (show WShape.has [] (.bool J) .bool=J by first|rfl|decide|simp[WShape.has,WShape.arms,WShape.armsAll]) (show(WTm.eq .res (.lit (.bool J))).value [] {args:=args,res:=O (.bool J),after:=args}=O (.bool (J==J))from w_eq_bool (w_res rfl) w_lit) rfl
def zX{l:OpenLaw}{XP:db->Heap->Prop}(i:l.most=O n)(b:d.params.defaults=[])(call:∀(w:cf)(S s:be)(m M:db)(F:Addr)(o:Obj)(p c doc:Value)(a:Addr)(vs:List Value)(N:List Int),Ground q L [] XP w S m M s.heap->y w s.heap->s.heap.get? F=O o->o.data=.func (docDef d.name d.params d.body d.scope p c doc)->s.heap.CodeRec c d.name->m d.name=O (.ref F)->s.heap.get? a=O {cls:=.type "list",data:=.seq vs.toArray}->IntsAre vs N->N.length<=n->s.gens=#[]->codeAny (ce l.prog w) callerA (.call (.ref F) ([.ref a],[])) (λr s'=>r=.ok (.ret (.bool J))/\OldK s.heap s'.heap/\s'.os=s.os/\AllBare s'.gens) s):WalkO q L XP y l.row.toRowW d [] λf vs=>PySem.call f vs:=by intro w S s m M G Y F o p c doc j kV k t C D g u args v R P A x e z;obtain rfl:j=.none:=Dflts.none D b;obtain rfl:kV=.none:=Dflts.noKw D;have(a,vs,N,rfl,rfl,W,h,H):=IE i P e;refine enter_call (md (call w S s m M F o p c doc a vs N G Y k (fd_plain t) C g W h H u) λr s' B=>?_);have(rfl,E,I,K):=B;exact(.inl (.bool J,.bool J,[],rfl,λ_=>rfl,.bool J,Il l _,λ_=>(List.Pairwise.nil,λ_ Q=>nomatch Q)),E,I,K)
section
variable{prog:cr}{w:cf}{A:c9}{E:dA}{s:be}{K:Frag}
end
end Att
namespace L2
def IQ:∀{vs:List Value}{N:List Int},IntsAre vs N->Vals (N.map V.int) vs:=by intro vs N h;induction h with|nil=>exact .nil|cons n t h i=>exact .cons (t,rfl) i
def Vg(H:Hp):Prop:=∀b,H b=af\/∃o x,H b=O (.CK o (.lst x))
def K5{K:Frag}{M l:db}(R:K.In s₁.heap)(g:s₁.heap.Ns dr M)(c:s₁.heap.Ns builtinsNs l)(t:∀x:Str,x≠"__name__"->l x=d4 x)(A:s₁.heap.NoLimit)(hg:s₁.gens=#[])(j:s₁.heap.get? a=O {cls:=.type "list",data:=.seq vs.toArray})(S:IntsAre vs f)(T:f.length<=sizeLine)(hr:dR k callerA)(F:∀base:Heap,K.In base->base.Ns dr M->iB P w K M base CX k p Q [x] sp)(y:∀(s:be)(u:Value),BindsTo s Q ([u],[]) [(x,u)])(BK:∀H:Hp,Vg H->jd K H a (f.map V.int)->sp [.ref a] H (λv _=>v=.bl J) λ_ _ _=>False)(X:∀H e s',CX [] H s₁ (λ_ _ _=>False) e s'->False):codeAny (ce P w) callerA (.call (.ref p) ([.ref a],[])) (λr s'=>r=.ok (.ret (.bool J))/\OldK s₁.heap s'.heap/\s'.os=s₁.os/\AllBare s'.gens) s₁:=by
 have rv:=IQ S;have D:=S.length;have C:∀H:Hp,Vg H->jd K H a (f.map V.int)->kS P w H s₁.heap->(∀b,H b≠af->b=a)->(H a≠af->K.lookup a=af)->codeAny (ce P w) callerA (.call (.ref p) ([.ref a],[])) (λr s'=>r=.ok (.ret (.bool J))/\OldK s₁.heap s'.heap/\s'.os=s₁.os/\AllBare s'.gens) s₁:=by
  intro H U hS W Y hK;have EN:∀{b:Addr}{o:Obj},s₁.heap.get? b=O o->H b=af->(yz s₁.heap H).get? b=O o:=λe n=>Kw e n;have G:∀{b:Addr}{o:Obj}{E:Array ft}{ep:Nat},s₁.heap.get? b=O o->o.data=.dict E ep->H b=none:=λ{b o E ep}e d=>by cases q:H b with|none=>rfl|some u=>have I:b=a:=Y b (by rw[q];simp);subst I;rw[j]at e;cases e;have d':Data.seq vs.toArray _=Data.dict E ep:=d;cases d'
  have N:∀{b:Addr}{m:db},s₁.heap.Ns b m->(yz s₁.heap H).Ns b m:=λ{b m}(o,E,ep,e,d,r)=>(o,E,ep,EN e (G e d),d,r);have i:K.In (yz s₁.heap H):=λb o e=>EN (R b o e) (by cases q:H b with|none=>rfl|some u=>have I:b=a:=Y b (by rw[q];simp);subst I;rw[hK (by rw[q];simp)]at e;cases e);have hM:Mod K M (yz s₁.heap H):=(i,N g,(l,N c,t),let (mc,h1,h2):=A;(mc,N h1,h2));have e0:BU P w K M (yz s₁.heap H) callerA [] s₁ H:=(rfl,hM,λb o e=>QZ e,l8 (Hv _ _),trivial,λb c=>absurd (show b∈([]:List Addr)from c) (by simp),W,.of_eq hg);refine md ((F _ i (N g)).run callerA [] s₁ H ([.ref a],[]) [.ref a] [.ref a] _ _ hr e0 (y s₁ (.ref a)) (.cons rfl .nil) (BK H U hS)) λr s' h=>?_;cases r with|error e=>exact(X H e s' h).elim|ok fl=>cases fl with|next=>exact ad0 h|brk=>exact ad0 h|cont=>exact ad0 h|ret u=>have(v,H',os,B,un,CT,r',q):=h;have q':v=.bl true:=q;subst q';obtain rfl:u=af9 true:=r';refine(rfl,OldK.of_keep λb o e=>?_,os,B);cases q:H b with|none=>exact un.keep b o e q (by intro z;exact absurd (show b∈([]:List Addr)from z) (by simp)) (by simp)|some u=>
     rcases U b with z|⟨ob,xs,z⟩;.rw[q]at z;cases z
     .have z2:=un.pS b ob _ z;have(e1,_):=W b _ z;have(e2,_):=CT b _ z2;rw[e]at e1;cases e1;exact e2
 cases L:K.lookup a with|some o=>have e:=R a o L;rw[j]at e;cases e;refine C (λ_=>af) (λ_=>.inl rfl) (.inr (_,vs.toArray,_,L,rfl,rfl,rfl,by rw[aP,D];exact T,by simpa using rv)) (λb u z=>by have Z:(af:Option HO)=O u:=z;cases Z) (λb z=>absurd rfl z) λz=>absurd rfl z|none=>
  refine C (λb=>if b=a then O (.CK {cls:=.type "list",data:=.seq vs.toArray} (.lst (f.map V.int)))else af) (λb=>?_) (.inl (.inr ({cls:=.type "list",data:=.seq vs.toArray},bI rfl))) (λb u z=>?_) (λb z=>?_) λ_=>L
  .by_cases c:b=a;.exact .inr (_,_,bI c)
   .exact .inl (bL c)
  .by_cases c:b=a;.have Z:=(bI c).symm.trans z;cases Z;subst c;exact(j,by rw[ae];exact T,vs,_,rv,j)
   .have Z:=(bL c).symm.trans z;cases Z
  .by_cases c:b=a;.exact c
   .exact absurd (bL c) z
def SV{l:OpenLaw}{XP:db->Heap->Prop}{K:Params->Frag}{CX:cf->wG}{sp:cf->Sp}(B:l.most=O n)(W:n<=sizeLine)(p:d.params.defaults=[])(C:dR k callerA)(D:∀(w:cf)(h:Heap),y w h->(K w.params).In h)(F:∀(w:cf)(m:db)(j:Addr)(h:Heap),(K w.params).In h->h.Ns dr m->m d.name=O (.ref j)->∃r:dV,(∀(s:be)(u:Value),BindsTo s r ([u],[]) [(x,u)])/\∀base:Heap,(K w.params).In base->base.Ns dr m->iB l.prog w (K w.params) m base (CX w) k j r [x] (sp w))(E:∀(w:cf)(H:Hp)(a:Addr)(N:List Int),N.length<=n->Vg H->jd (K w.params) H a (N.map V.int)->sp w [.ref a] H (λv _=>v=.bl J) λ_ _ _=>False)(X:∀(w:cf)(H:Hp)(s:be)(e:Value)(s':be),CX w [] H s (λ_ _ _=>False) e s'->False):WalkO q L XP y l.row.toRowW d [] λf vs=>PySem.call f vs:=by refine Att.zX B p λw z S m Z j o pm cd doc a vs N G Y ho hd CO t I i c M=>?_;have A:=D w _ Y;have(r,P,Q):=F w m j _ A G.T.g t;exact K5 A G.T.g G.T.b G.T.builtins G.T.nolimit M I i (aE c W) C Q P (λH R U=>E w H a N c R U) λH e s'=>X w H S e s'
noncomputable def gj(s:Stmt)(j:Nat):Stmt:=match s with|.ClassDef _ _ _ body _ _ _ _ _ _ _=>body.getD j (.Pass (0,0,0,0))|_=>.Pass (0,0,0,0)
def gh(s:Stmt):Arguments:=match s with|.FunctionDef _ a _ _ _ _ _ _ _ _=>a|_=>{posonlyargs:=[],args:=[],vararg:=af,kwonlyargs:=[],kw_defaults:=[],kwarg:=af,defaults:=[]}
def bZ(s:Stmt):List Stmt:=match s with|.FunctionDef _ _ b _ _ _ _ _ _ _=>b|_=>[]
noncomputable def aT(s:Stmt):Scope:=match s with|.FunctionDef _ _ _ _ _ _ S _ _ _=>S|_=>{kind:=.function,names:=[],isGenerator:=a',isCoroutine:=a'}
abbrev GW:wG:=λ_ _ _ _ _ _=>False
abbrev E0:XK:=λ_ _ _=>False
def Up:dZ GW X E0:=λ_ _ _ _ _ _ _ h=>h.elim
structure IT(K:Frag)(x d1:Str)(st:Stmt)(f:Addr)(fd:dV):Prop where
 ex:∃(oc:Value)(od:Option Addr)(kV doc pm:Value)(an:Option Addr)(fw ct:Value)(A3:Array (Option Value)),fd=fnOf x d1 (gh st) (bZ st) (aT st) .none kV doc pm an fw ct/\K.lookup f=O (oc,od,.func fd,A3)/\codeIn K fw d1=J
 kp:keepIn K (.ref f)=J
section
variable{P:cr}{w:cf}{K:Frag}{mg:db}{base:Heap}
def IT.ok{st:Stmt}{f:Addr}{d:dV}{N ps:ϐ}{k:Nat}{sp:Sp}(F:IT K x l st f d)(S:eD N ps (aT st))(len:∀vs H Q E,sp vs H Q E->vs.length=ps.length)(p:∀(a:Value)(A:c9)(o:List Env)(s:be)(H:Hp)(vs:ϕ)(Q:VK)(E:XK),dR k (A.deeper (envOfC l (aT st) s.heap.objs.size f a))->sp vs H Q E->∃t,oH (qN GW P w K mg base N l (aT st) f a A o s H E).XG (bZ st) t/\t {nx:=λ_ H'=>Q .non H',rt:=Q} (start N vs) H):iB P w K mg base GW (k+1) f d ps sp:=by have(oc,b,kV,doc,m,n,a,ct,c,rfl,lk,C):=F.ex;refine AA lk C S len λA o s H vs Q E r B=>?_;have(t,h,q):=p a A o s H vs Q E r B;exact(t,h.XG,q)
def IT.binds{st:Stmt}(F:IT K x q st f d)(h:∀(kV doc p:Value)(a:Option Addr)(b ct:Value)(us:List Value),us.length=ps.length->bindArgs (fnOf x q (gh st) (bZ st) (aT st) .none kV doc p a b ct) (us,[])=pure (ps.zip us)):Binds K d ps []:=by have(oc,o,kV,doc,p,a,b,ct,A,rfl,lk,C):=F.ex;exact .all (h kV doc p a b ct)
def yp{st:Stmt}{kV:Value}(l:K.lookup f=O (oc,o,.func (fnOf x q (gh st) (bZ st) (aT st) .none kV doc p a F ct),A))(c:codeIn K F q)(k:keepIn K (.ref f)):IT K x q st f (fnOf x q (gh st) (bZ st) (aT st) .none kV doc p a F ct):=((oc,o,kV,doc,p,a,F,ct,A,rfl,l,c),k)
end
def aaP(h:dR k A):A.units+1<cLine:=zP (Nat.add_le_add_left (by decide:1<=64) _) h.units
section
variable{X:Cx}
def pv(i:Nat){x:Str}{pos:Pos}(h:autoParam (X.N[i]?=O x) o0)(H:ZX X.env.scope x:=by first|exact Or.inl rfl|exact Or.inr (Or.inl rfl)|exact Or.inr (Or.inr rfl))(d:autoParam ((x==("__debug__":Str))=a') W1)(C:autoParam ((x==("__classdict__":Str))=a') W1):PE X (.Name x pos) (Sv i):=Ma h H d C
end
def UF{B:Prop}[Decidable c](H:c->A)(a:¬c->B):if c then A else B:=by
 by_cases h:c;.rw[bI h];exact H h
 .rw[bL h];exact a h
def qE(H H':Hp):Prop:=∀b o,H b=O o->H' b=O o
def qE.refl(H:Hp):qE H H:=λ_ _ h=>h
section
variable(P:cr)(w:cf)
end
section
variable{P:cr}{w:cf}{H H':Hp}{h h':Heap}{a:Addr}{o:HO}
end
section
variable{P:cr}{w:cf}{H:Hp}{h h':Heap}{x e:Addr}{o':HO}
end
section
variable{fs yo ex ex':List Addr}{H H1 H2:Hp}{h h1 h2 h':Heap}{a x e:Addr}{o:HO}
end
section
variable{X:Cx}{bb:cp}{σ:List (Option V)}{H H':Hp}{s:be}{h':Heap}
end
section
variable{X:Cx}
variable{a b:Expr}{ta tb:TE}{pos:Pos}
variable{tA tB':TT}{b':List Expr}
end
section
variable{X:Cx}{bb:cp}{σ:tSt}{H:Hp}{s:be}{a:Addr}{xs ys:ϕ}
end
section
variable{X:Cx}{bb:cp}{σ:tSt}{H:Hp}{s:be}{E:dA}
end
section
variable{X:Cx}{st:Stmt}{b':List Stmt}{t u:TS}{e:Expr}{te:TE}{pos:Pos}
end
section
variable{X:Cx}{pos:Pos}
end
section
variable{X:Cx}{tg:Expr}
end
section
variable{X:Cx}{a b c:Expr}{ta tb tc:TE}{pos:Pos}
end
section
variable{prog:cr}{w:cf}{A:c9}{E:dA}{s:be}{K:Frag}{x dx C f:Addr}{mA:db}{name:Str}{v:Value}
end
section
variable{P:cr}{w:cf}{H H':Hp}{h h':Heap}{a C dx:Addr}{fs yo:List (Str×V)}
end
section
variable{X:Cx}{bb:cp}{σ:tSt}{H:Hp}{s:be}{a C dx:Addr}{fs:List (Str×V)}{f:Str}{v:V}{A:c9}{E:dA}
end
section
variable{X:Cx}{o e value:Expr}{f:Str}{pos pos' Bv:Pos}{ta tv:TE}
end
section
variable{X:Cx}{bb:cp}{σ:tSt}{H:Hp}{s:be}{A:c9}{E:dA}{Q:dA}{c:Value}{b:Bool}
end
section
variable{X:Cx}{e:Expr}{es:List Expr}{te:TE}{t:TA}{pos:Pos}
end
section
variable{X:Cx}{bb:cp}{σ:tSt}{H:Hp}{s s':be}
end
section
variable{X:Cx}{CX:wG}{k:Nat}{f C:Addr}{fd:dV}{ps:ϐ}{sp:Sp}{vI:ϕ}{ds:List Value}{E:XK}{x m:Str}{p pos ci:Pos}{e o:Expr}{es:List Expr}{ta:TE}{t:TA}
end
section
variable{X:Cx}{CX:wG}{k:Nat}{f C:Addr}{fd:dV}{ps ks:ϐ}{sp:Sp}{E:XK}{x m:Str}{p pos ci agI:Pos}{e o:Expr}{es:List Expr}{kws:List Keyword}{te ta:TE}{t tk:TA}{nm:Option Str}
variable{g:List Value->List Value->List Value}{gV:ϕ->ϕ->ϕ}
end
section
variable{X:Cx}{x:Str}{p pos:Pos}{e:Expr}{es:List Expr}{t:TA}{id T:String}{r:ϕ->Hp->VK->Prop}
end
section
variable{κ:Type}[DecidableEq κ]
noncomputable def oj(b:List (κ×V))(k:κ):Option V:=(b.find? λK=>decide (K.1=k)).map (·.2)
noncomputable def uW(b:List (κ×V))(k:κ)(v:V):List (κ×V):=if(b.any λK=>decide (K.1=k))=J then b.map λK=>if K.1=k then(K.1,v)else K else b++[(k,v)]
def vC{k:κ}(e:p.1=k):oj (p::r) k=O p.2:=by simp[oj,iU,e]
def vB{k:κ}(e:¬p.1=k):oj (p::r) k=oj r k:=by simp[oj,iU,e]
def AS(b:List (κ×V))(k:κ)(v:V):(uW b k v).length<=b.length+1:=by
 unfold uW;split;.rw[ae];omega
 .rw[aa,ag,Jl];omega
def n0.nE(r:n0 o u):o.isSome=u.isSome:=by cases o with
 |none=>cases u with|none=>rfl|some _=>exact(show False from r).elim
 |some _=>cases u with|none=>exact(show False from r).elim|some _=>rfl
def KV.val{B:List (κ×V)}{vs:List (κ×Value)}(r:KV B vs)(k:κ):n0 (oj B k) (valueAt vs k):=by unfold KV at r;induction r with|nil=>exact ae3|@cons p q P Q h t i=>
  have(H,a):=h;by_cases e:p.1=k
  .have E:q.1=k:=H.symm.trans e;have b:valueAt (q::Q) k=O q.2:=by simp[valueAt,iU,E]
   rw[vC e,b];exact a
  .have E:¬q.1=k:=λz=>e (H.trans z);have b:valueAt (q::Q) k=valueAt Q k:=by simp[valueAt,iU,E]
   rw[vB e,b];exact i
theorem KV.any(r:KV b vs)(k:κ):(b.any λK=>decide (K.1=k))=vs.any λK=>decide (K.1=k):=by unfold KV at r;induction r with|nil=>rfl|cons h t i=>rw[kR,kR,i,h.1]
def KV.ahk(r:KV b vs)(k:κ){y:V}{u:Value}(R:RelV y u):KV (b.map λK=>if K.1=k then(K.1,y)else K) (vs.map λK=>if K.1=k then(K.1,u)else K):=by unfold KV at r⊢;induction r with|nil=>exact .nil|@cons p q P Q h t i=>
  rw[aH,aH];refine .cons ?_ i;have(H,a):=h;by_cases e:p.1=k;.rw[bI e,bI (H.symm.trans e)];exact(H,R)
  .rw[bL e,bL λz=>e (H.trans z)];exact(H,a)
def KV.put{b:List (κ×V)}{vs:List (κ×Value)}(r:KV b vs)(k:κ){y:V}{u:Value}(R:RelV y u):KV (uW b k y) (stored vs k u):=by
 unfold uW stored;rw[r.any k];by_cases e:(vs.any λK=>decide (K.1=k))=J;.rw[bI e,bI e];exact r.ahk k R
 .rw[bL e,bL e];exact Paired.snoc r (rfl,R)
theorem KV.length{vs:List (κ×Value)}(r:KV b vs):b.length=vs.length:=Paired.length r
end
def Fx(r:RelV (kV k) u):(eY P w).is k u=true:=by cases k with|inl i=>have(t,e):=show ∃t,u=af3 i t from r;subst e;exact rO P w i t|inr x=>have(t,e):=show ∃t,u=af7 x t from r;subst e;exact rP P w x t
theorem w9:∀{ks:List cv}{us:List Value},Vals (ks.map kV) us->ItemsAre (eY P w) ks us|[],_,r=>by rw[b8]at r;cases r;exact .nil|k::ks,_,r=>by rw[aH]at r;cases r with|cons h t=>exact .cons (Fx h) (w9 t)
abbrev KT(H:Hp):List (List cv×V)->List (List cv×Addr×Value)->Prop:=Paired λp q=>p.1=q.1/\H q.2.1=O (.tup (p.1.map kV))/\RelV p.2 q.2.2
def KT.val(r:KT H B xs)(k:List cv):n0 (oj B k) ((atKey xs k).map (·.2)):=by induction r with|nil=>exact ae3|@cons p q P Q h t i=>
  have(a,_,c):=h;by_cases e:p.1=k
  .have E:q.1=k:=a.symm.trans e;have b:atKey (q::Q) k=O q.2:=by simp[atKey,iU,E]
   rw[vC e,b];exact c
  .have E:¬q.1=k:=λz=>e (a.trans z);have b:atKey (q::Q) k=atKey Q k:=by simp[atKey,iU,E]
   rw[vB e,b];exact i
section
variable{P:cr}{w:cf}{H:Hp}{h:Heap}{a:Addr}
def UB(ok:kS P w H h)(e:Rd H a u):eg P w H h a u:=e.ok ok
def Av(ok:kS P w H h)(e:Rd H a (.dK b)):b.length<=sizeLine/\(a==ga)=a'/\∃vs,KV b vs/\h.DictOf (eY P w) a vs:=show eg P w H h a (.dK b)from UB ok e
def tE(ok:kS P w H h)(e:H a=O (.tup (ks.map kV))):(tupleKind (eY P w)).is h ks a:=by have(_,i,r,o,b,c,n,d):=show eg P w H h a (.tup (ks.map kV))from ok a _ e;exact(o,i.toArray,n,b,c,d,by simpa using w9 r)
def Fe(ok:kS P w H h)(e:Rd H a (.dT B)):B.length<=sizeLine/\(a==ga)=a'/\∃xs,KT H B xs/\h.DictOfH (tupleKind (eY P w)) a xs:=by
 have(z,y,xs,r,o,E,d,f,g,i,j,k):=show eg P w H h a (.dT B)from UB ok e;refine(z,y,xs,r,o,E,d,f,g,i,j,λx b=>?_,k);have all:∀{l:List (List cv×V)}{m:List (List cv×Addr×Value)},KT H l m->∀x∈m,(tupleKind (eY P w)).is h x.1 x.2.1:=by intro l m q;induction q with|nil=>intro x b;exact nomatch b|@cons p q s Q c t I=>
   intro x b;rcases aK.mp b with e|b;.subst e;exact tE ok (by rw[<-c.1];exact c.2.1)
   .exact I x b
 exact all r x b
end
def qC(H:Hp)(a:Addr)(y:V)(r:Option V):Prop:=(∃B k,Rd H a (.dK B)/\y=kV k/\r=oj B k)\/∃B k b,Rd H a (.dT B)/\y=.ref b/\H b=O (.tup (k.map kV))/\r=oj B k
theorem qC.k{H:Hp}{a:Addr}{b:List (cv×V)}{k:cv}(e:H a=O (.dK b)):qC H a (kV k) (oj b k):=.inl (b,k,.inl e,rfl,rfl)
section
variable{X:Cx}{bb:cp}{σ:tSt}{H:Hp}{s:be}{a:Addr}{y v:V}{u r:Value}{o:Option V}{A:c9}{E:dA}
def Inv.big(I:Inv X bb σ H s):ga<s.heap.objs.size:=by have h:dr<s.heap.objs.size:=(I.mod.glob.keeps I.bk).lt;exact Nat.lt_trans (by ext) h
def Hf{Q:dA}(hu:A.units+1<cLine)(I:Inv X bb σ H s)(g:qC H a y (O v))(R:RelV y u)(h:∀W s',Inv X bb σ H s'->RelV v W->Q W s'):bv (ce X.prog X.w) A (getItem (.ref a) u) Q E s:=by
 rcases g with ⟨B,k,e,c,l⟩|⟨B,k,b,e,c,m,l⟩;.subst c;have(z,n,q,rel,d):=Av I.di e;have(W,f,i):=n0.some_of (v:=v) (o:=valueAt q k) (by rw[l];exact rel.val k);exact qB (Fx R) d.mapOf f (h W _ (I.tok _) i)
 .subst c;cases show u=aa8 b from R;have(z,n,x,rel,d):=Fe I.di e;have(W,f,i):=n0.some_of (v:=v) (o:=(atKey x k).map (·.2)) (by rw[l];exact rel.val k);have(p,t,j):=Option.map_eq_some_iff.mp f;refine wpAny_getItem_heap (zQ hu) (tE I.di m) d t ?_;rw[j];exact h W _ (I.tok _) i
def afr{Q:dA}(hu:A.units+1<cLine)(I:Inv X bb σ H s)(g:qC H a y o)(R:RelV y u)(h:∀s',Inv X bb σ H s'->Q (.bool o.isSome) s'):bv (ce X.prog X.w) A (compareOp .In u (.ref a)) Q E s:=by
 rcases g with ⟨B,k,e,c,l⟩|⟨B,k,b,e,c,f,l⟩;.subst c;have(z,d,i,rel,D):=Av I.di e;refine wpAny_in_of (Fx R) d D.mapOf ?_;rw[<-(rel.val k).nE,<-l];exact h _ (I.tok _)
 .subst c;cases show u=aa8 b from R;have(z,d,x,rel,D):=Fe I.di e;refine wpAny_in_heap (zQ hu) (tE I.di f) d D ?_;have q:=(rel.val k).nE;rw[Option.isSome_map]at q;rw[<-q,<-l];exact h _ (I.tok _)
def O3{Q:dA}(hu:A.units+1<cLine)(I:Inv X bb σ H s)(g:qC H a y o)(R:RelV y u)(h:∀s',Inv X bb σ H s'->Q (.bool !o.isSome) s'):bv (ce X.prog X.w) A (compareOp .NotIn u (.ref a)) Q E s:=by
 rcases g with ⟨B,k,e,c,l⟩|⟨B,k,b,e,c,f,l⟩;.subst c;have(z,d,i,rel,D):=Av I.di e;refine wpAny_notIn_of (Fx R) d D.mapOf ?_;rw[<-(rel.val k).nE,<-l];exact h _ (I.tok _)
 .subst c;cases show u=aa8 b from R;have(z,d,x,rel,D):=Fe I.di e;refine wpAny_notIn_heap (zQ hu) (tE I.di f) d D ?_;have q:=(rel.val k).nE;rw[Option.isSome_map]at q;rw[<-q,<-l];exact h _ (I.tok _)
def VZ(z:b.length<=sizeLine)(h:(a==ga)=a')(R:KV b vs)(dd:h'.DictOf (eY P w) a vs):eg P w H' h' a (.dK b):=(z,h,vs,R,dd)
end
section
variable{X:Cx}{bb:cp}{σ:tSt}{H:Hp}{s:be}{a:Addr}{bE:List (cv×V)}{k:cv}{u:Value}{A:c9}{E:dA}
def ν{Q:dA}(I:Inv X bb σ H s)(e:Rd H a (.dK bE))(h:∀t s',Inv X bb σ H s'->Q (.int bE.length t) s'):bv (ce X.prog X.w) A (call (.builtin "len") [.ref a]) Q E s:=by have(z,d,v,rel,D):=Av I.di e;refine call_len_dict d D (by rw[<-rel.length];rw[vQ]at z;omega) ?_;rw[<-rel.length];exact h _ _ (I.tok _)
end
def Vf(i:Expr):Prop:=∀o I,subscripted i a' o I=operate [o,I] (getItem o I)
def R9{E:dA}{id:String}{Q:dA}(l:typeLookup (.type T) "__getitem__"=pure (O (.builtin id)))(e:Vf slice)(h:bv (ce prog w) A (eval v env) (λo S=>bv (ce prog w) A (eval slice env) (λi s₂=>s₂.TypeIs o T/\bv (ce prog w) A (getItem o i) Q E s₂) E S) E s):bv (ce prog w) A (eval (.Subscript v slice pos) env) Q E s:=by
 refine Subscript_ (fe h (λo S b=>fe b (λi s₂ H=>?_) λ_ _ x=>x) λ_ _ x=>x);have(d,H):=H;unfold subscriptTail;refine aj ?_;rw[getitemInPython_of_ne d.not_modules];refine aj (wpAny_specialOf d l ?_);have fin:bv (ce prog w) A (subscripted slice a' o i) (λr a=>bv (ce prog w) A (letTemporaryGo v o r>>=λ_=>pure r) Q E a) E s₂:=by rw[e o i];exact wpAny_operating (fe H (λr a c=>aj (wpAny_letTemporaryGo (aJ c))) λ_ _ x=>x)
 first|exact aJ (aj fin)|exact aj (aJ (aj fin))|exact aj fin
def Au{σ:tSt}(I:Inv X p σ H s)(g:qC H a y o):s.TypeIs (.ref a) "dict":=by
 rcases g with ⟨B,k,e,_,_⟩|⟨B,k,b,e,_,_,_⟩;.have(_,_,v,_,d):=Av I.di e;exact d.typeIs
 .have(_,_,x,_,d):=Fe I.di e;exact d.typeIs
def acW(t ty:TE):TE:=λσ H Q=>t σ H λx b=>ty σ b λy h=>∃a v,x=.ref a/\qC h a y (O v)/\Q v h
def ahD(ty t:TE):TE:=λσ H Q=>ty σ H λy b=>t σ b λx h=>∃a o,x=.ref a/\qC h a y o/\Q (.bl o.isSome) h
def Sb(ty t:TE):TE:=λσ H Q=>ty σ H λy b=>t σ b λx h=>∃a o,x=.ref a/\qC h a y o/\Q (.bl !o.isSome) h
section
variable{X:Cx}{o i e value:Expr}{pos pos' Bv:Pos}{td ty tv:TE}
def Rc(hu:X.A.units+1<cLine)(c:PE X o td)(d:PE X i ty)(f:Vf i:=by exact λ_ _=>rfl):PE X (.Subscript o i pos) (acW td ty):=by intro p s σ H Q I h;refine R9 iq.lookup f (dC (c p s σ H _ I h) λu s1 (x,j,k,r,q)=>dC (d p s1 σ j _ k q) λt s2 y=>?_);have(y,l,b,R,a,v,ex,g,m):=y;subst ex;obtain rfl:u=aa8 a:=r;exact(Au b g,Hf hu b g R λw S n C=>(v,l,n,C,m))
def DI(hu:X.A.units+1<cLine)(b:PE X i ty)(c:PE X o td):PC X .In i o (ahD ty td):=by intro p s σ H Q I h;refine dC (b p s σ H _ I h) λn s1 (y,d,f,r,q)=>dC (c p s1 σ d _ f q) λu s2 x=>?_;have(x,j,k,R,a,v,ex,g,l):=x;subst ex;obtain rfl:u=aa8 a:=R;exact afr hu k g r λS m=>(.bl v.isSome,j,m,rfl,l)
def HX(hu:X.A.units+1<cLine)(b:PE X i ty)(c:PE X o td):PC X .NotIn i o (Sb ty td):=by intro p s σ H Q I h;refine dC (b p s σ H _ I h) λn s1 (y,d,f,r,q)=>dC (c p s1 σ d _ f q) λu s2 x=>?_;have(x,j,k,R,a,v,ex,g,l):=x;subst ex;obtain rfl:u=aa8 a:=R;exact O3 hu k g r λS m=>(.bl !v.isSome,j,m,rfl,l)
end
section
variable{X:Cx}{pos:Pos}
end
def lF(b more:List (cv×V)):List (cv×V):=more.foldl (λa k=>uW a k.1 k.2) b
def KV.merge:∀{more:List (cv×V)}{R:List (cv×Value)}{b:List (cv×V)}{vs:List (cv×Value)},KV more R->KV b vs->KV (lF b more) (merged vs R):=by intro more R b vs r;unfold KV at r;induction r generalizing b vs with|nil=>intro q;exact q|@cons p q P Q h t i=>
  intro a;have e:KV (uW b p.1 p.2) (stored vs q.1 q.2):=by have:=a.put p.1 h.2;rw[<-h.1];exact this
  exact i e
theorem oy:∀(more b:List (cv×V)),(lF b more).length<=b.length+more.length|[],b=>by show b.length<=b.length+0;omega|p::r,b=>by have h1:=oy r (uW b p.1 p.2);have h2:=AS b p.1 p.2;show(lF (uW b p.1 p.2) r).length<=_;rw[ag];omega
section
variable{X:Cx}{bb:cp}{σ:tSt}{H:Hp}{s:be}{a:Addr}{y d:V}{u r:Value}{o:Option V}{A:c9}{E:dA}
end
section
variable{X:Cx}{o e f:Expr}{ci dH:Pos}{td ty tx:TE}
end
section
variable{X:Cx}{bb:cp}{σ:tSt}{H:Hp}{s:be}{a:Addr}{bE:List (cv×V)}{A:c9}{E:dA}
end
section
variable{X:Cx}{bb:cp}{σ:tSt}{H:Hp}{s:be}{a:Addr}{y:V}{u:Value}{A:c9}{E:dA}
end
end L2
namespace Att
open PySem.W PySem.Calls
section
variable{prog:cr}{w:cf}{A:c9}{E:dA}{s:be}{K:Frag}
end
end Att
namespace L2
section
variable{P:cr}{w:cf}{K:Frag}{mg:db}{base:Heap}
end
section
variable{X:Cx}
def Hc:dQ X (.builtin "len") λxs H Q=>∃a b,xs=[V.ref a]/\H a=O (.dK b)/\Q (.int b.length) H:=by intro p s σ H xs U Q I r h;have(a,b,rfl,c,q):=h;have(u,rfl,R):=o6 r;cases R;exact ν I (.inl c) λt S i=>(.int b.length,H,i,(t,rfl),q)
end
section
variable{κ:Type}[DecidableEq κ]
end
noncomputable def pK(cells:List (Str×Addr))(names:List (Str×NameKind))(acc:List (Str×Addr)):List (Str×Addr):=match names with|[]=>acc|(n,k)::r=>pK cells r (if k==.free then(n,(cells.lookup n).getD 0)::acc else acc)
theorem pL:∀{names:List (Str×NameKind)}{acc:List (Str×Addr)},(∀y∈names,y.2=.free->∃c,cells.lookup y.1=O c)->(∀x c,acc.lookup x=O c->cells.lookup x=O c)->∀x c,(pK cells names acc).lookup x=O c->cells.lookup x=O c
 |[],acc,_,h,x,c,e=>h x c e|(n,k)::r,acc,f,h,x,c,e=>by
  unfold pK at e;refine pL (λy b=>f y (ao _ b)) ?_ x c e;intro X C E;by_cases a:k=.free
  .subst a;have(d,g):=f (n,.free) au rfl;have u:cells.lookup n=O d:=g
   simp only[fI,me,fD]at E;cases H:X==n with|true=>
    rw[H]at E;have i:X=n:=by simpa using H
    subst i;simp only[u,Option.getD_some]at E;rw[u];exact E|false=>rw[H]at E;exact h X C E
  .have j:(k==ac0)=false:=by simpa using a
   simp only[j,nV,vP]at E;exact h X C E
theorem ua:∀{names:List (Str×NameKind)}{acc:List (Str×Addr)}{x:Str},(∃c,acc.lookup x=O c)\/(x,ac0)∈names->∃c,(pK cells names acc).lookup x=O c
 |[],acc,x,h=>by
  rcases h with h|h;.exact h
  .cases h|(n,k)::r,acc,x,h=>by
  unfold pK;refine ua ?_;by_cases H:k=.free;.subst H;simp only[fI,me,fD];cases a:x==n with|true=>exact .inl (_,rfl)|false=>
    rcases h with h|h;.exact .inl h
    .rcases aK.mp h with h|h;.cases h;simp at a
     .exact .inr h
  .have b:(k==ac0)=false:=by simpa using H
   simp only[b,nV,vP];rcases h with h|h;.exact .inl h
   .rcases aK.mp h with h|h;.cases h;exact absurd rfl H
    .exact .inr h
theorem om:∀{names:List (Str×NameKind)}{acc:List (Str×Addr)},(∀y∈names,y.2=.free->∃c,env.cells.lookup y.1=O c)->(forIn names acc λ(x:Str×NameKind)(r:List (Str×Addr))=>(if x.2==.free then(do let a<-cellOf env x.1;pure (ad9 ((x.1,a)::r)))else pure (ad9 r):Sem (ForInStep (List (Str×Addr)))))=(pure (pK env.cells names acc):Sem (List (Str×Addr)))
 |[],acc,_=>rfl|(n,k)::r,acc,h=>by
  rw[sO];have i:=λA=>om (env:=env) (names:=r) (acc:=A) λy b=>h y (ao _ b);by_cases H:k=.free;.subst H;have(c,d):=h (n,.free) au rfl;have K:env.cells.lookup n=O c:=d;simp only[fI,me,cellOf,K,pure_bind,pK,Option.getD_some];exact i _
  .have e:(k==ac0)=false:=by simpa using H
   simp only[e,nV,vP,pure_bind,pK];exact i _
def Cd(h:∀y∈s.names,y.2=.free->∃c,env.cells.lookup y.1=O c):closureFor s env=pure (pK env.cells s.names []):=by have q:=om (env:=env) (acc:=[]) h;unfold closureFor;exact(cy (λm:Sem (List (Str×Addr))=>m>>=λC=>pure C) q).trans (by simp)
def fi(X:Cx)(n:ϐ)(s:Scope)(fp:List Addr)(s₀:be)(H₀:Hp):Cx:={X with N:=n,s₀:=s₀,H₀:=H₀,env:=compEnvC s (pK X.env.cells s.names []) s₀.heap.objs.size X.env,outer:=X.stack,ex:=fp,fn:=λ_=>a',pn:=[],xe:=λ_ _=>False}
structure eS(X:Cx)(N':ϐ)(scope:Scope):Prop where
 kind:scope.kind=.function
 nd:N'.Nodup
 Ls:∀y∈scope.names,y.2≠.cell
 loc:∀y∈scope.names,y.2=.local->scope.names.lookup y.1=O .local
 fre:∀y∈scope.names,y.2=.free->X.env.kindOf y.1=O .cell
 own:∀x,(x,ac0)∈scope.names->(relabel scope X.env).names.lookup x≠O .local
def zc(c:∀y∈s.names,y.2≠.cell)(h:(relabel s env).names.lookup x=O .cell\/(relabel s env).names.lookup x=O .free):(x,ac0)∈s.names:=by
 have b:∀(l:List (Str×NameKind)),(∀y∈l,y.2≠.cell)->∀k,k=.cell\/k=.free->(l.map λ(n,k)=>if k==ac0&&env.scope.kind==.function&&env.kindOf n==O .cell then(n,ah0)else(n,k)).lookup x=O k->(x,ac0)∈l:=by intro l;induction l with|nil=>intro _ k _ e;cases e|cons y r i=>
   have(n,K):=y;intro c k H e;have g:∀y∈r,y.2≠.cell:=λy j=>c y (ao _ j);have d:K≠.cell:=c (n,K) au;rw[aH]at e;by_cases q:(K==ac0&&env.scope.kind==.function&&env.kindOf n==O .cell)=J
   .simp only[q,me,fD]at e;have m:K=.free:=by have:=(aO _ _▸(aO _ _▸q).1).1;simpa using this
    cases a:x==n with|true=>
     have:x=n:=by simpa using a
     subst this;subst m;exact au|false=>rw[a]at e;exact ao _ (i g k H e)
   .have W:(K==ac0&&env.scope.kind==.function&&env.kindOf n==O .cell)=false:=by simpa using q
    simp only[W,nV,vP]at e;rw[fD]at e;cases a:x==n with
    |true=>
     have f:x=n:=by simpa using a
     subst f;rw[a]at e;have E:K=k:=by simpa using e
     rcases H with H|H;.exact absurd (E.trans H) d
     .rw[E,H];exact au|false=>
     have o:(r.map λ(n,k)=>if k==ac0&&env.scope.kind==.function&&env.kindOf n==O .cell then(n,ah0)else(n,k)).lookup x=O k:=by rw[a]at e;exact e
     exact ao _ (i g k H o)
 rcases h with h|h;.exact b _ c _ (.inl rfl) h
 .exact b _ c _ (.inr rfl) h
section
variable{X:Cx}{bb:cp}{σ:tSt}{H:Hp}{s:be}{N':ϐ}{scope:Scope}{fp:List Addr}
def mh(X:Cx)(N':ϐ)(scope:Scope)(σ σ':tSt):Prop:=σ'.length=N'.length/\∀(i:Nat)(x:Str)(v:V),N'[i]?=O x->σ'[i]?=O (O v)->(x,ac0)∈scope.names/\∃(j:Nat),X.N[j]?=O x/\σ[j]?=O (O v)
def OU(S:eS X N' scope)(I:Inv X bb σ H s)(f:∀b∈fp,mi X bb H b)(n:∀b∈fp,b<s.heap.objs.size):(fi X N' scope fp s H).Ok:=by
 have m:∀y∈scope.names,y.2=.free->∃c,X.env.cells.lookup y.1=O c:=λy g k=>I.ok.has y.1 (.inl (S.fre y g k));have sub:=pL (cells:=X.env.cells) (names:=scope.names) (acc:=[]) m (λx c e=>by cases e);refine(I.ok.mod,S.kind,I.ok.glob,I.ok.blt,ay _,λx y c E i=>I.ok.inj x y c (sub x c E) (sub y c i),λx j=>?_,λx c l=>?_,I.ok.hd,I.ok.frames,.inl rfl,λb h=>?_,I.bs,aE I.ok.G3 I.sz,λb o e h=>?_,λb h p=>?_,I.stack,I.qk);.exact ua (.inr (zc S.Ls j))
 .exact absurd (show a'=J from l) aL
 .have(_,L,_,_,q,_):=f b h;refine(λe=>?_,λx c e=>q x c (sub x c e));have r:b=s.heap.objs.size:=e;exact absurd (n b h) (by rw[r];exact cI _)
 .have(_,_,_,a,_):=f b h;rcases a with a|a;.exact I.ok.yT b o e a
  .exact absurd (bu (aU e) (aE I.ok.G3 a)) (cI _)
 .have(_,L,d,_):=f b h;rcases aK.mp (I.Ej b p)with z|z;.exact L z
  .exact d z
def JX(S:eS X N' scope)(I:Inv X bb σ H s)(w:∀b∈fp,mi X bb H b)(N:∀b∈fp,b<s.heap.objs.size)(t:mh X N' scope σ σ')(A:f.Ns s.heap.objs.size λ_=>af)(h:∀b o,s.heap.get? b=O o->f.get? b=O o):Inv (fi X N' scope fp s H) [] σ' H {s with heap:=f,toks:=T}:=by
 have M:∀y∈scope.names,y.2=.free->∃c,X.env.cells.lookup y.1=O c:=λy B h=>I.ok.has y.1 (.inl (S.fre y B h));have sub:=pL (cells:=X.env.cells) (names:=scope.names) (acc:=[]) M (λx c e=>by cases e);refine(OU S I w N,rfl,I.bare,Un.kept h,(_,A,λi x v C D F=>?_),λx c e=>?_,I.fresh,λx c e=>I.jy x c (sub x c e),λp G=>absurd (show p∈([]:cp)from G) (by simp),I.di.kept h,t.1)
 .have(g,j,K,L):=t.2 i x v C D;have(m,_,P):=I.loc;have a:X.env.kindOf x=O .cell:=S.fre (x,.free) g rfl;have(u,r,l):=P j x v K L (.inr (.inl a));refine(u,r,.inr ?_);rcases l with ⟨k,_⟩|⟨_,c,Q,z⟩;.rw[a]at k;cases k
  .have(R,E):=ua (cells:=X.env.cells) (names:=scope.names) (acc:=[]) (x:=x) (.inr g);have d:=sub x R E;rw[Q]at d;cases d;refine(?_,c,E,z.keeps h);have n:ZX (relabel scope X.env) x:=F;rcases n with q|q|q;.exfalso;exact S.own x g q
   .exact .inl q
   .exact .inr q
 .have(v,z):=I.cell x c (sub x c e);exact(v,z.keeps h)
end
def pE(X:Cx)(i:List Expr)(t:TT):Prop:=∀(p:cp)(s:be)(σ:tSt)(H:Hp)(Q:Bool->Hp->Prop),Inv X p σ H s->t σ H Q->bv (ce X.prog X.w) X.A (forIn i J λc r=>if r=J then(do let ok<-isTrue c X.env (eval c X.env);pure (ad9 ok))else pure (ad9 r)) (TP X p σ Q) X.xe s
def Mq:pE X [] λ_ H Q=>Q J H:=by intro p s σ H Q I h;rw[vM];exact aJ (H,I,h)
def Mr(h:PT X c t):pE X [c] t:=by intro p s σ H Q I a;rw[sO];refine aj ?_;rw[bI rfl];refine aj (dC (h p s σ H Q I a) λb s1 q=>aJ ?_);dsimp only;rw[vM];exact aJ q
def vn(w:TI)(g:TG)(t:TT)(T:TE)(e:tSt->tSt):TE:=λσ H Q=>w σ H λj f=>∀a,f a=af->∃W:Nat->Nat->tSt->ϕ->Hp->Prop,(∃m,W 0 m (e σ) [] (dv f a (.lst [])))/\∀i m d Y h,W i m d Y h->h a=O (.lst Y)/\(j.stop i h/\Q (.ref a) h\/j.go i h/\Y.length<sizeLine/\∀x k,j.yld i h x k->g x d k λc o=>t c o λb l=>if b=J then T c l λy n=>n a=O (.lst Y)/\∃M,M<m/\W (i+1) M c (Y++[y]) (dv n a (.lst (Y++[y])))else ∃M,M<m/\W (i+1) M c Y l)
def sZ(ok:kS P w H h)(d:H C=af)(s:ad2 C h h'):kS P w H h':=λb o e=>(ok b o e).zk (λc u a q=>(s.2 c (by
  rintro rfl;rcases a with rfl|a;.rw[d]at e;cases e
  .rw[d]at a;cases a)).trans q) (λ_ q=>q) λ_ _ q=>q
section
variable{P:cr}{w:cf}{A:c9}{E:dA}{s:be}
def uj{Q:dA}(hd:s.heap.IsTupleIter d t k)(a:s.heap.IsTuple t its)(hu:its[k]?=O u)(b:∀h,h.IsTupleIter d t (k+1)->ad2 d s.heap h->Q u {s with heap:=h}):bv (ce P w) A (q0' (.ref d)) Q E s:=by have(o,Y,W,p):=id hd;have(c,H,_,n,S):=a;unfold q0';refine aj (dN (name:=ad6 "__next__") hd.typeIs gY (hV gY hd.typeIs NQ ?_ (Jk _)));show bv _ _ (field (.ref d) 0>>=_) _ _ s;refine aj (bP Y p (x:=.ref t) rfl ?_);show bv _ _ (if(aa8 t==ab0)=J then _ else _) _ _ s;rw[bL (by intro z;exact aL z)];show bv _ _ (field (.ref d) 1>>=_) _ _ s;refine aj (bP Y p (x:=.int k 0) rfl ?_);show bv _ _ (seqItems? (.ref t)>>=_) _ _ s;refine aj (fJ H S ?_);simp only[gJ,hu];refine aj (g7 Y p (by simp) (aJ (u,rfl,aJ (b _ (_,cS _ Y (gF (dB p _)),(Obj.cls_mapFields ..).trans W,?_) (fu ..)))));rw[dB p];simp[dL]
def pQ{Q:dA}(b:A.handled=af)(hd:s.heap.IsTupleIter d t k)(c:s.heap.IsTuple t its)(hu:its[k]?=af)(f:∀h e,Heap.ExtBut d s.heap h->(∃o,h.get? e=O o/\o.cls=.type "StopIteration")->E (.ref e) {s with heap:=h}):bv (ce P w) A (q0' (.ref d)) Q E s:=by
 have(g,p,i,Z):=id hd;have(j,H,_,n,W):=c;unfold q0';refine aj (dN (name:=ad6 "__next__") hd.typeIs gY (hV gY hd.typeIs NQ ?_ (Jk _)));show bv _ _ (field (.ref d) 0>>=_) _ _ s;refine aj (bP p Z (x:=.ref t) rfl ?_);show bv _ _ (if(aa8 t==ab0)=J then _ else _) _ _ s;rw[bL (by intro z;exact aL z)];show bv _ _ (field (.ref d) 1>>=_) _ _ s;refine aj (bP p Z (x:=.int k 0) rfl ?_);show bv _ _ (seqItems? (.ref t)>>=_) _ _ s;refine aj (fJ H W ?_);simp only[gJ,hu];refine aj (jc (aj (g7 p Z (by simp) ?_)));show bv _ _ (newExc (.type "StopIteration") []>>=_) _ _ _;refine aj ?_;simp only[newExc,newTuple];refine aj (dO ?_ (by size_fits));refine aj (m:=firstArgMember _ _) (wpAny_of_eq (a:=ab0) (by first|rfl|(simp only[firstArgMember];rfl)) ?_);refine dO ?_ (by size_fits);simp only[raiseNew];refine aj (wpAny_handled ?_);first|rw[show A.in1.handled=af from b]|rw[b]
 refine aj (aJ (wpAny_throw ?_));exact f _ _ (((fu ..).extBut.push _).push _) (_,a5 _ rfl,rfl)
structure Vm(z a b c d:Addr):Prop where
 az:a≠z
 bz:b≠z
 cz:c≠z
 dz:d≠z
 ab:a≠b
 ac:a≠c
 ad:a≠d
 bc:b≠c
 bd:b≠d
 cd:c≠d
structure NU(h:Heap)(z a b c d t1 t2:Addr)(k:Nat)(f0:Value):Prop where
 zip:IsZip h z a b f0
 its:IsPair h a (.ref c) (.ref d)own:∃x y,IsPair h b x y
 i1:h.IsTupleIter c t1 k
 i2:h.IsTupleIter d t2 k
def NM{Q:dA}(D:Vm z a b c d)(Z:NU s.heap z a b c d t T k .none)(o1:t≠z/\t≠b/\t≠c/\t≠d)(C:T≠z/\T≠b/\T≠c/\T≠d)(N1:s.heap.IsTuple t xs)(Jb:s.heap.IsTuple T ys)(hx:xs[k]?=O x)(hy:ys[k]?=O y)(hQ:∀H,NU H z a b c d t T (k+1) (dL s.heap.objs.size)->IsPair H s.heap.objs.size x y->(∀e o,e≠z->e≠b->e≠c->e≠d->s.heap.get? e=O o->H.get? e=O o)->Q (.ref s.heap.objs.size) {s with heap:=H}):bv (ce P w) A (Builtin.«zip.__next__» ([.ref z],[])) (λfin s'=>∃v,fin=.done (.ret v)/\Q v s') E s:=by
 obtain⟨h,R,⟨p,q,zo⟩,z1,z2⟩:=Z;show bv _ _ (field (.ref z) 2>>=_) _ _ _;refine aj (bP h rfl (x:=.bool a') rfl ?_);show bv _ _ (field (.ref z) 3>>=_) _ _ _;refine aj (bP h rfl (x:=.ref a) rfl ?_);refine aj (fJ R rfl ?_);show bv _ _ (q2' (.ref z)>>=_) _ _ _;refine aj ?_;unfold q2';refine aj (bP h rfl (x:=.none) rfl (aJ ?_));simp only[me];refine aj (jc ?_);refine aj (bP h rfl (x:=.ref b) rfl ?_);refine aj (fY h (by simp) λk1 F s1=>?_);replace F:IsZip k1 z a b .ellipsis:=F;refine aj ?_;simp only[List.zipIdx_cons,List.zipIdx_nil,sO,vM];refine aj (aj (zE ?_));show bv _ _ (q0' (.ref c)>>=_) _ _ _;refine aj (uj (z1.extBut s1.extBut D.cz) (N1.extBut s1.extBut o1.1) hx λk2 y2 s2=>aJ ?_);have W:IsPair k2 b p q:=s2.extBut _ _ D.bc (s1.extBut _ _ D.bz zo);refine aj (fJ W rfl ?_);refine aj (vR W λk3 G S=>?_);replace G:IsPair k3 b x q:=G;refine aj (ng (aJ ?_));refine aj (aj (zE ?_));show bv _ _ (q0' (.ref d)>>=_) _ _ _;refine aj (uj (((z2.extBut s1.extBut D.dz).extBut s2.extBut D.cd.symm).extBut S.extBut D.bd.symm) (((Jb.extBut s1.extBut C.1).extBut s2.extBut C.2.2.1).extBut S.extBut C.2.1) hy λk4 y4 i=>aJ ?_);have U:IsPair k4 b x q:=i.extBut _ _ D.bd G;refine aj (fJ U rfl ?_);refine aj (vR U λK Y j=>?_);replace Y:IsPair K b x y:=Y;refine aj (ng (aJ (aJ ?_)));refine aj (fJ Y rfl ?_);refine aj (wpAny_newTuple ?_);have sz:K.objs.size=s.heap.objs.size:=by rw[j.1,i.1,S.1,s2.1,s1.1]
 have l:IsZip K z a b .ellipsis:=j.extBut _ _ D.bz.symm (i.extBut _ _ D.dz.symm (S.extBut _ _ D.bz.symm (s2.extBut _ _ D.cz.symm F)));have u:∀e o,e≠z->e≠b->e≠c->e≠d->s.heap.get? e=O o->K.get? e=O o:=λe o f n I L g=>j.extBut _ _ n (i.extBut _ _ L (S.extBut _ _ n (s2.extBut _ _ I (s1.extBut _ _ f g))));have c5:K.IsTupleIter c t (k+1):=((y2.extBut S.extBut D.bc.symm).extBut i.extBut D.cd).extBut j.extBut D.bc.symm;have d5:K.IsTupleIter d T (k+1):=y4.extBut j.extBut D.bd.symm;have m:z<K.objs.size:=aU l;show bv _ _ (q1' (.ref z) (.ref K.objs.size)>>=_) _ _ _;refine aj ?_;unfold q1';have M:IsZip (K.push {cls:=.type "tuple",data:=.seq #[x,y]}) z a b .ellipsis:=aA _ l;refine aj (fY M (by simp) λk7 N X=>?_);replace N:IsZip k7 z a b (dL K.objs.size):=N;refine fY N (by simp) λr B s8=>?_;replace B:IsZip r z a b (dL K.objs.size):=B;have up:∀e o,e≠z->K.get? e=O o->r.get? e=O o:=λe o f g=>s8.extBut _ _ f (X.extBut _ _ f (aA _ g));have t8:IsPair r K.objs.size x y:=s8.extBut _ _ (l9 m) (X.extBut _ _ (l9 m) (a5 _ rfl));rw[sz]at B t8;refine aJ (_,rfl,?_);show Q (.ref K.objs.size) _;rw[sz];exact hQ r (B,up _ _ D.az (u _ _ D.az D.ab D.ac D.ad R),(x,y,up _ _ D.bz Y),c5.at λo g=>up _ o D.cz g,d5.at λo g=>up _ o D.dz g) t8 λe o f n I L g=>up e o f (u e o f n I L g)
def Td(G:A.handled=af)(D:Vm z a b c d)(Z:NU s.heap z a b c d t T k .none)(o1:t≠z/\t≠b/\t≠c/\t≠d)(m:T≠z/\T≠b/\T≠c/\T≠d)(N:s.heap.IsTuple t xs)(Y:s.heap.IsTuple T ys)(WE:xs[k]?=af\/ys[k]?=af)(I:∀n e,(∀f o,f≠z->f≠b->f≠c->f≠d->s.heap.get? f=O o->n.get? f=O o)->(∃o,n.get? e=O o/\o.cls=.type "StopIteration")->E (.ref e) {s with heap:=n}):bv (ce P w) A (Builtin.«zip.__next__» ([.ref z],[])) Q E s:=by
 obtain⟨i,zi,⟨p,q,zo⟩,L,z2⟩:=Z;show bv _ _ (field (.ref z) 2>>=_) _ _ _;refine aj (bP i rfl (x:=.bool a') rfl ?_);show bv _ _ (field (.ref z) 3>>=_) _ _ _;refine aj (bP i rfl (x:=.ref a) rfl ?_);refine aj (fJ zi rfl ?_);show bv _ _ (q2' (.ref z)>>=_) _ _ _;refine aj ?_;unfold q2';refine aj (bP i rfl (x:=.none) rfl (aJ ?_));simp only[me];refine aj (jc ?_);refine aj (bP i rfl (x:=.ref b) rfl ?_);refine aj (fY i (by simp) λk1 y s1=>?_);replace y:IsZip k1 z a b .ellipsis:=y;refine aj ?_;simp only[List.zipIdx_cons,List.zipIdx_nil,sO,vM]
 refine aj (aj (zE ?_));show bv _ _ (q0' (.ref c)>>=_) _ _ _;cases r:xs[k]? with|none=>
  refine aj (pQ G (L.extBut s1.extBut D.cz) (N.extBut s1.extBut o1.1) r λK e s2 u=>?_);have(v,W,H):=u;have j:IsZip K z a b .ellipsis:=s2 _ _ D.cz.symm y;have B:e≠z:=λg=>by subst g;rw[j]at W;cases W;simp at H
  refine fY j (by simp) λM _ S=>I M e (λf o F _ C _ g=>S.extBut _ _ F (s2 _ _ C (s1.extBut _ _ F g))) (v,S.extBut _ _ B W,H)|some x=>
  have hy:ys[k]?=none:=by
   rcases WE with h|h;.rw[r]at h;cases h
   .exact h
  refine aj (uj (L.extBut s1.extBut D.cz) (N.extBut s1.extBut o1.1) r λK y2 s2=>aJ ?_);have R:IsPair K b p q:=s2.extBut _ _ D.bc (s1.extBut _ _ D.bz zo);refine aj (fJ R rfl ?_);refine aj (vR R λM y3 S=>?_);refine aj (ng (aJ ?_));refine aj (aj (zE ?_));show bv _ _ (q0' (.ref d)>>=_) _ _ _;refine aj (pQ G (((z2.extBut s1.extBut D.dz).extBut s2.extBut D.cd.symm).extBut S.extBut D.bd.symm) (((Y.extBut s1.extBut m.1).extBut s2.extBut m.2.2.1).extBut S.extBut m.2.1) hy λk4 e U u=>?_);have(v,W,H):=u;have l:IsZip k4 z a b .ellipsis:=U _ _ D.dz.symm (S.extBut _ _ D.bz.symm (s2.extBut _ _ D.cz.symm y));have B:e≠z:=λg=>by subst g;rw[l]at W;cases W;simp at H
  refine fY l (by simp) λk5 _ X=>I k5 e (λf o F f2 C f4 g=>X.extBut _ _ F (U _ _ f4 (S.extBut _ _ f2 (s2.extBut _ _ C (s1.extBut _ _ F g))))) (v,X.extBut _ _ B W,H)
def NO(D:Vm z a b c d)(Z:NU s.heap z a b c d t T k .none)(o1:t≠z/\t≠b/\t≠c/\t≠d)(f:T≠z/\T≠b/\T≠c/\T≠d)(N:s.heap.IsTuple t xs)(j:s.heap.IsTuple T ys)(g:xs[k]?=O x)(i:ys[k]?=O y)(l:∀h,NU h z a b c d t T (k+1) (dL s.heap.objs.size)->IsPair h s.heap.objs.size x y->(∀e o,e≠z->e≠b->e≠c->e≠d->s.heap.get? e=O o->h.get? e=O o)->Q (O (.ref s.heap.objs.size)) {s with heap:=h}):bv (ce P w) A (pyNext (.ref z)) Q E s:=by have H:s.TypeIs (.ref z) "zip":=(_,Z.zip,rfl);unfold pyNext;exact aj (wpAny_attempt (dN (name:=ad6 "__next__") H sM (hV sM H F.entry_zip_next (NM D Z o1 f N j g i λh q m n=>aJ (l h q m n)) (F.args_zip_next_1 _))))
def NP(i:A.handled=af)(D:Vm z a b c d)(Z:NU s.heap z a b c d t g k .none)(o1:t≠z/\t≠b/\t≠c/\t≠d)(j:g≠z/\g≠b/\g≠c/\g≠d)(N:s.heap.IsTuple t xs)(l:s.heap.IsTuple g ys)(W:xs[k]?=af\/ys[k]?=af)(m:∀h,(∀f o,f≠z->f≠b->f≠c->f≠d->s.heap.get? f=O o->h.get? f=O o)->Q af {s with heap:=h}):bv (ce P w) A (pyNext (.ref z)) Q E s:=by have H:s.TypeIs (.ref z) "zip":=(_,Z.zip,rfl);unfold pyNext;refine aj (wpAny_attempt (dN (name:=ad6 "__next__") H sM (hV sM H F.entry_zip_next (Td i D Z o1 j N l W λh e n p=>?_) (F.args_zip_next_1 _))));have(o,q,r):=p;refine aj (wpAny_isInstance (T:="StopIteration") (b:=J) (o,q,r) isSubtype_stop ?_);exact aJ (m _ n)
end
def Ta(n:Nat):Vm (n+4) (n+2) (n+3) n (n+1):=by have h:∀i j:Nat,i≠j->n+i≠n+j:=λi j h e=>h (Nat.add_left_cancel e);exact(h 2 4 (by ext),h 3 4 (by ext),h 0 4 (by ext),h 1 4 (by ext),h 2 3 (by ext),h 2 0 (by ext),h 2 1 (by ext),h 3 0 (by ext),h 3 1 (by ext),h 0 1 (by ext))
def ZL(n:Nat)(e:Addr)(h:e ∈[n+4,n+2,n+3,n,n+1]):n<=e:=by
 simp only[aK,qw,or_false]at h;rcases h with rfl|rfl|rfl|rfl|rfl;.exact cZ _ _
 .exact cZ _ _
 .exact cZ _ _
 .exact ay _
 .exact cZ _ _
def nr(K:Frag)(t a:Addr):It:=(λi H=>∃X Y x y,fK K H t X/\fK K H a Y/\X[i]?=O x/\Y[i]?=O y,λi H v h=>∃T,H T=af/\v=.ref T/\∀X Y x y,fK K H t X->fK K H a Y->X[i]?=O x->Y[i]?=O y->h=dv H T (.tup [x,y]),λi H=>∃X Y,fK K H t X/\fK K H a Y/\(X.length<=i\/Y.length<=i))
def nP{σ:tSt}(I:Inv X p σ H s)(h:fK X.K H t xs)(f:mi X p H b):t≠b:=by
 rintro rfl;have(F,c,d,a,g,j):=f;rcases h with(h|⟨o,h⟩)|⟨o,i,n,k,_⟩;.rw[F]at h;cases h
 .rw[F]at h;cases h
 .have e:=I.ok.mod.T6 t o k;rcases a with q|q;.exact I.ok.yT t o e q
  .exact absurd (bu (aU e) (aE I.ok.G3 q)) (cI _)
section
variable{z a b c d e:Addr}
def xx(h:e ∈[z,b,c,d]):e ∈[z,a,b,c,d]:=(aK.mp h).elim (λq=>q▸.head _) λh=>.tail _ (.tail _ h)
def i8:b ∈[z,a,b,c,d]:=.tail _ (.tail _ (.head _))
def hI:c ∈[z,a,b,c,d]:=.tail _ (.tail _ (.tail _ (.head _)))
def iv:d ∈[z,a,b,c,d]:=.tail _ (.tail _ (.tail _ (.tail _ (.head _))))
def Fa{P:Prop}(h:e ∉[z,b,c,d])(k:e≠z->e≠b->e≠c->e≠d->P):P:=k (λq=>h (q▸.head _)) (λq=>h (q▸.tail _ (.head _))) (λq=>h (q▸.tail _ (.tail _ (.head _)))) λq=>h (q▸.tail _ (.tail _ (.tail _ (.head _))))
def WG{P:Addr->Prop}(h:e ∈[z,a,b,c,d])(H:P z)(f:P a)(g:P b)(i:P c)(j:P d):P e:=(aK.mp h).elim (λq=>q▸H) λh=>(aK.mp h).elim (λq=>q▸f) λh=>(aK.mp h).elim (λq=>q▸g) λh=>(aK.mp h).elim (λq=>q▸i) λh=>(aK.mp h).elim (λq=>q▸j) λh=>nomatch h
def NU.obj(st:NU h z a b c d t T i .none)(H:e ∈[z,a,b,c,d]):∃o,h.get? e=O o/\∀v,o.data≠.cell v:=by obtain⟨Z,f,⟨p,q,j⟩,⟨o1,E,C,D⟩,⟨m,k,n,l⟩⟩:=st;exact WG (P:=λe=>∃o,h.get? e=O o/\∀v,o.data≠.cell v) H (_,Z,λv g=>ac2 g) (_,f,λv g=>ac2 g) (_,j,λv g=>ac2 g) (_,E,λv g=>ac2 (D.symm.trans g)) (_,k,λv g=>ac2 (l.symm.trans g))
end
def Bx{K:Frag}(D:Vm z a b c d):G1 P w K (.Tuple es k pos) (nr K T R) [z,a,b,c,d] z λi h=>NU h z a b c d T R i .none where
 mem:=.head _;obj:=λi h st e j=>st.obj j;keep:=λi h h' st B=>by obtain⟨zz,Z,⟨p,q,U⟩,Y,z2⟩:=st;exact(B z (.head _) _ zz,B a (.tail _ (.head _)) _ Z,(p,q,B b i8 _ U),Y.at λo e=>B c hI o e,z2.at λo e=>B d iv o e)
 item:=by
  intro X hP hw hK hc i L s σ H E I l st hg;subst hP hw hK;have(xs,ys,x,y,v,A,S,hy):=hg;have(K0,r1,p1,l1):=I.tuple v;have(uF,r2,p2,l2):=I.tuple A;have(u1,hu1,ru1):=r1.get S;have(u2,hu2,ru2):=r2.get hy;have C:=λ(e:Addr)(j:e ∈[z,a,b,c,d])=>nP I v (l e j);have F:=λ(e:Addr)(j:e ∈[z,a,b,c,d])=>nP I A (l e j);refine NO D st (C z (.head _),C b i8,C c hI,C d iv) (F z (.head _),F b i8,F c hI,F d iv) (show s.heap.IsTuple T K0.toArray from p1) (show s.heap.IsTuple R uF.toArray from p2) (x:=u1) (y:=u2) (by simpa using hu1) (by simpa using hu2) λhp Z' pr B=>?_;refine(_,rfl,wpAny_letOwnedTupleGo_zip Z'.zip λhq zq sq=>?_);have N:H s.heap.objs.size=none:=I.fresh;have G:∀e o,e ∉[z,b,c,d]->s.heap.get? e=O o->hq.get? e=O o:=λe o j g=>by exact Fa j λv A h3 h4=>sq.extBut _ _ v (B e o v A h3 h4 g)
  have Tz:s.heap.objs.size≠z:=l9 (aU st.zip);have prq:IsPair hq s.heap.objs.size u1 u2:=sq.extBut _ _ Tz pr;have t:∀e u,H e=O u->e ∉[z,b,c,d]:=λe u j M=>by have:H e=none:=(l e (xx M)).1;rw[this]at j;cases j
  have CT:kS X.prog X.w (dv H s.heap.objs.size (.tup [x,y])) hq:=λe u j=>by
   by_cases ee:e=s.heap.objs.size;.subst ee;rw[bQ]at j;cases j;exact(by show 2<=sizeLine;decide,[u1,u2],.cons ru1 (.cons ru2 .nil),(_,prq,rfl,_,rfl))
   .rw[bJ ee]at j;refine(I.di e u j).zk (λf o W g=>G f o ?_ g) (λf g=>by rw[bJ (bV g N)];exact g) λf zs g=>by rw[bJ (bV g N)];exact g
    rcases W with rfl|W;.exact t f u j
    .exact t f _ W
  have I1:Inv X L σ (dv H s.heap.objs.size (.tup [x,y])) {s with heap:=hq}:=by
   refine I.step (g':=s.gens) (d':=s.drawn) (t':=s.toks) (ch:=[z,b,c,d]) (λe j=>?_) (λe o _ _ j g _=>G e o j g) (λe o _ _ j g _=>(o.slots,G e o j g)) (λe o _ g n=>by rw[bJ (bG (aU g))];exact n) (λe o j g=>(o,G e o j g)) (λe zs g=>by rw[bJ (bV g N)];exact g) (λe o u g=>by rw[bJ (bV g N)];exact g) (λe ps g=>(#[],by rw[bJ (bV g N),g];simp)) (λm M=>?_) CT I.bare;.have(f0,f1,f2,f3,f4,f5):=l e (xx j);exact(f3,f1,f4,f5)
   .have(o,V6,ep,Q,r):=M;refine(o,V6,ep,G _ o (λWK=>?_) Q,r);exact(l X.env.locals (xx WK)).2.1 rfl
  refine(.ref s.heap.objs.size,_,I1,rfl,(_,N,rfl,λxs' ys' x' y' g1 g2 gx gy=>?_),?_,λe j=>?_);.have e1:=I.rm g1 v;have e2:=I.rm g2 A;subst e1;subst e2;rw[S]at gx;rw[hy]at gy;cases gx;cases gy;rfl
  .obtain⟨_,Z,⟨p,q,U⟩,Y,z2⟩:=Z';exact(zq,sq.extBut _ _ D.az Z,(p,q,sq.extBut _ _ D.bz U),Y.extBut sq.extBut D.cz,z2.extBut sq.extBut D.dz)
  .rw[bJ];.exact(l e j).1
   .have(o,Q,_):=st.obj j;exact bG (aU Q)
 done:=by
  intro X hP hw hK hc i L s σ H E I l st hg;subst hP hw hK;have(xs,ys,v,A,S):=hg;have(K0,r1,p1,l1):=I.tuple v;have(uF,r2,p2,l2):=I.tuple A;have e1:=r1.length;have e2:=r2.length;have C:=λ(e:Addr)(j:e ∈[z,a,b,c,d])=>nP I v (l e j);have F:=λ(e:Addr)(j:e ∈[z,a,b,c,d])=>nP I A (l e j);refine NP (I.ok.hd hc) D st (C z (.head _),C b i8,C c hI,C d iv) (F z (.head _),F b i8,F c hI,F d iv) (show s.heap.IsTuple T K0.toArray from p1) (show s.heap.IsTuple R uF.toArray from p2) (by
    rcases S with q|q;.exact .inl (by simp;lia)
    .exact .inr (by simp;lia)) λhq B=>(rfl,?_);have G:∀e o,e ∉[z,b,c,d]->s.heap.get? e=O o->hq.get? e=O o:=λe o j g=>by exact Fa j λv A h3 h4=>B e o v A h3 h4 g
  have t:∀e u,H e=O u->e ∉[z,b,c,d]:=λe u j M=>by have:H e=none:=(l e (xx M)).1;rw[this]at j;cases j
  refine I.step (g':=s.gens) (d':=s.drawn) (t':=s.toks) (ch:=[z,b,c,d]) (λe j=>?_) (λe o _ _ j g _=>G e o j g) (λe o _ _ j g _=>(o.slots,G e o j g)) (λe o _ g n=>n) (λe o j g=>(o,G e o j g)) (λe zs g=>g) (λe o u g=>g) (λe ps g=>(#[],by rw[g];simp)) (λm M=>?_) (λe u j=>?_) I.bare;.have(f0,f1,f2,f3,f4,f5):=l e (xx j);exact(f3,f1,f4,f5)
  .have(o,V6,ep,Q,r):=M;refine(o,V6,ep,G _ o (λWK=>?_) Q,r);exact(l X.env.locals (xx WK)).2.1 rfl
  .refine(I.di e u j).zk (λf o W g=>G f o ?_ g) (λf g=>g) λf zs g=>g;rcases W with rfl|W;.exact t f u j
   .exact t f _ W
 self:=λ_ _ _ _ _ st h=>wpAny_pyIter_zip st.zip h
noncomputable abbrev mf(h:Heap)(t:Addr):Heap:=h.push {cls:=.type "tuple_iterator",data:=.fields #[.ref t,.int 0 0]}
abbrev lr(h:Heap)(t T:Addr):Heap:=(mf h t).push {cls:=.type "tuple_iterator",data:=.fields #[.ref T,.int 0 0]}
abbrev kw(h:Heap)(t T:Addr):Heap:=(lr h t T).push {cls:=.type "tuple",data:=.seq #[.ref h.objs.size,.ref (mf h t).objs.size]}
abbrev mF(h:Heap)(t T:Addr):Heap:=(kw h t T).push {cls:=.type "tuple",data:=.seq #[.none,.none]}
noncomputable abbrev Tc(h:Heap)(t T:Addr):Heap:=(mF h t T).push {cls:=.type "zip",data:=.fields #[.none,.bool a',.bool a',.ref (lr h t T).objs.size,.ref (kw h t T).objs.size]}
def BG(t T:Addr)(xs ys:Array Value):Meets (Builtin.«zip.__new__» ([.type "zip",.ref t,.ref T],[])) λ_ R s=>s.heap.IsTuple t xs/\s.heap.IsTuple T ys/\R (.ok (.ret (.ref (mF s.heap t T).objs.size))) {s with heap:=Tc s.heap t T}:=.of_wp λp w A R s h=>by have(b,g,d,k,os):=s;have(N,j,h):=h;have L:=sub_zip;have H:Heap.IsTuple (Shared.heap (b,g,d,k,os)) t xs:=N;have a:Heap.IsTuple (Shared.heap (b.push {cls:=.type "tuple_iterator",data:=.fields #[.ref t,.int 0 0]},g,d,k,os)) T ys:=Heap.IsTuple.push j _;wp_walk using zR H,zR a;exact(_,rfl,h)
def agw(K:Frag)(a:TA):TI:=λσ H R=>a σ H λv h=>∃t T,v=[.ref t,.ref T]/\(∃x,fK K h t x)/\(∃y,fK K h T y)/\R (nr K t T) h
def YE(G:Gl X "zip")(L:X.mg "zip"=af)(M:PA X [a,b] n)(N:autoParam (dt [a,b] X.env=[(a',eval a X.env),(a',eval b X.env)]) o0)(d:autoParam (dt [b] X.env=[(a',eval b X.env)]) o0):PI X (.Tuple es k B) (.Call (.Name "zip" p) [a,b] [] pos) (agw X.K n):=by
 intro c s σ H R I h;refine Call_ (uJ I G L (show d4 "zip"=O (.type "zip")from by ext) (ma (dC (M pos c s σ H _ I h) λus s1 (vs,u,i,v,Q)=>?_) (by rw[N,d]) (by rw[d];rfl)));obtain⟨t,T,e,⟨xs,S⟩,⟨ys,U⟩,q⟩:=Q;subst e;have(u1,u2,rfl,r,j):=v.two;cases r;cases j;have(W,v,p1,l1):=i.tuple S;have(uF,r2,p2,l2):=i.tuple U;refine callType_new F.called_zip (by ext) (F.typeCall_zip_2 _ _) (F.newCall_zip_2 _ _) (λobj=>F.args_object_init_3 obj _ _) F.entry_zip_new (BG t T W.toArray uF.toArray) (p1,p2,?_);have z:(mf s1.heap t).objs.size=s1.heap.objs.size+1:=gZ ..;have l:(lr s1.heap t T).objs.size=s1.heap.objs.size+2:=by rw[gZ,z]
 have m:(kw s1.heap t T).objs.size=s1.heap.objs.size+3:=by rw[gZ,l]
 have x:(mF s1.heap t T).objs.size=s1.heap.objs.size+4:=by rw[gZ,m]
 have y:(Tc s1.heap t T).get? (mF s1.heap t T).objs.size=O _:=a5 _ rfl;have Y:(Tc s1.heap t T).get? (kw s1.heap t T).objs.size=O _:=aA _ (a5 _ rfl);have C:(Tc s1.heap t T).get? (lr s1.heap t T).objs.size=O _:=aA _ (aA _ (a5 _ rfl));have E:(Tc s1.heap t T).get? (mf s1.heap t).objs.size=O _:=aA _ (aA _ (aA _ (a5 _ rfl)));have y1:(Tc s1.heap t T).get? s1.heap.objs.size=O _:=aA _ (aA _ (aA _ (aA _ (a5 _ rfl))));have up:∀e o,s1.heap.get? e=O o->(Tc s1.heap t T).get? e=O o:=λe o g=>aA _ (aA _ (aA _ (aA _ (aA _ g))));show _/\_;rw[l,m,x]at y;rw[z,l]at C;rw[m]at Y;rw[z]at E;rw[x];refine((_,y,rfl),?_);have I2:Inv X c σ u {s1 with heap:=Tc s1.heap t T}:=i.kept (t':=s1.toks) up;have D:Vm (s1.heap.objs.size+4) (s1.heap.objs.size+2) (s1.heap.objs.size+3) s1.heap.objs.size (s1.heap.objs.size+1):=Ta s1.heap.objs.size;have Z:NU (Tc s1.heap t T) (s1.heap.objs.size+4) (s1.heap.objs.size+2) (s1.heap.objs.size+3) s1.heap.objs.size (s1.heap.objs.size+1) t T 0 .none:=(y,C,(_,_,Y),(_,y1,rfl,rfl),(_,E,rfl,rfl));refine(Bx (P:=X.prog) (w:=X.w) (K:=X.K) (es:=es) (k:=k) (pos:=B) D).self X.A 0 _ _ _ Z ?_;refine(s1.heap.objs.size+4,_,_,_,u,rfl,I2,Bx D,Z,λe he=>?_,q);have f:s1.heap.objs.size<=e:=ZL s1.heap.objs.size e he;exact i.Kl f (i.di.fresh f)
def sf(x:Str):It:=(λi _=>i<x.cps.size,λi H v h=>h=H/\∃c,x.cps[i]?=O c/\v=.str ⟨#[c]⟩,λi _=>i=x.cps.size)
def vt{K:Frag}(W:∀N:c9,N.handled=af->Walks P w N it [it] [it] x.cps.size (SignAt x) λi h=>h.IsStrIter it T x t i)(S:∀(A:c9)(i:Nat)(s:be)(Q:dA)(E:dA),s.heap.IsStrIter it T x t i->Q (.ref it) s->bv (ce P w) A (pyIter (.ref it)) Q E s):G1 P w K (.Name y R) (sf x) [it] it λi h=>h.IsStrIter it T x t i where
 mem:=by simp
 obj:=λi h st b a=>by
  have e:b=it:=by simpa using a
  subst e;have(o,e,c,d):=st;exact(o,e,λv z=>by rw[d]at z;cases z)
 keep:=λi h j st k=>by have(o,e,r):=st;exact(o,k it (by simp) o e,r)
 item:=by intro X l m n q i p s σ H E I f st B;subst l m n;have(F,C,U,D,G,L):=f it (by simp);refine(W X.A (I.ok.hd q)).item i s _ E B st λv j g Y Z M=>?_;have(c,u,Kv,rfl):=Y;have I1:Inv X p σ H {s with heap:=j,toks:=g}:=I.turned (t':=g) (λb o a e=>M b o (by simpa using a) e) F C D G L;exact(_,rfl,aJ (.str ⟨#[c]⟩,H,I1,(u,rfl),(rfl,c,Kv,rfl),Z,λb a=>(f b a).1))
 done:=by intro X l m n q i p s σ H E I f st B;subst l m n;have(F,C,U,D,G,L):=f it (by simp);have e:i=x.cps.size:=B;subst e;exact(W X.A (I.ok.hd q)).done s _ E st λj g M=>(rfl,I.turned (t':=g) (λb o a e=>M b o (by simpa using a) e) F C D G L)
 self:=S
def agv(tl:TE):TI:=λσ H R=>tl σ H λx h=>∃z,x=.str z/\R (sf z) h
def YD(j:PE X l tl):PI X (.Name y P) l (agv tl):=by
 intro p s σ H R I h;refine dC (j p s σ H _ I h) λv s1 x=>?_;have(x,c,a,r,k):=x;have(z,rfl,q):=k;have(t,rfl):=r;have F:∀b ∈[s1.heap.objs.size],mi X p c b:=λb m=>by
  have e:b=s1.heap.objs.size:=by simpa using m
  subst e;exact a.Kl (ay _) a.fresh
 cases g:z.cps.all (·<128);.refine wpAny_pyIter_wide g ?_;exact(_,_,_,_,c,rfl,a.kept (t':=s1.toks) λb o e=>aA _ e,vt (t:=t) (λn d=>Walks.strWide d _ z t) λA i s Q E st f=>wpAny_pyIter_striter_wide st f,(_,a5 _ rfl,rfl,rfl),F,q)
 .refine wpAny_pyIter_ascii g ?_;exact(_,_,_,_,c,rfl,a.kept (t':=s1.toks) λb o e=>aA _ e,vt (t:=t) (λn d=>Walks.strAscii d _ z t) λA i s Q E st f=>wpAny_pyIter_striter_ascii st f,(_,a5 _ rfl,rfl,rfl),F,q)
noncomputable def Jj(H:Hp):V->Option String
 |.non=>O "NoneType"|.bl _=>O "bool"|.int _=>O "int"|.str _=>O "str"|.ref a=>match H a with|some (.lst _)=>O "list"|some (.tup _)=>O "tuple"|some (.dK _)=>O "dict"|_=>af
 |_=>af
noncomputable def uE(t c:String):Bool:=t==c||t=="bool"&&c=="int"
def SF{K:Frag}(h:Jj H x=O t):qH K H x (.type t):=by cases x with
 |non=>cases h;exact .non|bl b=>cases h;exact .bl b|int i=>cases h;exact .int i|str z=>cases h;exact .str z|ref a=>
  unfold Jj at h;dsimp only at h;split at h;.rename_i e;cases h;exact .lst e
  .rename_i e;cases h;exact .tup e
  .rename_i e;cases h;exact .dK e
  .cases h|Z1 _=>cases h|Po _=>cases h|ty _=>cases h
def SE(h:Jj H x=O t):t ∈["NoneType","bool","int","str","list","tuple","dict"]:=by
 have k:(Jj H x).all (λt=>["NoneType","bool","int","str","list","tuple","dict"].contains t)=true:=by cases x with
  |ref a=>unfold Jj;dsimp only;cases H a with|none=>rfl|some c=>cases c<;>rfl
  |_=>rfl
 rw[h]at k;exact ko.mp k
def iR{α:Type}{P:α->Prop}{a:α}{l:List α}(h:P a)(k:∀x∈l,P x):∀x∈a::l,P x:=λ_ m=>(aK.mp m).elim (λe=>e▸h) (k _)
def Lh{α:Type}{P:α->Prop}:∀x∈([]:List α),P x:=λ_ m=>nomatch m
def agU{P:String->Prop}(h:t ∈["NoneType","bool","int","str","list","tuple","dict"])(H:P "NoneType")(a:P "bool")(b:P "int")(c:P "str")(d:P "list")(e:P "tuple")(f:P "dict"):P t:=iR H (iR a (iR b (iR c (iR d (iR e (iR f Lh)))))) _ h
def agT{P:String->Prop}(h:t ∈["str","int","bool","tuple","list"])(H:P "str")(a:P "int")(b:P "bool")(c:P "tuple")(d:P "list"):P t:=iR H (iR a (iR b (iR c (iR d Lh)))) _ h
def K4{K:Frag}(h:t ∈["NoneType","bool","int","str","list","tuple","dict"])(H:c ∈["str","int","bool","tuple","list"]):kitOne K (.type t) (.type c)=O (uE t c):=by refine agT (P:=λc=>kitOne K (.type t) (.type c)=O (uE t c)) H ?_ ?_ ?_ ?_ ?_<;>refine agU (P:=λt=>kitOne K (.type t) (.type _)=O (uE t _)) h ?_ ?_ ?_ ?_ ?_ ?_ ?_<;>rfl
def JT:dQ X (.builtin "isinstance") λxs H Q=>∃x c t,xs=[x,.ty c]/\Jj H x=O t/\c ∈["str","int","bool","tuple","list"]/\Q (.bl (uE t c)) H:=by intro p s σ H xs U Q I r h;have(x,c,t,rfl,a,b,q):=h;have(u,v,rfl,R,d):=r.two;obtain rfl:v=af4 c:=d;exact HD I R (SF a) (K4 (SE a) b) λT=>(.bl _,H,I.tok T,rfl,q)
def Aa(y:X.calm):dQ X (.builtin "all") λxs H Q=>∃(l:Addr)(bs:List Bool),xs=[.ref l]/\jd X.K H l (bs.map V.bl)/\Q (.bl (bs.all id)) H:=by
 intro p s σ H xs U Q I r h;have(l,bs,rfl,B,q):=h;have(u,rfl,C):=r.one;cases C;obtain⟨a,m,⟨o,n,t,W,Y,P⟩,F⟩:=I.list B;have L:s.heap.IsList l a.toArray:=(o,t,W,n,P);have N:l<s.heap.objs.size:=aU t;have len:bs.length=a.length:=by have:=m.length;rw[ae]at this;exact this
 refine call_all_walk (o7 L ?_);refine(s.heap.objs.size,[s.heap.objs.size,l],[s.heap.objs.size],a.toArray.size,_,_,λi=>bs[i]?.getD J,rfl,Walks.list (A:=X.A.in1) (I.ok.hd y) _ l (bG N) a.toArray,((_,a5 _ rfl,rfl,rfl),L.push _),λi v S G M D k=>?_,λZ T E=>?_)
 .have w:a[i]?=O v:=by simpa using D
  have c:i<a.length:=(ak.mp w).1;have j:bs[i]?=O bs[i]:=aN (by lia);have(u',d,R):=m.get (i:=i) (x:=.bl bs[i]) (by rw[bN,j];rfl);rw[w]at d;cases d;obtain rfl:v=af9 bs[i]:=R;dsimp only at k;rw[j]at k;exact dP k
 .have e:((ac7 a.toArray.size).all λi=>bs[i]?.getD J)=bs.all id:=by
   rw[aP,<-len];rw[gq,ai,ai];constructor;.intro g b j;have(i,c,e):=x4.mp j;have:=g i (vO.mpr c);rw[aN c,e]at this;exact this
   .intro g i c;have f:=vO.mp c;rw[aN f];exact g _ (hU f)
  rw[e];refine(.bl (bs.all id),H,I.kept (t':=T) λb o e=>?_,rfl,q);exact E b o (λz=>by rw[aV.mp z]at e;exact cI _ (aU e)) (aA _ e)
def HU:jZ X (compareOp .LtE) λx y H Q=>∃i j,x=.str i/\y=.str j/\Q (.bl !decide (j.cps.toList<i.cps.toList)) H:=by intro p s σ H x y v u Q I r R h;have(i,j,rfl,rfl,q):=h;have(t,rfl):=r;have(T,rfl):=R;exact PySem.P.le_str (.bl _,H,I,rfl,q)
def rZ(h:H p=af)(o:HO):qE H (dv H p o):=λb u q=>by rw[bJ (bV q h)];exact q
def Cm{lo:Option Int}(h:HT.fR xs.length 0 lo=0/\HT.fR xs.length xs.length H=xs.length):mw xs lo H=xs:=by unfold mw;rw[h.1,h.2,jG,Nat.sub_zero,cY]
def sD{E:dA}{lo:Option Int}{Q:dA}(H:IsTup s.heap t bn)(c:s.heap.IsSliceOf sl v u .none)(pl:IsPart v lo)(p:IsPart u i)(d:HT.fR bn.size 0 lo=0/\HT.fR bn.size bn.size i=bn.size)(h:Q (.ref t) s):bv (ce P w) A (getItem (.ref t) (.ref sl)) Q E s:=by
 have(os,e,a,f):=id c;have b:s.TypeIs (.ref sl) "slice":=(os,e,a);unfold getItem;try with_reducible refine eC ?_
 first|refine aj (aJ ?_)|skip
 refine aj (wpAny_sequenceKey H.typeIs (by ext) ?_);refine aj (dN (name:=ad6 "__getitem__") H.typeIs cF (hV cF H.typeIs wh ?_ (args_tuple_getitem _ _)));show bv _ _ (af1 (.ref t)>>=_) _ _ s;refine aj (tupleItemsOf_ H ?_);refine aj (su b ?_);rw[bI (by ext)];refine aj (HT.kO c pl p ?_);show bv _ _ (if(((HT.fR bn.size 0 lo:Nat):Int)==0&&(1:Int)==1&&HT.fR bn.size bn.size i-HT.fR bn.size 0 lo==bn.size)=J then _ else _) _ _ s;rw[bI (by rw[d.1,d.2];simp)];refine aj (m:=af2 (.ref t)) ?_;unfold af2;refine aj (su H.typeIs (aJ ?_));rw[bI (by ext)];first|exact aj (jc (aJ (_,rfl,aJ h)))|exact aj (aj (jc (aJ (aJ (_,rfl,aJ h)))))|exact aj (jc (aj (aJ (aJ (_,rfl,aJ h)))))
structure BX(w:cf)(K:Frag)(a:Addr)(tab:Str->Option ϐ):Prop where
 ex:∃(es:Array ft)(n:Nat),K.lookup a=O (.type "dict",af,.dict es n,#[])/\KeysLit w.params es.toList/\∀x,match tab x with|some ks=>∃b,findBy ab5 es x=O (.ref b)/\∃(o:Obj)(its:Array Value)(m:Nat),K.lookup b=O o/\o.cls=.type "tuple"/\o.data=.seq its m/\its.size<=sizeLine/\Vals (ks.map V.str) its.toList|none=>findBy ab5 es x=af
 lo:(a==ga)=a'
def YP(K:Frag)(t:Str->Option ϐ)(T:TE):TE:=λσ H Q=>T σ H λy h=>∃x,y=.str x/\match t x with|some k=>∀b,fK K h b (k.map V.str)->Q (.ref b) h|none=>Q .non h
def Ii(T:BX X.w X.K a c)(L:Gl X n)(M:X.mg n=O (.ref a))(N:PE X e g)(S:autoParam ((n==("__debug__":Str))=a') W1)(U:autoParam (gm (.Name n p) "get" X.env (eval (.Name n p) X.env)=eval (.Name n p) X.env) o0)(W:autoParam (((en D (dt [e] X.env)).all (λx=>!x.1)&&(backToKw D (g_ [] X.env)).all (λx=>x.1.isSome)&&decide ([e].length+([]:List Keyword).length+(if([]:List Keyword).isEmpty then 0 else 1)<30))=J) o0)(Y:autoParam ((ci.endLine==D.line)=J) o0)(z:autoParam (dt [e] X.env=[(a',eval e X.env)]) o0):PE X (.Call (.Attribute (.Name n p) "get" ci) [e] [] D) (YP X.K c g):=by intro P s σ H Q I h;have(es,k,lk,d,look):=T.ex;have f:=iV (prog:=X.prog) (w:=X.w) I.nF lk d;refine D_ U W Y rfl (nH I L M ?_ S);refine("dict","dict.get",PySem.F.plainAttrs_dict,Db,PySem.F.type_dict_get,f.typeIs,f.noDict,?_);have A:PA X [e] (Nh g Eo):=FW N qX (by rw[z];rfl);have B:=A D P s σ H (λv i=>match v with|[y]=>∃x,y=.str x/\(match c x with|some C=>∀b,fK X.K i b (C.map V.str)->Q (.ref b) i|none=>Q .non i)|_=>False) I h;rw[z]at B⊢;refine r9 (by rfl) (vL ?_);refine dC B λus s2 v=>?_;have(v,E,j,r,Z):=v;have R:=iV (prog:=X.prog) (w:=X.w) j.nF lk d;match v,r,Z with|[y],r,(x,ey,q)=>subst ey;have(u,rfl,t,rfl):=r.one;refine call_meetsIn Db R.typeIs PySem.F.entry_dict_get (PySem.F.args_dict_get_2 _ _) (meets_dict_get (strKind X.prog X.w) a (kC X.prog X.w x t) T.lo) (_,R,?_);have lx:=look x;cases G:c x with|some C=>rw[G]at lx q;have(b,fb,o,l,m,l1,l2,l3,l4,l5):=lx;rw[fb];exact(.ref b,E,j.tok _,rfl,q b (.inr (o,l,m,l1,l2,l3,l4,l5)))|none=>rw[G]at lx q;rw[lx];exact(.non,E,j.tok _,rfl,q)
structure Src(K:Frag)(mg:db)(x:Str)(st:Stmt)(ps:ϐ):Prop where ex:∃(f:Addr)(fd:dV),IT K x x st f fd/\mg x=O (.ref f)/\Binds K fd ps []
section
variable{P:cr}{w:cf}{K:Frag}{mg:db}{base:Heap}{x:Str}{st:Stmt}{ps N:ϐ}{k j:Nat}{sp Zd:Sp}
end
noncomputable def b4:Expr->Bool|.Starred _ _=>a'|_=>J
def c6(h:b4 e):dt (e::es) env=(a',eval e env)::dt es env:=by cases e<;>first|rfl|cases h
theorem gS:∀{es:List Expr},es.all b4=J->(en pos (dt es env)).any (·.1)=a'|[],_=>rfl|e::es,h=>by rw[aG,aO]at h;rw[c6 h.1];have i:=gS (env:=env) (pos:=pos) h.2;show(a'||(en pos (dt es env)).any (·.1))=a';rw[i];rfl
def hX(H:PE X e T)(r:PA X es t)(h:autoParam (b4 e=J) o0):PA X (e::es) (Nh T t):=FW H r (c6 h)
def Ur{id:String}(h:dQ X (.builtin id) r)(H:Gl X x)(m:X.mg x=af)(v:d4 x=O (.builtin id))(a:PA X (e::es) t)(n:autoParam (x≠"__name__") W1)(j:autoParam ((x==("__debug__":Str))=a') W1)(d:autoParam ((e::es).all b4=J) o0):PE X (.Call (.Name x p) (e::es) [] pos) (ki r t):=LZ h H m v a n j (c6 (by rw[aG,aO]at d;exact d.1)) (gS (by rw[aG,aO]at d;exact d.2))
def Us{id:String}(h:dQ X (.type id) r)(H:Gl X x)(m:X.mg x=af)(v:d4 x=O (.type id))(a:PA X (e::es) t)(n:autoParam (x≠"__name__") W1)(j:autoParam ((x==("__debug__":Str))=a') W1)(d:autoParam ((e::es).all b4=J) o0):PE X (.Call (.Name x p) (e::es) [] pos) (ki r t):=HZ h H m v a n j (c6 (by rw[aG,aO]at d;exact d.1)) (gS (by rw[aG,aO]at d;exact d.2))
noncomputable def pJ(k:Nat)(s:Ϙ)(σ:tSt):tSt:=aa5 k af++s.map λj=>σ[j]?.join
def WU(k:Nat)(a:Ϙ)(f:k+a.length=n.length)(g:a.map (λj=>X.N[j]?)=(n.drop k).map O)(m:∀x∈n.drop k,(x,ac0)∈s.names):∀σ:tSt,σ.length=X.N.length->mh X n s σ (pJ k a σ):=by
 intro σ _;refine(by unfold pJ;rw[aa,bR,ae];exact f,λi x v p h=>?_);unfold pJ at h;by_cases b:i<k;.rw[aZ (by simpa using b),fB,bI b]at h;cases h
 .rw[aM (by simpa using b),bR,bN]at h;cases c:a[i-k]? with|none=>rw[c]at h;cases h|some j=>
   rw[c]at h;have H:σ[j]?.join=O v:=by simpa using h
   have e:(n.drop k)[i-k]?=O x:=by rw[List.getElem?_drop];rw[show k+(i-k)=i by lia];exact p
   have e2:=cy (λl=>l[i-k]?) g;simp only[bN,c,e,sR]at e2;refine(m x (a7 e),j,cJ e2,?_);cases d:σ[j]? with|none=>rw[d]at H;cases H|some o=>rw[d]at H;have:o=O v:=H;rw[this]
def Cj{X:Cx}{N:ϐ}{scope:Scope}(s:Scope)(h:autoParam (X.env.scope=s) o0)(a:autoParam (scope.kind=.function) hG)(b:autoParam N.Nodup hG)(c:autoParam (∀y∈scope.names,y.2≠.cell) hG)(d:autoParam (∀y∈scope.names,y.2=.local->scope.names.lookup y.1=O .local) hG)(e:autoParam (∀y∈scope.names,y.2=.free->s.names.lookup y.1=O .cell) hG)(f:autoParam (∀y∈scope.names,y.2=.free->(scope.names.map λ(n,k)=>if k==.free&&s.kind==.function&&s.names.lookup n==O .cell then(n,ah0)else(n,k)).lookup y.1≠O .local) hG):eS X N scope:=by subst h;exact(a,b,c,d,e,λx H=>f (x,.free) H rfl)
def JF:d4 "len"=O (.builtin "len"):=PySem.boot_len
def vV:d4 "isinstance"=O (.builtin "isinstance"):=by ext
def VD:d4 "all"=O (.builtin "all"):=by ext
def ET:d4 "list"=O (.type "list"):=by ext
def zY:d4 "tuple"=O (.type "tuple"):=by ext
def JH:d4 "str"=O (.type "str"):=by ext
def B7:d4 "int"=O (.type "int"):=by ext
def OB:d4 "bool"=O (.type "bool"):=by ext
def ab1(h:X.mg x=af)(H:d4 x=O (.type n))(g:Gl X x)(a:autoParam (x≠"__name__") W1)(d:autoParam ((x==("__debug__":Str))=a') W1):PE X (.Name x pos) (tC (.ty n)):=Q8 g h H rfl a d
noncomputable def Z7(C t:Addr)(T:Value):Obj:={cls:=.ref C,data:=.fields #[.ref t,T,.none,.none,.bool a',.none]}
def Ex(h:Heap)(a C T:Addr)(f:Value):Prop:=(∃t,h.get? a=O (Z7 C t (.ref T)))/\T≠a/\∃o s,h.get? T=O o/\o.data=.fields s/\s[3]?=O f
structure Mv(fs:List Addr)(a T:Addr)(h h':Heap):Prop where
 keep:∀b o,h.get? b=O o->b∉fs->b≠a->b≠T->h'.get? b=O o
 slot:∀b o,h.get? b=O o->b∈fs->b≠a->b≠T->∃sl,h'.get? b=O {o with slots:=sl}
def Mv.any(m:Mv fs a T h h')(e:h.get? b=O o)(H:b≠a)(c:b≠T):∃sl,h'.get? b=O {o with slots:=sl}:=by
 by_cases d:b∈fs;.exact m.slot b o e d H c
 .exact(o.slots,m.keep b o e d H c)
section
variable{M:Model}{A:c9}{E:dA}{s:be}{base:Heap}{env:Env}{outer:List Env}{L a C t T:Addr}{Q:Unit->be->Prop}
def Pj(C t:Addr)(b x:Value):(Z7 C t b).mapFields (·.setIfInBounds 1 x)=Z7 C t x:=rfl
def um(u:A.frames=O (env::outer))(l:s.heap.FunFrames base (env::outer))(v:env.frame=O L)(m:s.heap.get? a=O (Z7 C t g))(h:∀h' i,s.heap.get? i=af->s.heap.objs.size<=i->Ex h' a C i (dL L)->Mv ((env::outer).filterMap (·.frame)) a a s.heap h'->Q () {s with heap:=h'}):bv M A (do let x<-frameOf env;let pl<-entryPlaceOf L R;let b<-EntryCells.newEntry head x .none (dL L) .none pl;setField (.ref a) 1 b) Q E s:=by
 have X:a∉(env::outer).filterMap (·.frame):=λw=>by have(_,o,n,y):=l.mem w;rw[m]at n;cases n;exact y _ rfl
 refine aj (wpAny_frameOf_fun u l v λH c=>?_);refine aj (wpAny_entryPlaceOf λpl D=>?_);unfold EntryCells.newEntry newFields;refine aj (dO ?_ (D.sizeOk5 _ _ _ _ _));have d:H.get? a=O (Z7 C t g):=(c.2.1 a X).trans m;have f:=aA (h:=H) {cls:=.type "traceback",dict:=af,data:=.fields ([head,.ref L,.none,dL L,.none]++if pl.isEmpty then aa5 6 ab0 else pl).toArray} d;refine g7 f rfl (Nat.lt_of_sub_pos (Nat.succ_pos 4)) ?_;have P:H.objs.size≠a:=l9 (aU d);have p:∀b o,s.heap.get? b=O o->b≠H.objs.size:=λb o e=>by have(sl,j):=c.2.2 b o e;exact bG (aU j)
 have z:s.heap.get? H.objs.size=none:=by cases q:s.heap.get? H.objs.size with|none=>rfl|some o=>exact absurd rfl (p _ o q)
 refine h _ H.objs.size z (l8 c.1.symm) ((t,?_),P,{cls:=.type "traceback",dict:=af,data:=.fields ([head,.ref L,.none,dL L,.none]++if pl.isEmpty then aa5 6 ab0 else pl).toArray},_,?_,rfl,?_) (λb o e r k _=>?_,λb o e r k _=>?_);.rw[<-Pj C t g];exact cS _ f rfl
 .rw[b6 _ _ (bX P)];exact a5 H rfl
 .first|(simp;done)|(rcases D with rfl|⟨_,_,_,_,_,_,_,rfl⟩<;>simp)
 .rw[b6 _ _ (bX k)];exact aA _ ((c.2.1 b r).trans e)
 .have(sl,j):=c.2.2 b o e;refine(sl,?_);rw[b6 _ _ (bX k)];exact aA _ j
def abD(o:A.frames=O (env::outer))(l:s.heap.FunFrames base (env::outer))(H:env.frame=O L)(e:s.heap.get? a=O (Z7 C t .none))(h:∀h' b,s.heap.get? b=af->s.heap.objs.size<=b->Ex h' a C b (dL L)->Mv ((env::outer).filterMap (·.frame)) a a s.heap h'->Q () {s with heap:=h'}):bv M A (eL (.ref a) env) Q E s:=by unfold eL;simp only[H];refine aj (bP e rfl (x:=.none) rfl ?_);rw[bL (by ext)];exact um o l H e h
def Ue(p:A.frames=O (env::outer))(r:s.heap.FunFrames base (env::outer))(k:env.frame=O L)(u:Ex s.heap a C T .none)(h:∀h' c,s.heap.get? c=af->s.heap.objs.size<=c->Ex h' a C c (dL L)->Mv ((env::outer).filterMap (·.frame)) a T s.heap h'->Q () {s with heap:=h'}):bv M A (eL (.ref a) env) Q E s:=by
 obtain⟨⟨t,l⟩,v,G,w,f,g,m⟩:=u;unfold eL;simp only[k];refine aj (bP l rfl (x:=.ref T) rfl ?_);rw[bI (show(aa8 T !=ab0)=J from by simp)];refine aj (bP f g m ?_);rw[bL (show ¬(ab0==dL L)=J from by simp[dL])];refine aj (g7 f g (eG.mp m).1 ?_);have B:∀b,b≠T->(s.heap.update T (ad7 (·.setIfInBounds 3 ab0))).get? b=s.heap.get? b:=λb H=>b6 _ _ (bX H);have N:∀b o,s.heap.get? b=O o->(∀y,o.data≠.fields y)->b≠T:=λb o H P q=>by rw[q,f]at H;cases H;exact P w g
 refine um (s:={s with heap:=s.heap.update T (ad7 (·.setIfInBounds 3 ab0))}) p (r.of_keeps λb o H P=>(o,(B b (N b o H P)).trans H,rfl)) k ((B a (bX v)).trans l) λh' c F i D n=>?_;refine h h' c ?_ ?_ D (λb o e H d j=>n.keep b o ((B b j).trans e) H d d,λb o e H d j=>n.slot b o ((B b j).trans e) H d d)
 .by_cases q:c=T;.rw[q]at F;have z:=cS (ad7 (·.setIfInBounds 3 ab0)) f (gF (dB g _));rw[z]at F;cases F
  .exact(B c q).symm.trans F
 .have z:=s_ s.heap T (ad7 (·.setIfInBounds 3 ab0));exact aE (l8 z.symm) i
def abE(H:env.frame=O L)(e:Ex s.heap a C T (dL L))(h:Q () s):bv M A (eL (.ref a) env) Q E s:=by obtain⟨⟨t,b⟩,P,o,g,c,d,f⟩:=e;unfold eL;simp only[H];refine aj (bP b rfl (x:=.ref T) rfl ?_);rw[bI (show(aa8 T !=ab0)=J from by simp)];refine aj (bP c d f ?_);rw[bI (show(dL L==dL L)=J from by simp)];exact aJ h
def Pl(e:Ex s.heap a C T f)(h:∀h',Ex h' a C T .none->ad2 T s.heap h'->Q () {s with heap:=h'}):bv M A (setFlight (.ref a) af) Q E s:=by obtain⟨⟨t,b⟩,c,o,g,d,H,i⟩:=e;have z:3<g.size:=(eG.mp i).1;unfold setFlight;refine aj (bP b rfl (x:=.ref T) rfl ?_);rw[bI (show(aa8 T !=ab0)=J from by simp)];refine g7 d H z (h _ ((t,(b6 _ _ c).trans b),c,_,_,cS _ d (gF (dB H _)),dB H _,by simp[z]) (fu ..))
end
section
variable{prog:cr}{w:cf}{A:c9}{E:dA}{s:be}{e C t:Addr}{tb:Value}
end
def eg.there(x:eg P w H h a o):∃ob,h.get? a=O ob:=by cases o with|lst X=>have(_,_,_,_,e):=x;exact(_,e)|tup X=>have(_,_,_,o,e,_):=x;exact(_,e)|dK b=>have(_,_,_,_,o,_,_,e,_):=x;exact(_,e)|dT b=>have(_,_,_,_,o,_,_,e,_):=x;exact(_,e)|set S n=>have(o,_,_,_,e,_):=x;exact(_,e)|ins C d fs=>have(_,_,_,e,_):=x;exact(_,e)|own y=>exact x|xd fs=>obtain⟨_,⟨o,_,_,e,_⟩,_⟩:=x;exact(_,e)|rng lo i=>have(_,_,_,e):=x;exact(_,e)|CK ob u=>have(e,_):=x;exact(_,e)|UU p=>exact(_,show h.get? a=O _ from x)|met f y=>exact(_,show h.get? a=O _ from x)|ext φ=>exact x.2.1
def kS.none_of(x:kS P w H h)(e:h.get? a=af):H a=none:=by cases q:H a with|none=>rfl|some o=>have(b,z):=(x a o q).there;rw[e]at z;cases z
def kS.keep(x:kS P w H h)(k:∀b u o,H b=O u->h.get? b=O o->h'.get? b=O o):kS P w H h':=λa o e=>(x a o e).zk (λb u c q=>by
  rcases c with rfl|c;.exact k _ _ _ e q
  .exact k _ _ _ c q) (λ_ q=>q) λ_ _ q=>q
structure Fl(P:cr)(w:cf)(l:List Env)(H:Hp)(s:be)(H':Hp)(a C:Addr)(fl:Value)(s':be):Prop where
 os:s'.os=s.os
 bare:AllBare s'.gens
 un:Un (ox l) [] H H' s.heap s'.heap
 di:kS P w H' s'.heap
 na:H' a=af
 new:s.heap.get? a=af
 ex:∃T,Ex s'.heap a C T fl/\H' T=af/\s.heap.get? T=af
def o8(P:cr)(w:cf):wG:=λl H s E e S=>∃a C h,e=.ref a/\Fl P w l H s h a C .none S/\E (.ref C) af h
section
variable{X:Cx}{bb:cp}{σ:tSt}{H H':Hp}{s s':be}{a C:Addr}{fl:Value}
def Fl.inv(I:Inv X bb σ H s)(f:Fl X.prog X.w X.stack H s H' a C fl s'):Inv X bb σ H' s':=I.EY (ch:=[]) f.os f.un f.di f.bare λb h=>absurd h (by simp)
def Fl.frF(I:Inv X bb σ H s)(f:Fl X.prog X.w X.stack H s H' a C fl s'):∀b∈ox X.stack,H' b=none:=λb h=>by have(_,o,c,_):=I.stack.mem h;exact f.un.free b o c (I.qk b h) (by simp)
def Fl.move(f:Fl X.prog X.w l H s H' a C fl s')(d:∀b∈ox l,H' b=af)(g:H' T=af)(Z:s.heap.get? T=af)(m:Mv (ox l) a T s'.heap h')(e:Ex h' a C t B)(i:H' t=af)(A:s.heap.get? t=af):Fl X.prog X.w l H s H' a C B {s' with heap:=h'}where
 os:=f.os;bare:=f.bare;un:=by
  have na:∀b o,s.heap.get? b=O o->b≠a:=λb o q z=>by rw[z,f.new]at q;cases q
  have N:∀b o,s.heap.get? b=O o->b≠T:=λb o q z=>by rw[z,Z]at q;cases q
  refine(λb o q n h x=>m.keep b o (f.un.keep b o q n h x) h (na b o q) (N b o q),λb o q n h x=>?_,f.un.free,λb o q x=>?_,f.un.rn,f.un.pS,f.un.rj);.have(sl,Q):=f.un.slot b o q n h x;have(S,c):=m.slot b _ Q h (na b o q) (N b o q);exact(S,c)
  .have(j,Q):=f.un.there b o q x;have(sl,c):=m.any Q (na b o q) (N b o q);exact(_,c)
 di:=f.di.keep λb u o e q=>m.keep b o q (λz=>by rw[d b z]at e;cases e) (λz=>by rw[z,f.na]at e;cases e) (λz=>by rw[z,g]at e;cases e);na:=f.na;new:=f.new;ex:=(t,e,i,A)
theorem Fl.fresh(f:Fl X.prog X.w l H s H' a C fl s')(h:s'.heap.get? T=af)(b:s'.heap.objs.size<=T):H' T=af/\s.heap.get? T=none:=by refine(f.di.fresh b,?_);cases q:s.heap.get? T with|none=>rfl|some o=>have(c,z):=f.un.there T o q (by simp);rw[h]at z;cases z
def Fl.mE(I:Inv X bb σ H s)(f:Fl X.prog X.w X.stack H s H' a C fl s'):s'.heap.FunFrames X.base X.stack:=(f.inv I).stack
variable{M:Model}{A:c9}{E:dA}{Q:Unit->be->Prop}
def Fl.note(I:Inv X bb σ H s)(P:X.stack=X.env::o)(d:X.env.frame=O X.env.locals)(c:A.frames=O X.stack)(f:Fl X.prog X.w X.stack H s H' a C .none s')(h:∀i,Fl X.prog X.w X.stack H s H' a C (dL X.env.locals) i->Q () i):bv M A (eL (.ref a) X.env) Q E s':=by have(T,e,g,N):=f.ex;have hl:=f.mE I;have F:∀b∈ox X.stack,H' b=none:=f.frF I;rw[P]at c hl;refine Ue c hl d e λp t n j k m=>h _ ?_;have(G,l):=f.fresh n j;exact f.move F g N (by rw[P];exact m) k G l
def Fl.land(f:Fl X.prog X.w l H s H' a C fl s')(g:∀b∈ox l,H' b=af)(h:∀I,Fl X.prog X.w l H s H' a C .none I->Q () I):bv M A (setFlight (.ref a) af) Q E s':=by have(T,e,d,N):=f.ex;exact Pl e λj i S=>h _ (f.move g d N (λb o q _ _ c=>(S.2 b c).trans q,λb o q _ _ c=>(o.slots,(S.2 b c).trans q)) i d N)
def Fl.out(I:Inv X bb σ H s)(h:X.ex=[])(f:Fl X.prog X.w X.stack H s H' a C fl s'):Fl X.prog X.w X.outer X.H₀ X.s₀ H' a C fl s':=by
 have j:=f.inv I;have d:∀b,s.heap.get? b=af->X.s₀.heap.get? b=none:=λb q=>by cases z:X.s₀.heap.get? b with|none=>rfl|some o=>have(g,y):=I.base.there b o z (by rw[h];simp);rw[q]at y;cases y
 have(T,e,c,N):=f.ex;have un:=j.base;rw[h]at un;exact(j.os,j.bare,un,j.di,f.na,d _ f.new,T,e,c,d _ N)
end
structure Oh(X:Cx):Prop where
 st:X.stack=X.env::X.outer
 fr:X.env.frame=O X.env.locals
 ex:X.ex=[]
def jR(X:Cx)(E:XK):Prop:=∀e s,bv (ce X.prog X.w) X.A (leaving X.env e) (λ_ I=>o8 X.prog X.w X.outer X.H₀ X.s₀ E e I) (λa I=>o8 X.prog X.w X.outer X.H₀ X.s₀ E a I) s->X.xe e s
def jR.pass(fr:Oh X)(o:jR X E):dZ (o8 X.prog X.w) X E:=by intro p σ H s e S I h;have(a,C,b,rfl,f,q):=h;refine o _ _ ?_;unfold leaving;refine aj (f.note I fr.st fr.fr I.ok.frames λs2 f2=>?_);refine f2.land (f2.frF I) λc F=>?_;exact(a,C,b,rfl,F.out I fr.ex,q)
def jR.made{σ:tSt}(fr:Oh X)(o:jR X E)(I:Inv X p σ H s)(m:Heap.MadeExcOf s.heap h' a (.ref C) vs)(q:E (.ref C) af H):X.xe (.ref a) {s with heap:=h'}:=by
 refine o _ _ ?_;have(t,i,k,A):=m.there;have j:Inv X p σ H {s with heap:=h'}:=I.kept (t':=s.toks) m.keeps;have F:∀b∈ox X.stack,H b=none:=j.qk;unfold leaving;have hl:=j.stack;have d:=j.ok.frames;rw[fr.st]at hl d;have h:H a=none:=I.di.none_of m.new;have g:∀b,h'.get? b=af->s.heap.get? b=none:=λb q=>by cases z:s.heap.get? b with|none=>rfl|some o=>rw[m.keeps b o z]at q;cases q
 refine aj (abD (s:={s with heap:=h'}) d hl fr.fr i λh2 T l r e mv=>?_);have v:H T=none:=j.di.fresh r;have f:Fl X.prog X.w X.stack H s H a C (dL X.env.locals) {s with heap:=h2}:=by
  have N:∀b o,s.heap.get? b=O o->b≠a:=λb o q z=>by rw[z,m.new]at q;cases q
  have M:Mv (ox X.stack) a a h' h2:=by rw[fr.st];exact mv
  refine(rfl,j.bare,(λb o q n c x=>M.keep b o (m.keeps b o q) c (N b o q) (N b o q),λb o q n c x=>M.slot b o (m.keeps b o q) c (N b o q) (N b o q),λb o _ n _=>n,λb o q _=>?_,λ_ _ q=>q,λ_ _ _ q=>q,λ_ P q=>(#[],by rw[q];simp)),?_,h,m.new,T,e,v,g T l);.have(sl,Q):=M.any (m.keeps b o q) (N b o q) (N b o q);exact(_,Q)
  .exact j.di.keep λb u o e q=>M.keep b o q (λz=>by rw[F b z]at e;cases e) (λz=>by rw[z,h]at e;cases e) λz=>by rw[z,h]at e;cases e
 refine f.land F λS y=>?_;exact(a,C,H,rfl,y.out I fr.ex,q)
abbrev Li:List Value:=[.type "ValueError",.type "Exception",.type "BaseException",.type "object"]
def pB(K:Frag)(C:Addr):Prop:=excIn K C Li "ValueError.__new__"=J
def afF{P:Option Obj->Prop}(k:∀d c s,f d c s=J->P (O (.type "type",d,.cls c,s)))(q:excIn.match_6 (λ_=>Bool) o f (λ_=>a')):P o:=by
 cases o with|none=>exact(aL q).elim|some o=>have(ty,d,D,s):=o;cases ty with|type t=>
  by_cases h:t="type";.subst h;cases D with|cls c=>exact k _ _ _ q|_=>exact(aL q).elim
  .delta excIn.match_6 PySem.W.nsOkIn._sparseCasesOn_4 excIn._sparseCasesOn_6 at q;dsimp only at q;rw[dif_neg h]at q;exact(aL q).elim|_=>exact(aL q).elim
def afE{P:List Value->List (Option Value)->Prop}(k:∀C m k0 k1 k2 k3 n k5,f C m k0 k1 k2 k3 n k5=J->P (.ref C::m) [k0,k1,k2,k3,O (.builtin n),k5])(q:excIn.match_1 (λ_ _=>Bool) a b f (λ_ _=>a')):P a b:=by
 obtain _|⟨a,m⟩:=a;.exact(aL q).elim
 cases a with
 |ref C=>
  obtain _|⟨k0,b⟩:=b;.exact(aL q).elim
  obtain _|⟨k1,b⟩:=b;.exact(aL q).elim
  obtain _|⟨k2,b⟩:=b;.exact(aL q).elim
  obtain _|⟨k3,b⟩:=b;.exact(aL q).elim
  obtain _|⟨k4,b⟩:=b;.exact(aL q).elim
  obtain _|k4:=k4;.exact(aL q).elim
  cases k4 with|builtin n=>
   obtain _|⟨k5,b⟩:=b;.exact(aL q).elim
   obtain _|_:=b;.exact k _ _ _ _ _ _ _ _ q
   .exact(aL q).elim|_=>exact(aL q).elim
 |_=>exact(aL q).elim
inductive Of(h:Heap)(C:Addr):Prop|mk(bm N nm qn bs hdct sn sub ab col dd k0 k1 k2 k3 k5 mN):h.get? C=O (excClassObj nm qn C N bs bm hdct sn sub ab col dd k0 k1 k2 k3 k5 "ValueError.__new__")->h.Ns N mN->mN "__init__"=af->OwnTail h Li bm->Of h C
def Pg{K:Frag}(X:K.In h)(q:pB K C):Of h C:=by refine afF (P:=λo=>K.lookup C=o->Of h C) (λd c s q H=>?_) q rfl;have(N,bs,mro,e,Q,f,S,sub,g,a,D):=c;obtain⟨l⟩:=s;revert H;refine afE (P:=λm l=>K.lookup C=O (.type "type",d,.cls (N,bs,m,e,Q,f,S,sub,g,a,D),⟨l⟩)->Of h C) (λj m k p r u n v q H=>?_) q;simp only[aO,nZ,Bool.not_eq_true']at q;obtain⟨⟨⟨⟨⟨rfl,rfl⟩,A⟩,t⟩,b⟩,i⟩:=q;cases A;exact .mk _ _ _ _ _ _ _ _ _ _ _ _ _ _ _ _ _ (X _ _ H) (.of_isNs (PySem.W.isNs_of_in X b)) (PySem.W.nsMap_none_of_in X b i) (PySem.W.tail_of_in X t)
def Nm(E:XK)(C:Addr)(t:TE):TS:=λ_ σ H=>t σ H λ_ h=>E (.ref C) af h
def My(fr:Oh X)(o:jR X E)(c:X.calm)(g:Gl X x)(b:X.mg x=O (.ref C))(f:pB X.K C)(j:PE X e0 t)(k:autoParam (b4 e0=J) o0)(l:autoParam ((x==("__debug__":Str))=a') W1):PS X (.Raise (O (.Call (.Name x n) [e0] [] d)) af pos) (Nm E C t):=by intro p s σ H D I h;have(bm,N,nm,Q,bs,hdct,sn,sub,ab,col,dd,k0,k1,k2,k3,k5,mN,u,w,a,T):=Pg I.mod.T6 f;have hs:=c6 (es:=[]) (env:=X.env) k;refine wpAny_Raise_call_subT (C:=C) (nm:=nm) (q:=Q) (N:=N) (bs:=bs) (bm:=bm) (hdct:=hdct) (sn:=sn) (sub:=sub) (ab:=ab) (col:=col) (dd:=dd) (k0:=k0) (k1:=k1) (k2:=k2) (k3:=k3) (k5:=k5) PySem.F.excBase_ValueError (mN:=mN) (T.hasType (by ext)) (I.ok.hd c) (by rw[hs];rfl) a (nH I g b (rfl,?_) l);rw[hs];refine vL (Calls.spliced_cons (dC (j p s σ H _ I h) λv s2 y=>?_));have(y,z,i,r,q):=y;exact Calls.spliced_nil (rfl,by show 1<=sizeLine;decide,i.bk _ _ u,w.keeps i.bk,T.keeps i.bk,λA e m=>o.made fr i m q)
structure oG(P:cr)(w:cf)(K:Frag)(mg:db)(base:Heap)(k:Nat)(x:Str)(ps:ϐ)(sp:Sp):Prop where ex:∃(f:Addr)(fd:dV),iB P w K mg base (o8 P w) k f fd ps sp/\mg x=O (.ref f)/\keepIn K (.ref f)/\Binds K fd ps []
section
variable{P:cr}{w:cf}{K:Frag}{mg:db}{base:Heap}{x:Str}{st:Stmt}{ps N:ϐ}{k j:Nat}{sp Zd:Sp}
def Src.okX(S:Src K mg x st ps)(F:eD N ps (aT st))(len:∀vs H Q E,sp vs H Q E->vs.length=ps.length)(p:∀(f:Addr)(a:Value)(A:c9)(o:List Env)(s:be)(H:Hp)(vs:ϕ)(Q:VK)(E:XK),dR k (A.deeper (envOfC x (aT st) s.heap.objs.size f a))->sp vs H Q E->∃t,oH (qN (o8 P w) P w K mg base N x (aT st) f a A o s H E) (bZ st) t/\t {nx:=λ_ H'=>Q .non H',rt:=Q} (start N vs) H):oG P w K mg base (k+1) x ps sp:=by have(f,d,b,h,c):=S.ex;have(oc,e,kV,doc,m,n,a,ct,g,rfl,lk,C):=b.ex;exact(f,_,AA lk C F len λA o s H vs Q E r B=>p f a A o s H vs Q E r B,h,b.kp,c)
theorem oG.mono(D:oG P w K mg base j x ps sp)(h:j<=k):oG P w K mg base k x ps sp:=by have(f,d,F,r):=D.ex;exact(f,d,F.mono h,r)
theorem oG.imp(D:oG P w K mg base k x ps sp)(h:∀vs H Q E,Zd vs H Q E->sp vs H Q E):oG P w K mg base k x ps Zd:=by have(f,d,F,r):=D.ex;exact(f,d,F.imp h,r)
def yn:Oh (qN CX P w K mg base N x S f F A o s H E):=(rfl,rfl,rfl)
def yW:jR (qN (o8 P w) P w K mg base N x S f F A o s H E) E:=λ_ _ h=>h
end
def Ni(sp:Sp)(E:XK)(t:TA):TE:=λσ H Q=>t σ H λv h=>sp v h Q E
def yX(D:oG X.prog X.w X.K X.mg X.base k x ps sp)(r:dR k X.A)(a:dZ (o8 X.prog X.w) X E)(g:Gl X x)(b:PA X (e::es) t)(j:autoParam ((x==("__debug__":Str))=a') W1)(d:autoParam ((e::es).all b4=J) o0):PE X (.Call (.Name x p) (e::es) [] pos) (Ni sp E t):=by
 have(f,n,F,m,c,i):=D.ex;intro P s σ H Q I h;rw[aG,aO]at d;have q:=Q9 (p:=p) (pos:=pos) F r g m c i .nil a b j (c6 d.1) (gS d.2) P s σ H Q I;refine q ?_;have l:Nd sp [] E t=Ni sp E t:=by funext σ H Q;unfold Nd Ni;simp only[aI]
 rw[l];exact h
def Dy(h:env.frame=env'.frame):eL e env=eL e env':=by unfold eL PySem.frameOf;rw[h]
section
variable{M:Model}{A:c9}{E:dA}{s:be}{base:Heap}{env:Env}{outer:List Env}{L a C t T:Addr}{Q:Unit->be->Prop}
def abF(v:A.frames=O (env::outer))(w:s.heap.FunFrames base (env::outer))(k:env.frame=O L)(m:Ex s.heap a C T F)(d:F=dL L->Q () s)(h:∀h' c,s.heap.get? c=af->s.heap.objs.size<=c->Ex h' a C c (dL L)->Mv ((env::outer).filterMap (·.frame)) a T s.heap h'->Q () {s with heap:=h'}):bv M A (eL (.ref a) env) Q E s:=by
 by_cases n:F=dL L;.subst n;exact abE k m (d rfl)
 obtain⟨⟨t,p⟩,y,K,D,g,i,r⟩:=m;unfold eL;simp only[k];refine aj (bP p rfl (x:=.ref T) rfl ?_);rw[bI (show(aa8 T !=ab0)=J from by simp)];refine aj (bP g i r ?_);rw[bL (show ¬(F==dL L)=J from λz=>n (kB z))];refine aj (g7 g i (eG.mp r).1 ?_);have B:∀b,b≠T->(s.heap.update T (ad7 (·.setIfInBounds 3 ab0))).get? b=s.heap.get? b:=λb H=>b6 _ _ (bX H);have N:∀b o,s.heap.get? b=O o->(∀G,o.data≠.fields G)->b≠T:=λb o H P q=>by rw[q,g]at H;cases H;exact P D i
 refine um (s:={s with heap:=s.heap.update T (ad7 (·.setIfInBounds 3 ab0))}) v (w.of_keeps λb o H P=>(o,(B b (N b o H P)).trans H,rfl)) k ((B a (bX y)).trans p) λh' c j l I u=>?_;refine h h' c ?_ ?_ I (λb o e H f d=>u.keep b o ((B b d).trans e) H f f,λb o e H f d=>u.slot b o ((B b d).trans e) H f f)
 .by_cases q:c=T;.rw[q]at j;have z:=cS (ad7 (·.setIfInBounds 3 ab0)) g (gF (dB i _));rw[z]at j;cases j
  .exact(B c q).symm.trans j
 .have z:=s_ s.heap T (ad7 (·.setIfInBounds 3 ab0));exact aE (l8 z.symm) l
def Pn(e:Ex s.heap a C T F)(h:∀h' B,Ex h' a C T B->ad2 T s.heap h'->Q () {s with heap:=h'}):bv M A (setFlight (.ref a) fr) Q E s:=by obtain⟨⟨t,b⟩,c,o,g,d,H,i⟩:=e;have z:3<g.size:=(eG.mp i).1;unfold setFlight;refine aj (bP b rfl (x:=.ref T) rfl ?_);rw[bI (show(aa8 T !=ab0)=J from by simp)];refine g7 d H z (h _ (fr.elim .none λf=>dL f) ((t,(b6 _ _ c).trans b),c,_,_,cS _ d (gF (dB H _)),dB H _,by simp[z]) (fu ..))
def Q5(c:Ex s.heap a C T f)(h:∀h' B,Ex h' a C T B->ad2 T s.heap h'->E (.ref a) {s with heap:=h'}):bv M A (PySem.passOn b (.ref a) γ:Sem α) q E s:=by unfold PySem.passOn;have H:=c;obtain⟨⟨t,d⟩,_⟩:=H;refine aj (bP d rfl (x:=.ref T) rfl ?_);rw[bL (show ¬(aa8 T==ab0)=J from by simp)];exact aj (Pn c λh' B e S=>wpAny_throw (h h' B e S))
end
def Inv.toX{σ:tSt}(I:Inv X p σ H s):Inv {X with xe:=E} p σ H s:=((I.ok.mod,I.ok.kind,I.ok.glob,I.ok.blt,I.ok.above,I.ok.inj,I.ok.has,I.ok.Tu,I.ok.hd,I.ok.frames,I.ok.l0,I.ok.V8,I.ok.bs,I.ok.G3,I.ok.yT,I.ok.Ay,I.ok.mE,I.ok.NY),I.os,I.bare,I.base,I.loc,I.cell,I.free,I.jy,I.pin,I.di,I.len)
def Inv.ofX{σ:tSt}(I:Inv {X with xe:=E} p σ H s):Inv X p σ H s:=((I.ok.mod,I.ok.kind,I.ok.glob,I.ok.blt,I.ok.above,I.ok.inj,I.ok.has,I.ok.Tu,I.ok.hd,I.ok.frames,I.ok.l0,I.ok.V8,I.ok.bs,I.ok.G3,I.ok.yT,I.ok.Ay,I.ok.mE,I.ok.NY),I.os,I.bare,I.base,I.loc,I.cell,I.free,I.jy,I.pin,I.di,I.len)
def dh(X:Cx)(N:ϐ)(S:Scope)(fp:List Addr)(a:be)(h:Hp)(E1:XK):Cx:={fi X N S fp a h with xe:=λe b=>∃p σ H s,Inv (fi X N S fp a h) p σ H s/\o8 X.prog X.w X.stack H s E1 e b}
def Ci:dZ (o8 X.prog X.w) (dh X N S fp a b E1) E1:=λp σ H s e c I h=>(p,σ,H,s,I.ofX,h)
def wC{Ee:dA}(I:Nat->be->Prop)(B:∀e s',Ee e s'->notedBy (ce prog w) A env (λe s'=>R (.error e) s') e s')(l:∀n s,I n s->bv (ce prog w) A (pyNext z) (λr a=>r=af/\R (.ok .next) a\/∃v,r=O v/\bv (ce prog w) A (letOwnedTupleGo T z v) (λ_ d=>bv (ce prog w) A (assign T env v) (λ_ f=>bv (ce prog w) A (forIn k J λc r=>if r=J then(do let ok<-isTrue c env (eval c env);pure (ad9 ok))else pure (ad9 r)) (λok b=>if ok=J then bv (ce prog w) A (eval E env) (λx g=>bv (ce prog w) A (call (.builtin "list.append") [acc,x]) (λ_ i=>∃m,m<n/\I m i) Ee g) Ee b else ∃m,m<n/\I m b) Ee f) Ee d) Ee a) Ee s)(n:Nat)(h:I n s):codeAny (ce prog w) A (.compLoop (.ListComp E [(T,iter,k,0)] S pos) 0 z acc env) R s:=by
 have no:∀{α:Type}{t:Sem α}{Q:α->be->Prop}{s:be},bv (ce prog w) A t Q Ee s->bv (ce prog w) A t Q (notedBy (ce prog w) A env λe s'=>R (.error e) s') s:=λh=>fe h (λ_ _ q=>q) B;refine codeAny_loop rfl I (λn s C=>?_) n h;show bv _ A ((compTurn (.ListComp E [(T,iter,k,0)] S pos) 0 z acc env).onRaise λx=>do eL x env;theTreesLotGoes x) _ _ s;refine wpAny_noted ?_;rw[compTurn_list];refine aj (U6 (aj (no (dC (l n s C) λr a H=>?_))));rcases H with ⟨rfl,H⟩|⟨v,rfl,H⟩;.exact aJ H
 .refine aj (no (dC H λ_ d o=>aj (no (dC o λ_ f p=>aj (no (dC p λok b j=>?_))))));cases ok with|false=>exact aJ (rfl,j)|true=>exact aj (aj (no (dC j λx g u=>aj (no (dC u λ_ i y=>aJ (aJ (rfl,y)))))))
def By{X:Cx}(P:X.stack=X.env::X.outer)(f:X.env.frame=O X.env.locals)(ab:X.s₀.heap.objs.size<=X.env.locals):Un (ox X.outer) [] X.H₀ H' X.s₀.heap h↔Un (ox X.stack) [] X.H₀ H' X.s₀.heap h:=by
 have m:∀b o,X.s₀.heap.get? b=O o->(b∈ox X.stack↔b∈ox X.outer):=λb o e=>by
  have nb:b≠X.env.locals:=λz=>by have:=aU e;rw[z]at this;exact absurd this (Nat.not_lt.mpr ab)
  rw[P];unfold ox;rw[iz,f];simp only[aK];exact(λh=>h.resolve_left nb,.inr)
 constructor;.intro u;exact(λb o e n H x=>u.keep b o e n (λz=>H ((m b o e).mpr z)) x,λb o e n H x=>u.slot b o e n ((m b o e).mp H) x,u.free,u.there,u.rn,u.pS,u.rj)
 .intro u;exact(λb o e n H x=>u.keep b o e n (λz=>H ((m b o e).mp z)) x,λb o e n H x=>u.slot b o e n ((m b o e).mpr H) x,u.free,u.there,u.rn,u.pS,u.rj)
def jR.marked{σ:tSt}(fr:Oh X)(o:jR X E)(I:Inv X p σ H s)(h:Ex s.heap a C T l)(i:H a=af)(n:H T=af)(j:X.s₀.heap.get? a=af)(c:X.s₀.heap.get? T=af)(q:E (.ref C) af H):X.xe (.ref a) s:=by
 refine o _ _ ?_;have F:∀b∈ox X.stack,H b=none:=I.qk;have hl:=I.stack;have d:=I.ok.frames;rw[fr.st]at hl d;have u:=I.base;rw[fr.ex]at u;have g:Fl X.prog X.w X.stack X.H₀ X.s₀ H a C l s:=(I.os,I.bare,(By fr.st fr.fr I.ok.above).mp u,I.di,i,j,T,h,n,c);have out:∀s',Fl X.prog X.w X.stack X.H₀ X.s₀ H a C .none s'->o8 X.prog X.w X.outer X.H₀ X.s₀ E (.ref a) s':=λs' f=>by refine(a,C,H,rfl,(f.os,f.bare,(By fr.st fr.fr I.ok.above).mpr f.un,f.di,f.na,f.new,f.ex),q)
 unfold leaving;refine aj (abF d hl fr.fr h (λ_=>g.land F λs' f=>out s' f) λk t x N e m=>?_);have G:H t=none:=I.di.fresh N;have r:X.s₀.heap.get? t=none:=by cases z:X.s₀.heap.get? t with|none=>rfl|some y=>exact absurd (bu (aU z) (aE I.sz N)) (cI _)
 have v:Fl X.prog X.w X.stack X.H₀ X.s₀ H a C (dL X.env.locals) {s with heap:=k}:=g.move F n c (by rw[fr.st];exact m) e G r;exact v.land F λs' f=>out s' f
def J_(n:Nat)(X:Cx)(e:Expr)(t:TE):Prop:=∀(p:cp)(s:be)(σ:tSt)(H:Hp)(Q:VK),Inv X p σ H s->n<=s.toks->t σ H Q->bv (ce X.prog X.w) X.A (eval e X.env) (EP X p σ Q) X.xe s
def Bu{R:α->be->Prop}{E:dA}(H:n<=s.toks)(h:bv M A t Q E s)(k:∀v s',n<=s'.toks->Q v s'->R v s'):bv M A t R E s:=wpAny_with_toks H (fe h (λv s' q t=>k v s' t q) λ_ _ e _=>e)
theorem PE.n(h:PE X e t)(n:Nat):J_ n X e t:=λp s σ H Q I _ q=>h p s σ H Q I q
def x9{R:dA}{σ:tSt}(S:eS X C a)(pW:X.calm)(hσ:∀σ:tSt,σ.length=X.N.length->mh X C a σ (G σ))(hi:PI X tg iter wi)(hg:∀fp l m,PG (dh X C a fp l m E1) tg g)(hc:∀fp l m,pE (dh X C a fp l m E1) B tc)(he:∀fp l m,J_ nt (dh X C a fp l m E1) E te)(hs:∀x,g5 iter X.env x=pure x)(fin:∀{fp:List Addr}{s3 s':be}{σ':tSt}{M H':Hp}{acc:Addr},Inv X P σ M s3->(∀b∈fp,mi X P M b)->Inv (dh X C a fp s3 M E1) [] σ' H' s'->Q (.ref acc) H'->compPost (ce X.prog X.w) X.A X.xe use R (.ref acc) s3.heap.objs.size (.ok .next) s')(bad:∀{fp:List Addr}{s3:be}{M:Hp}{acc:Addr},Inv X P σ M s3->(∀b∈fp,mi X P M b)->∀e s',(dh X C a fp s3 M E1).xe e s'->notedBy (ce X.prog X.w) X.A (compEnvC a (pK X.env.cells a.names []) s3.heap.objs.size X.env) (λe s'=>compPost (ce X.prog X.w) X.A X.xe use R (.ref acc) s3.heap.objs.size (.error e) s') e s')(I:Inv X P σ H s)(ht:nt<=s.toks)(h:vn wi g tc te G σ H Q):bv (ce X.prog X.w) X.A (comprehension (.ListComp E [(tg,iter,B,0)] a pos) a X.env p' (newList []) a' (eval iter X.env) use) R X.xe s:=by
 have mH:∀y∈a.names,y.2=.free->∃c,X.env.cells.lookup y.1=O c:=λy hy hk=>I.ok.has y.1 (.inl (S.fre y hy hk));have sub:=pL (cells:=X.env.cells) (names:=a.names) (acc:=[]) mH (λx c e=>by cases e);refine wpAny_comprehension_free (use:=use) rfl hs (Cd mH) S.kind S.loc (Bu ht (hi P s σ H _ I h) λv s1 t1 h1=>Bu t1 h1 λitv s2 t2 h2=>?_);have(it,fp,tn,j,Y,rfl,I2,T,st2,f2,h2):=h2;obtain⟨W,⟨m0,w0⟩,turn⟩:=h2 s2.heap.objs.size I2.fresh;have lt2:∀b∈fp,b<s2.heap.objs.size:=λb k=>by have(o,ho,_):=T.obj _ _ st2 b k;exact aU ho
 refine dO (wpAny_newFunctionEnv S.Ls (by intro y hy;simp at hy) (λh₁ CQ CY=>?_) S.kind);dsimp only at CQ CY⊢;have I3:Inv X P σ (dv Y s2.heap.objs.size (.lst [])) {s2 with heap:=s2.heap.push {cls:=.type "list",data:=.seq ([]:List Value).toArray}}:=I2.Xu (t':=s2.toks) (ys:=[]) .nil (bA _);generalize hs3:({s2 with heap:=s2.heap.push {cls:=.type "list",data:=.seq ([]:List Value).toArray}}:be)=s3 at I3;have e3:s2.heap.push {cls:=.type "list",data:=.seq ([]:List Value).toArray}=s3.heap:=by rw[<-hs3]
 have sz3:s3.heap.objs.size=s2.heap.objs.size+1:=by rw[<-e3,gZ]
 have ahR:∀b o,s2.heap.get? b=O o->s3.heap.get? b=O o:=λb o e=>by rw[<-e3];exact aA _ e
 have f3:∀b∈fp,mi X P (dv Y s2.heap.objs.size (.lst [])) b:=λb k=>by have(q1,q2):=f2 b k;exact(by rw[bJ (bG (lt2 b k))];exact q1,q2)
 have lt3:∀b∈fp,b<s3.heap.objs.size:=λb k=>by rw[sz3];exact BR (lt2 b k)
 rw[e3]at CQ CY⊢;have up1:∀b o,s3.heap.get? b=O o->h₁.get? b=O o:=λb o e=>CY.extBut b o (bG (aU e)) (aA _ e);have agi:h₁.Ns s3.heap.objs.size λ_=>af:=by have q:=CQ;simpa using q
 have I4:Inv (dh X C a fp s3 (dv Y s2.heap.objs.size (.lst [])) E1) [] (G σ) (dv Y s2.heap.objs.size (.lst [])) {s3 with heap:=h₁,toks:=s2.toks}:=(JX S I3 f3 lt3 (hσ σ I.len) agi up1).toX;have st4:tn 0 h₁:=T.keep _ _ _ st2 λb k o e=>up1 b o (ahR b o e);have Ψ:=λ{s' σ' H'}=>fin (s':=s') (σ':=σ') (H':=H') (acc:=s2.heap.objs.size) I3 f3;have hE:=bad (acc:=s2.heap.objs.size) I3 f3;generalize t:dh X C a fp s3 (dv Y s2.heap.objs.size (.lst [])) E1=f at I4 Ψ hE;have Z:f.prog=X.prog:=by rw[<-t];rfl
 have xw:f.w=X.w:=by rw[<-t];rfl
 have xK:f.K=X.K:=by rw[<-t];rfl
 have xA:f.A=X.A:=by rw[<-t];rfl
 have xc:f.calm=true:=by rw[<-t];exact pW
 have xe:f.env=compEnvC a (pK X.env.cells a.names []) s3.heap.objs.size X.env:=by rw[<-t];rfl
 have hg':PG f tg g:=by rw[<-t];exact hg _ _ _
 have Kv:pE f B tc:=by rw[<-t];exact hc _ _ _
 have he':J_ nt f E te:=by rw[<-t];exact he _ _ _
 have D:f.ex=fp:=by rw[<-t];rfl
 have fs0:f.fs=ox X.stack:=by rw[<-t];rfl
 have pn0:f.pn=[]:=by rw[<-t];rfl
 have s00:f.s₀=s3:=by rw[<-t];rfl
 have H00:f.H₀=dv Y s2.heap.objs.size (.lst []):=by rw[<-t];rfl
 have n_:=I4.ok;have Ei:∀{H':Hp},(∀b∈fp,H' b=af)->∀b∈fp,mi f [] H' b:=λ{H'}hn b k=>by have(_,q1,q2,q3,q4,q5):=f3 b k;refine(hn b k,(n_.V8 b (by rw[D];exact k)).1,n_.Ay b (by rw[D];exact k),.inl (by rw[D];exact k),(n_.V8 b (by rw[D];exact k)).2,λp hp=>?_);rw[pn0]at hp;exact absurd (show p∈([]:cp)from hp) (by simp)
 have L:codeAny (ce X.prog X.w) X.A (.compLoop (.ListComp E [(tg,iter,B,0)] a pos) 0 (.ref it) (.ref s2.heap.objs.size) (compEnvC a (pK X.env.cells a.names []) s3.heap.objs.size X.env)) (compPost (ce X.prog X.w) X.A X.xe use R (.ref s2.heap.objs.size) s3.heap.objs.size) {s3 with heap:=h₁,toks:=s2.toks}:=by
  refine wC (Ee:=f.xe) (λn s'=>nt<=s'.toks/\∃i σ' ys H',Inv f [] σ' H' s'/\tn i s'.heap/\(∀b∈fp,H' b=af)/\W i n σ' ys H') hE ?_ m0 (t2,0,_,[],_,I4,st4,λb k=>(f3 b k).1,w0);rintro n s5 ⟨t5,i,F,ys,H5,I5,p_,fr5,w5⟩;have(oU,hh):=turn i n F ys H5 w5;rcases hh with ⟨stop,q⟩|⟨go,N0,step⟩;.have d:=T.done f Z xw xK xc i [] s5 F H5 f.xe I5 (Ei fr5) p_ stop;rw[xA]at d;exact dC d λr s6 (hr,I6)=>.inl (hr,Ψ I6 q)
  .have d:=T.item f Z xw xK xc i [] s5 F H5 f.xe I5 (Ei fr5) p_ go;rw[xA]at d;refine Bu t5 d λr s6 t6 (u,hr,h6)=>.inr (u,hr,Bu t6 h6 λ_ s7 t7 x=>?_);have(x,H7,I7,r7,y7,U,fr7):=x;have I7':=I7.pinned (Ei fr7) (T.obj _ _ U);have a1:=hg' _ s7 F H7 x u _ I7' r7 (step x H7 y7);rw[Z,xw,xA,xe]at a1;refine Bu t7 a1 λ_ s8 t8 z=>?_;have(z,H8,I8,q8):=z;have a2:=Kv _ s8 z H8 _ I8 q8;rw[Z,xw,xA,xe]at a2;refine Bu t8 a2 λok s9 t9 (H9,I9,q9)=>?_;have back:∀{σz:tSt}{Hz:Hp}{sz:be},Inv f ([]++uV fp s7.heap) σz Hz sz->tn (i+1) sz.heap/\∀b∈fp,Hz b=none:=λ{σz Hz sz}Iz=>by refine(T.keep _ _ _ U λb k o e=>(Iz.pin (b,o) (ba _ (ba _ (jA k e)))).1,λb k=>?_);have(o,e,_):=T.obj _ _ U b k;exact(Iz.pin (b,o) (ba _ (ba _ (jA k e)))).2.1
   cases ok with|false=>have(m',hm,w'):=q9;rw[bL aL];exact(m',hm,t9,i+1,z,ys,H9,I9.kP,(back I9).1,(back I9).2,w')|true=>rw[bI rfl]at q9⊢;have a3:=he' _ s9 z H9 _ I9 t9 q9;rw[Z,xw,xA,xe]at a3;refine Bu t9 a3 λy sa ta yv=>?_;have(yv,Ha,Ia,ra,aam,m',hm,w'):=yv;have a4:=xg (X:=f) _ sa z Ha (.ref s2.heap.objs.size) [yv] (.ref s2.heap.objs.size) [y] (λv H'=>H'=dv Ha s2.heap.objs.size (.lst (ys++[yv]))) Ia rfl (.cons ra .nil) (_,ys,yv,rfl,rfl,aam,N0,rfl);rw[Z,xw,xA]at a4;refine Bu ta a4 λ_ sb tb Hb=>?_;have(_,Hb,Ib,_,eb):=Hb;subst eb;exact(m',hm,tb,i+1,z,ys++[yv],_,Ib.kP,(back Ib).1,(back Ib).2,w')
 have es:({s2 with heap:=h₁,toks:=s2.toks+([]:List (Str×Value)).length}:be)={s3 with heap:=h₁,toks:=s2.toks}:=by rw[<-hs3];rfl
 refine codeAny_compStart_list ?_ ?_;.exact es▸L
 .exact T.self _ 0 _ _ _ st4 (es▸L)
def Ae{σ:tSt}{σ':tSt}(i:Inv X p σ H s)(f:∀b∈fp,mi X p H b)(I:Inv (dh X c S fp s H E1) [] σ' H' s')(q:Q (.ref acc) H'):compPost (ce X.prog X.w) X.A X.xe af (EP X p σ Q) (.ref acc) s.heap.objs.size (.ok .next) s':=by
 have(m,a,_):=id I.loc;have a:s'.heap.Ns s.heap.objs.size m:=a;refine(m,a,λh' W=>(.ref acc,H',?_,rfl,q));have un:Un (ox X.stack) fp H H' s.heap s'.heap:=I.base;have N:∀b o,s.heap.get? b=O o->b≠s.heap.objs.size:=λb o e=>bG (aU e);have u:Un (ox X.stack) fp H H' s.heap h':=(λb o e n h x=>(W.2 b (N b o e)).trans (un.keep b o e n h x),λb o e n h x=>let (sl,z):=un.slot b o e n h x;(sl,(W.2 b (N b o e)).trans z),un.free,λb o e x=>let (d,z):=un.there b o e x;(d,(W.2 b (N b o e)).trans z),un.rn,un.pS,un.rj);have g:H' s.heap.objs.size=none:=I.free;have C:kS X.prog X.w H' s'.heap:=I.di;refine i.EY (s':={s' with heap:=h'}) (ch:=fp) ?_ u (sZ C g W) I.bare λb h=>?_;.exact I.os
 .have(_,j,t,k,l,r):=f b h;exact(k,j,l,r)
def Ic(fr:Oh X)(o:jR X E1)(S:eS X k c)(pW:X.calm)(Y:∀σ:tSt,σ.length=X.N.length->mh X k c σ (B σ))(hi:PI X tg iter wi)(hg:∀fp d i,PG (dh X k c fp d i E1) tg g)(hc:∀fp d i,pE (dh X k c fp d i E1) A tc)(he:∀fp d i,J_ nt (dh X k c fp d i E1) E te)(hs:∀x,g5 iter X.env x=pure x):J_ nt X (.ListComp E [(tg,iter,A,0)] c pos) (vn wi g tc te B):=by
 intro P s σ H Q I ht h;rw[eval_ListComp];refine x9 S pW Y hi hg hc he hs Ae (λ{fp j y acc}Z f3=>?_) I ht h;intro e s5 h5;have(A7,D,H5,s4,F,a,C,l,rfl,f,q):=h5;have G:Inv (fi X k c fp j y) A7 D l s5:=Fl.inv F f;have(T,e1,hT,NZ):=f.ex;have hl:s5.heap.FunFrames X.base X.stack:=G.stack;have fm:∀b∈ox X.stack,l b=none:=λb p=>Fl.frF (X:=fi X k c fp j y) F f b p;have oV:=I.ok.frames;have P7:=fr.st;rw[P7]at hl oV;show bv _ _ (eL (.ref a) _) _ _ s5;rw[Dy (env:=compEnvC c (pK X.env.cells c.names []) j.heap.objs.size X.env) (env':=X.env) rfl];refine Ue oV hl fr.fr e1 λh6 T' n1 K e6 m6=>?_;have(g1,g2):=f.fresh n1 K;have f6:Fl X.prog X.w X.stack H5 s4 l a C (dL X.env.locals) {s5 with heap:=h6}:=f.move fm hT NZ (by rw[P7];exact m6) e6 g1 g2;have W:Inv (fi X k c fp j y) A7 D l {s5 with heap:=h6}:=Fl.inv F f6;have r:(fi X k c fp j y).env.locals=j.heap.objs.size:=rfl;have(m,hm,_):=id W.loc;rw[r]at hm;refine(m,hm,λh7 u γ aiN=>?_);have aC:a≠j.heap.objs.size:=λz=>by obtain⟨m4,⟨o4,es4,ep4,L,_⟩,_⟩:=id F.loc;rw[r]at L;have nw:=f.new;rw[z,L]at nw;cases nw
 have M:j.heap.objs.size<=s5.heap.objs.size:=G.sz;have tC:T'≠j.heap.objs.size:=λz=>by have h1:=G.lt;rw[r]at h1;rw[z]at K;exact absurd h1 (Nat.not_lt.mpr K)
 have e7:Ex h7 a C T' (dL X.env.locals):=by obtain⟨⟨t,ha⟩,CP,oT,ts,c_,hd,h3⟩:=e6;exact((t,(u.2 a aC).trans ha),CP,oT,ts,(u.2 T' tC).trans c_,hd,h3)
 refine Q5 (s:={s5 with heap:=h7}) e7 λh8 fl8 e8 R=>?_;have N4:∀b o,j.heap.get? b=O o->b≠j.heap.objs.size:=λb o e=>bG (aU e);have neT:∀b o,j.heap.get? b=O o->b≠T':=λb o e=>bG (bu (aU e) (aE M K));have MV:∀b o,j.heap.get? b=O o->h8.get? b=h6.get? b:=λb o e=>(R.2 b (neT b o e)).trans (u.2 b (N4 b o e));have un:Un (ox X.stack) fp y l j.heap h6:=W.base;have un8:Un (ox X.stack) fp y l j.heap h8:=(λb o e n p U=>(MV b o e).trans (un.keep b o e n p U),λb o e n p U=>let (sl,z):=un.slot b o e n p U;(sl,(MV b o e).trans z),un.free,λb o e U=>let (o',z):=un.there b o e U;(o',(MV b o e).trans z),un.rn,un.pS,un.rj);have hC':l j.heap.objs.size=none:=by have z:=W.free;rw[r]at z;exact z
 have agl:kS X.prog X.w l h6:=W.di;have J8:Inv X P σ l {s5 with heap:=h8}:=by refine Z.EY (s':={s5 with heap:=h8}) (ch:=fp) G.os un8 (sZ (sZ agl hC' u) g1 R) G.bare λb p=>?_;have(_,q1,q2,v,q4,q5):=f3 b p;exact(v,q1,q4,q5)
 refine o.marked fr J8 e8 f.na g1 ?_ ?_ q;.cases z:X.s₀.heap.get? a with
  |none=>rfl|some ob=>have(o',z'):=Z.base.there a ob z (by rw[fr.ex];simp);have(o'',z''):=F.base.there a o' z' (λp=>by
    have(_,q1,q2,v,q4,q5):=f3 a p;rcases v with v|v;.rw[fr.ex]at v;simp at v
    .exact absurd (aU z) (Nat.not_lt.mpr v));have nw:=f.new;rw[z'']at nw;cases nw
 .cases z:X.s₀.heap.get? T' with|none=>rfl|some ob=>exact absurd (bu (aU z) (aE Z.sz (aE M K))) (cI _)
def uU(fr:Oh X)(o:jR X E1)(S:eS X c e)(P:X.calm)(f:∀σ:tSt,σ.length=X.N.length->mh X c e σ (d σ))(j:PI X tg iter w)(k:∀fp a b,PG (dh X c e fp a b E1) tg g)(l:∀fp a b,pE (dh X c e fp a b E1) i t)(m:∀fp a b,PE (dh X c e fp a b E1) E T)(q:autoParam (∀x,g5 iter X.env x=pure x) hD):PE X (.ListComp E [(tg,iter,i,0)] e pos) (vn w g t T d):=λp s σ H Q I h=>Ic fr o S P f j k l (λfp a b=>(m fp a b).n 0) q p s σ H Q I (bA _) h
def Cx.Ok.pnx{X:Cx}(ok:X.Ok)(pl:cp)(E:dA):Cx.Ok {X with pn:=pl,xe:=E}:=(ok.mod,ok.kind,ok.glob,ok.blt,ok.above,ok.inj,ok.has,ok.Tu,ok.hd,ok.frames,ok.l0,ok.V8,ok.bs,ok.G3,ok.yT,ok.Ay,ok.mE,ok.NY)
noncomputable abbrev Cx.tr(X:Cx)(pn:cp)(E1:XK):Cx:={X with pn:=pn,xe:=λe S=>∃σ H s,Inv {X with pn:=pn} [] σ H s/\o8 X.prog X.w X.stack H s E1 e S}
def SA{X:Cx}:dZ (o8 X.prog X.w) (X.tr P E1) E1:=by intro a σ H s e S I h;refine(σ,H,s,?_,h);have j:Inv (X.tr P E1) [] σ H s:=I.yY λp b=>absurd b (by simp);exact(j.ok.pnx P X.xe,j.os,j.bare,j.base,j.loc,j.cell,j.free,j.jy,j.pin,j.di,j.len)
section
variable{X:Cx}{bb pn:cp}{σ:tSt}{H H':Hp}{s s':be}{a C:Addr}
def Inv.ahM(I:Inv X bb σ H s)(E:dA):Inv {X with pn:=X.pn++bb,xe:=E} [] σ H s:=(I.ok.pnx _ _,I.os,I.bare,I.base,I.loc,I.cell,I.free,I.jy,λp h=>I.pin p (by simpa using h),I.di,I.len)
def Inv.HQ(ok:X.Ok)(I:Inv {X with pn:=X.pn++bb,xe:=E} [] σ H s):Inv X bb σ H s:=(ok,I.os,I.bare,I.base,I.loc,I.cell,I.free,I.jy,λp h=>I.pin p (by simpa using h),I.di,I.len)
end
structure qG(K:Frag)(C:Addr)(x d1:Str)(st:Stmt)(ps:ϐ):Prop where ex:∃(f:Addr)(fd:dV),IT K x d1 st f fd/\Oj K C x f/\Binds K fd ps []
structure qF(K:Frag)(C:Addr)(d1:Str)(st:Stmt)(ps:ϐ):Prop where ex:∃(f:Addr)(fd:dV),IT K "__init__" d1 st f fd/\Mk K C f/\Binds K fd ps []
structure vS(P:cr)(w:cf)(K:Frag)(mg:db)(base:Heap)(CX:wG)(k:Nat)(C:Addr)(x:Str)(ps:ϐ)(sp:Sp):Prop where ex:∃(f:Addr)(fd:dV),iB P w K mg base CX k f fd ps sp/\Oj K C x f/\Binds K fd ps []
structure sv(P:cr)(w:cf)(K:Frag)(mg:db)(base:Heap)(k:Nat)(x:Str)(C:Addr)(ps:ϐ)(sp:Sp):Prop where ex:∃(f:Addr)(fd:dV),iB P w K mg base GW k f fd ps sp/\Mk K C f/\Binds K fd ps []/\mg x=O (.ref C)
section
variable{P:cr}{w:cf}{K:Frag}{mg:db}{base:Heap}{x d1:Str}{st:Stmt}{ps N:ϐ}{k j:Nat}{sp Zd:Sp}{C:Addr}{CX:wG}
def qG.okX(S:qG K C x d1 st ps)(F:eD N ps (aT st))(len:∀vs H Q E,sp vs H Q E->vs.length=ps.length)(p:∀(f:Addr)(a:Value)(A:c9)(o:List Env)(s:be)(H:Hp)(vs:ϕ)(Q:VK)(E:XK),dR k (A.deeper (envOfC d1 (aT st) s.heap.objs.size f a))->sp vs H Q E->∃t,oH (qN (o8 P w) P w K mg base N d1 (aT st) f a A o s H E) (bZ st) t/\t {nx:=λ_ H'=>Q .non H',rt:=Q} (start N vs) H):vS P w K mg base (o8 P w) (k+1) C x ps sp:=by have(f,e,b,h,c):=S.ex;have(oc,g,kV,doc,m,n,a,ct,i,rfl,lk,d):=b.ex;exact(f,_,AA lk d F len λA o s H vs Q E r B=>p f a A o s H vs Q E r B,h,c)
theorem qF.ok(S:qF K C d1 st ps)(h:mg x=O (.ref C))(F:eD N ps (aT st))(len:∀vs H Q E,sp vs H Q E->vs.length=ps.length)(p:∀(f:Addr)(a:Value)(A:c9)(o:List Env)(s:be)(H:Hp)(vs:ϕ)(Q:VK)(E:XK),dR k (A.deeper (envOfC d1 (aT st) s.heap.objs.size f a))->sp vs H Q E->∃t,oH (qN GW P w K mg base N d1 (aT st) f a A o s H E).XG (bZ st) t/\t {nx:=λ_ H'=>Q .non H',rt:=Q} (start N vs) H):sv P w K mg base (k+1) x C ps sp:=by have(f,d,b,m,c):=S.ex;exact(f,d,b.ok F len (p f),m,c,h)
theorem vS.mono(D:vS P w K mg base CX j C x ps sp)(h:j<=k):vS P w K mg base CX k C x ps sp:=by have(f,d,F,r):=D.ex;exact(f,d,F.mono h,r)
theorem sv.mono(D:sv P w K mg base j x C ps sp)(h:j<=k):sv P w K mg base k x C ps sp:=by have(f,d,F,r):=D.ex;exact(f,d,F.mono h,r)
end
section
variable{X:Cx}{k:Nat}{C:Addr}{ps:ϐ}{sp:Sp}{CX:wG}{E:XK}{m x:Str}{p pos ci:Pos}{e o:Expr}{es:List Expr}{ta:TE}{t:TA}
def Ih{pl:Sem Bool}(D:vS X.prog X.w X.K X.mg X.base CX k C m ps sp)(h:PE X o ta)(c:EC X.K C)(H:dR k X.A)(a:dZ CX X E)(b:autoParam (eval (.Call (.Attribute o m ci) [] [] pos) X.env=do
   let v<-eval o X.env
   standAt ci.atName let(f,first)<-fy [v] (getMethod v m pl)callWith pos f first (en pos (dt [] X.env)) (backToKw pos (g_ [] X.env))) o0):PE X (.Call (.Attribute o m ci) [] [] pos) (Nj C m sp [] E ta Eo):=by have(f,i,F,d,g):=D.ex;exact L7 (pl:=pl) h c d F H g .nil a b
def A4(D:sv X.prog X.w X.K X.mg X.base k x C ps sp)(h:dR (k+1) X.A)(H:Gl X x)(a:PA X (e::es) t)(j:autoParam ((x==("__debug__":Str))=a') W1)(d:autoParam ((e::es).all b4=J) o0):PE X (.Call (.Name x p) (e::es) [] pos) (GG C sp [] E0 t):=by have(f,g,F,M,b,c):=D.ex;rw[aG,aO]at d;exact Rf M F h H c b .nil Up a j (c6 d.1) (gS d.2)
end
def wg(e:Int×Value):Str:=strOf e.2
def n8(P:cr)(w:cf)(h:Heap)(a:Addr)(ws:ϐ):Prop:=∃(o:Obj)(e:Array (Int×Value))(E:Nat)(t:SetTable),h.get? a=O o/\o.ExactSet/\o.data=.set e E t/\ElemsOf (ac3 P w) e.toList/\(e.toList.map wg).Perm ws/\ws.Nodup/\e.size<scanBound/\t.fits e.size=J/\(w.params.followText "set-order"=a'->t.led=J/\(e.size≠0->t.plain=a'))
noncomputable def lD(ws:ϐ)(x:Str):ϐ:=if x∈ws then ws else ws++[x]
def IG(t:SetTable)(n:Nat):(t.orStandIn n).led=t.led:=by unfold SetTable.orStandIn;split<;>rfl
def Df(t:SetTable)(es:Array (Int×Value))(h:Int)(x:Value):(layNew t es h x).2.1.led=t.led:=by
 unfold layNew;split;.dsimp only;rw[IG];rfl
 .rfl
def D3{t:SetTable}{os:Array Nat}(h:t.relaid H n=O (t',os)):t'.led=t.led/\t'.plain=t.plain:=by unfold SetTable.relaid SetTable.laid at h;cases c:SetTable.layClean (SetTable.sizeAbove n-1) H with|none=>rw[c]at h;cases h|some o=>rw[c]at h;cases h;exact(rfl,rfl)
def IB(t:SetTable)(es:Array (Int×Value))(n:Nat):(relayAll t es n).2.1.led=t.led/\(t.plain=a'->(relayAll t es n).2.1.plain=a'):=by
 unfold relayAll;split
 .rename_i T os e;have:=D3 e;dsimp only;split;.exact(this.1,λh=>this.2.trans h)
  .exact(rfl,λ_=>rfl)
 .exact(rfl,λ_=>rfl)
def Xk(I:ElemsOf (ac3 P w) es)(h:e∈es):∃t,e.2=.str (wg e) t:=by obtain⟨⟨k,H,_⟩,_⟩:=I e h;have(t,a):=xF H;exact(t,by unfold wg;rw[a];rfl)
def w6(I:ElemsOf (ac3 P w) es)(x:Str):(∃e∈es,(ac3 P w).is x e.2=J)↔x∈es.map wg:=by
 constructor;.rintro⟨e,H,p⟩;have(t,a):=xF p;refine a0.mpr (e,H,?_);unfold wg;rw[a];rfl
 .intro h;have(e,H,rfl):=a0.mp h;have(t,a):=Xk I H;exact(e,H,by rw[a];exact kC P w _ t)
section
variable{P:cr}{w:cf}{A:c9}{E:dA}{s:be}
def stored(b:s.heap.get? a=O o)(hex:o.ExactSet)(h:o.data=.set es e t)(I:ElemsOf (ac3 P w) l.toList)(p:(l.toList.map wg).Perm ws)(n:ws.Nodup)(c:l.size<scanBound)(f:T.fits l.size)(d:w.params.followText "set-order"=a'->T.led/\(l.size≠0->T.plain=a')):(s.heap.update a (af5 l T)).get? a=O {o with data:=.set l (e+1) T}/\n8 P w (s.heap.update a (af5 l T)) a ws:=by
 have H:(s.heap.update a (af5 l T)).get? a=O {o with data:=.set l (e+1) T}:=by have q:=cS (af5 l T) b (by rw[putSet_of l T h];rfl);rw[putSet_of l T h]at q;exact q
 exact(H,_,l,e+1,T,H,hex,rfl,I,p,n,c,f,d)
def Jz(hS:n8 P w s.heap a ws)(ai1:ws.length+1<scanBound)(h:∀(b:Bool)(h':Heap),ad2 a s.heap h'->n8 P w h' a (lD ws x)->Q b {s with heap:=h'}):bv (ce P w) A (setAddHashed a (.str x k) ((ac3 P w).hash x)) Q E s:=by
 have(o,i,ep,t,n,hex,p,I,u,nd,hb,U,W):=hS;have Hw:=kC P w x k;have hlen:i.size=ws.length:=by rw[<-u.length_eq,ae,bU]
 unfold setAddHashed setAddHashedIn;refine eC (aj (wpAny_setState_of n p U ?_));dsimp only;rw[byScan_of (x:=.str x k) rfl hb I];simp only[↓reduceIte];unfold setAddByScan;refine aj (aj (jc (aj (wpAny_setScan_of Hw n p U I ?_))));cases hr:List.findIdx? (λe=>(ac3 P w).is x e.2) i.toList with|some j=>dsimp only;have(hj,X,_):=List.findIdx?_eq_some_iff_getElem.mp hr;have m:x∈ws:=u.mem_iff.mp ((w6 I x).mp (_,hU hj,X));refine aJ (aJ ?_);have q:=h a' s.heap (Heap.SameBut.refl a s.heap) (o,i,ep,t,n,hex,p,I,by unfold lD;rw[bI m];exact u,by unfold lD;rw[bI m];exact nd,hb,U,W);exact q|none=>
  dsimp only;have m:x∉ws:=λm=>by have(e,he,hp):=(w6 I x).mpr (u.mem_iff.mpr m);have:=List.findIdx?_eq_none_iff.mp hr e he;rw[hp]at this;cases this
  have ei:lD ws x=ws++[x]:=by unfold lD;rw[bL m]
  rw[ei]at h;have N:(ws++[x]).Nodup:=de.mpr (nd,by simp,λy hy z hz=>by rw[aV]at hz;subst hz;exact λe=>m (e▸hy));have H:=layNew_perm t i ((ac3 P w).hash x) (.str x k);have d:=layNew_fits t i ((ac3 P w).hash x) (.str x k);have M:=Df t i ((ac3 P w).hash x) (.str x k);generalize layNew t i ((ac3 P w).hash x) (.str x k)=L at H d M⊢;have(l,t1,NJ,ak9):=L;dsimp only at H d M⊢;rw[Array.toList_push]at H;have v:ElemsOf (ac3 P w) l.toList:=(I.push Hw rfl).perm H;have Y:(l.toList.map wg).Perm (ws++[x]):=(H.map wg).trans (by rw[aq];exact u.append (List.Perm.refl _));have al0:l.size=ws.length+1:=by rw[<-bU,<-ae (f:=wg),Y.length_eq,aa];rfl
  have B:l.size<scanBound:=by lia
  have gw:∀(b:Bool){s₁:be}{Z:Unit->be->Prop},Z () s₁->bv (ce P w) A (match b with|true=>rule "set.scan.the-table-gave-way"|false=>pure ()) Z E s₁:=λb s₁ Z hq=>by
   cases b;.exact aJ hq
   .exact jc hq
  refine aj (gw _ ?_);have tail:∀T:SetTable,T.fits l.size=J->T.led=t.led->T.plain=a'->bv (ce P w) A (do storeSet a l T if(!NJ&&T.tooFull)=J then do(match(relayAll T l (ad8 l.size)).2.2 with|true=>rule "set.scan.the-table-gave-way"|false=>pure ())storeSet a (relayAll T l (ad8 l.size)).1 (relayAll T l (ad8 l.size)).2.1pure (O J)else pure (O J)) (λr S=>∃h',r=O J/\S={s with heap:=h'}/\ad2 a s.heap h'/\n8 P w h' a (ws++[x])) E s:=by
   intro T hf2 C D;refine aj (wpAny_storeSet_of n p ?_ (fits_of_scanBound B));have(F,hS1):=stored (P:=P) (w:=w) n hex p v Y N B hf2 λz=>(C.trans (W z).1,λ_=>D);have Y5:=fu s.heap a (af5 l T);split
   .have c:=relayAll_perm T l (ad8 l.size);have oV:=relayAll_fits T l (ad8 l.size);have g:=IB T l (ad8 l.size);generalize relayAll T l (ad8 l.size)=R at c oV g⊢;have(G,t3,aiA):=R;dsimp only at c oV g⊢;have N0:G.size=l.size:=by rw[<-bU,c.length_eq,bU]
    have K:G.size<scanBound:=by lia
    refine aj (gw _ ?_);refine aj (wpAny_storeSet_of F rfl ?_ (fits_of_scanBound K));have(_,hS2):=stored (P:=P) (w:=w) (s:={s with heap:=s.heap.update a (af5 l T)}) F hex rfl (v.perm c) ((c.map wg).trans Y) N K oV λz=>(g.1.trans (C.trans (W z).1),λ_=>g.2 D);exact aJ (_,rfl,rfl,Y5.trans (fu _ a _),hS2)
   .exact aJ (_,rfl,rfl,Y5,hS1)
  have fin:∀(r:Option Bool)(S:be),(∃h',r=O J/\S={s with heap:=h'}/\ad2 a s.heap h'/\n8 P w h' a (ws++[x]))->∃h',r=O J/\S={s with heap:=h'}/\Q J {s with heap:=h'}:=λr S (h',e1,e2,e3,e4)=>(h',e1,e2,h J h' e3 e4);split;.refine aj ?_;rw[hashByValue_scannable 8 (x:=.str x k) rfl];refine aJ (fe (tail {t1 with plain:=a'} (SetTable.fits_plain_off d) M rfl) (λr S z=>?_) λ_ _ e=>e);have(h',rfl,rfl,q):=fin r S z;exact aJ q
  .rename_i d7;refine aj (aJ ?_);refine fe (tail t1 d M (a8.mpr d7)) (λr S z=>?_) λ_ _ e=>e;have(h',rfl,rfl,q):=fin r S z;exact aJ q
end
def dE(l:ϐ):ϐ:=l.foldl lD []
def CH(l:ϐ)(x:Str):dE (l++[x])=lD (dE l) x:=by unfold dE;rw[List.foldl_append];rfl
def C4(h:ws.Nodup)(x:Str):(lD ws x).Nodup:=by
 unfold lD;split;.exact h
 .rename_i a;exact de.mpr (h,by simp,λy b z H=>by rw[aV]at H;subst H;exact λe=>a (e▸b))
def KC:y∈lD ws x↔y∈ws\/y=x:=by
 unfold lD;split;.rename_i H;exact(.inl,λh=>h.elim id λe=>e▸H)
 .rw[bf,aV]
def rH(l:ϐ):(dE l).Nodup/\∀y,y∈dE l↔y∈l:=by
 suffices h:∀(l:ϐ)(ws:ϐ),ws.Nodup->(l.foldl lD ws).Nodup/\∀y,y∈l.foldl lD ws↔y∈ws\/y∈l by have(a,b):=h l [] fE;exact(a,λy=>(b y).trans (by simp))
 intro l;induction l with|nil=>intro ws h;exact(h,λy=>by simp)|cons x r i=>intro ws h;have(a,b):=i (lD ws x) (C4 h x);exact(a,λy=>(b y).trans (by rw[KC,aK,or_assoc]))
def n8.at(H:n8 P w h a ws)(k:∀o,h.get? a=O o->h'.get? a=O o):n8 P w h' a ws:=by have(o,e,E,t,b,r):=H;exact(o,e,E,t,k o b,r)
section
variable{P:cr}{w:cf}{A:c9}{E:dA}
def Ho{I S l:Addr}{its:Array Value}{xs:ϐ}(W:Walks P w A.in1 I [I,l] [I] its.size (λi v=>its[i]?=O v) λi h=>h.IsListIter I l i/\h.IsList l its)(H:S≠I)(f:S≠l)(D:∀(i:Nat)(v:Value),its[i]?=O v->∃x t,xs[i]?=O x/\v=.str x t)(F:xs.length=its.size)(G:∀i,(dE (xs.take i)).length+1<scanBound):∀(k i:Nat)(s:be),its.size-i=k->i<=its.size->s.heap.IsListIter I l i/\s.heap.IsList l its->n8 P w s.heap S (dE (xs.take i))->(∀(h':Heap)(T:Nat),(∀b o,b≠S->b≠I->s.heap.get? b=O o->h'.get? b=O o)->n8 P w h' S (dE xs)->R (.ok (.ret .none)) {s with heap:=h',toks:=T})->codeAny (ce P w) A (.builtin "set.update.loop" ([.ref S,.ref I],[])) R s:=by
 intro k;induction k with|zero=>
  intro i s L M st j q;obtain rfl:i=its.size:=by lia
  refine iW ZN ?_;rw[gX qt _];show bv _ A.in1 (pyNext (.ref I)>>=_) _ _ s;refine aj (W.done s _ _ st λh' T K=>?_);show bv _ A.in1 (ret ab0) _ _ _;have e:dE (xs.take its.size)=dE xs:=by rw[<-F,cY]
  exact aJ (q h' T (λb o _ m g=>K b o (by simp[m]) g) (e▸j.at λo g=>K S o (by simp[H]) g))|succ k Q=>
  intro i s L M st j q;have N:i<its.size:=by lia
  refine iW ZN ?_;rw[gX qt _];show bv _ A.in1 (pyNext (.ref I)>>=_) _ _ s;refine aj (W.item i s _ _ N st λv h' T U X K=>?_);have(x,t,n,rfl):=D i v U;have p:n8 P w h' S (dE (xs.take i)):=j.at λo g=>K S o (by simp[H]) g;show bv _ A.in1 (fy [af7 x t] (setAdd S (.str x t))>>=_) _ _ _;refine aj (eC ?_);unfold setAdd;refine eC (aj ((ac3 P w).pyHash (k:=x) (kC _ _ _ _) ?_));refine Jz (s:={s with heap:=h',toks:=T+1}) p (G i) λb Y B r=>?_;have e:dE (xs.take (i+1))=lD (dE (xs.take i)) x:=by rw[List.take_add_one,n];exact CH _ _
  refine aJ (zD qt _,Q (i+1) _ (by lia) N (W.frame _ _ _ X λc C o g=>?_) (e▸r) λZ u y z=>?_)
  .rw[B.2 c (by
    simp only[aK,qw,or_false]at C;rcases C with rfl|rfl;.exact bX H
    .exact bX f)];exact g
  .refine q Z u (λc o a d g=>y c o a d ?_) z;show Y.get? c=O o;rw[B.2 c a];exact K c o (by simp[d]) g
def QO(a:Value){Q₁:dA}(h:Q₁ (.ref s.heap.objs.size) {s with heap:=s.heap.push {cls:=.type "set",dict:=af,data:=.set #[] 0 (.fresh 0 0 !w.params.followText "set-order")}}):codeAny (ce P w) A (.call (.builtin "set.__new__") ([.type "set",a],[])) (wants Q₁ E) s:=by refine codeAny_of_tree ?_;show bv _ A.in1 (do checkBuiltinCall "set.__new__" ([.type "set",a],[]);again (.builtin "set.__new__" ([.type "set",a],[]))) _ _ s;refine aj (wpAny_of_eq (F.newCall_set_1 a) (aJ (zD F.plain_set_new _,iW F.entry_set_new ?_)));rw[gX F.plain_set_new _];unfold Builtin.«set.__new__» Builtin.Frozenset.newClass;have L:=sub_set_self;have(H,g,d,t,os):=s;dsimp only;wp_walk;refine wpAny_askSetting (aJ ?_);dsimp only;simp only[newObj];refine aj (wpAny_alloc (aJ ?_));exact aJ h
end
section
variable{P:cr}{w:cf}{A:c9}{E:dA}{s:be}
def MZ{x:Value}{Q:dA}(D:bv (ce P w) A.in1.in1 (Builtin.«set.__init__» ([.ref s.heap.objs.size,x],[])) (λfin s'=>match fin with|.done f=>wants (λr S=>r=.none/\Q (.ref s.heap.objs.size) S) E (.ok f) s'|.again c'=>c'.quiet=J/\codeAny (ce P w) A.in1 c' (wants (λr S=>r=.none/\Q (.ref s.heap.objs.size) S) E) s') (λe s'=>wants (λr S=>r=.none/\Q (.ref s.heap.objs.size) S) E (.error e) s') {s with heap:=s.heap.push {cls:=.type "set",dict:=af,data:=.set #[] 0 (.fresh 0 0 !w.params.followText "set-order")}}):bv (ce P w) A (call (.type "set") [x]) Q E s:=by
 have t:=F.called_set;have(c,tl,b):=t.mro;have W:=t.made;have L:=t.sub;have h1:=t.notType;have h2:=t.canCreate;have H:=F.typeCall_set_1 x;refine wpAny_call (codeAny_of_tree (show bv _ _ (callAny (.type "set") _) _ _ _ from aJ (Code.quiet_builtin _ (by ext),iW F.entry_type_call ?_)));rw[Around.under_plain (weight_type_call_type "set" [x] []) rfl];repeat(any_goals(first|assumption|wp_step))
 refine md (QO (P:=P) (w:=w) x (E:=E) (Q₁:=λobj a=>obj=.ref s.heap.objs.size/\a={s with heap:=s.heap.push {cls:=.type "set",dict:=af,data:=.set #[] 0 (.fresh 0 0 !w.params.followText "set-order")}}) (rfl,rfl)) λr a h=>?_;match r,h with
 |.error e,h=>exact h|.ok (.ret obj),h=>
  have(rfl,rfl):=h;have T:Shared.TypeIs {s with heap:=s.heap.push {cls:=.type "set",dict:=af,data:=.set #[] 0 (.fresh 0 0 !w.params.followText "set-order")}} (.ref s.heap.objs.size) "set":=(_,a5 _ rfl,rfl);have i:=t.init.lookup;have d:=t.init.bind (.ref s.heap.objs.size);repeat(any_goals(first|assumption|wp_step))
  refine md (codeAny_call_builtin t.init.plain F.entry_set_init (check_set_init_1 T D)) λR S m=>?_;match R,m with|.error e,m=>exact m|.ok (.ret u),m=>have(rfl,q):=m;repeat(any_goals(first|assumption|wp_step))|.ok .next,m=>exact m.elim|.ok .brk,m=>exact m.elim|.ok .cont,m=>exact m.elim
 |.ok .next,h=>exact h.elim|.ok .brk,h=>exact h.elim|.ok .cont,h=>exact h.elim
def zf{Q:dA}(r:A.handled=af)(u:s.heap.IsList l its)(B:∀(i:Nat)(v:Value),its[i]?=O v->∃x t,xs[i]?=O x/\v=.str x t)(C:xs.length=its.size)(D:∀i,(dE (xs.take i)).length+1<scanBound)(h:∀(h':Heap)(T:Nat),n8 P w h' s.heap.objs.size (dE xs)->(∀b o,s.heap.get? b=O o->h'.get? b=O o)->Q (.ref s.heap.objs.size) {s with heap:=h',toks:=T}):bv (ce P w) A (call (.type "set") [.ref l]) Q E s:=by
 refine MZ ?_;generalize f:({cls:=.type "set",dict:=af,data:=.set #[] 0 (.fresh 0 0 !w.params.followText "set-order")}:Obj)=o;have K:(s.heap.push o).get? s.heap.objs.size=O o:=a5 _ (by rw[<-f];rfl);have j:n8 P w (s.heap.push o) s.heap.objs.size (dE (xs.take 0)):=by
  refine(o,#[],0,.fresh 0 0 !w.params.followText "set-order",K,by rw[<-f];exact(rfl,rfl,rfl),by rw[<-f],λe L=>by simp at L,?_,?_,by ext,by rfl,λz=>(?_,λy=>absurd rfl y));.exact List.Perm.refl _
  .exact fE
  .show(!w.params.followText "set-order")=J;rw[z];rfl
 have(M,d,H,nl,a):=u;have m:=aA o d;have p:(s.heap.push o).IsList l its:=(_,m,H,nl,a);have S:l<s.heap.objs.size:=aU d;have N:(s.heap.push o).objs.size=s.heap.objs.size+1:=size_push' _ _;have(oc,Y,R,Z):=M;simp only at H a;subst H;subst a;have e1:=F.sub_list_set;have e2:=F.sub_list_frozenset;have e3:(af4 "list"==af4 "dict")=false:=by ext
 have U:l≠(s.heap.push o).objs.size:=by rw[N];exact bG (BR S)
 have W:s.heap.objs.size≠(s.heap.push o).objs.size:=by rw[N];exact bG (fG _)
 subst f;unfold Builtin.«set.__init__» noKeywords Builtin.Frozenset.updateFrom;generalize I:pyIter=PI;wp_walk;subst I;refine o7 p ?_;refine aj (wpAny_runValue ?_);have k:A.in1.in1.in1.handled=none:=by simp[r]
 refine Ho (P:=P) (w:=w) (A:=A.in1.in1) (xs:=xs) (Walks.list k _ l U its) W (l9 S) B C D (its.size-0) 0 _ (by lia) (bA _) ((_,a5 _ rfl,rfl,rfl),p.push _) (j.at λq g=>aA _ g) λh' T X n=>?_;show bv _ _ _ _ _ _;refine aJ ?_;show bv _ _ (ret ab0) _ _ _;refine aJ (rfl,h h' T n λc q g=>?_);have G:=aU g;exact X c q (bG G) (by rw[N];exact bG (BR G)) (aA _ (aA _ g))
end
section
variable{P:cr}{w:cf}{A:c9}{E:dA}
end
section
variable{P:cr}{w:cf}{A:c9}{E:dA}{s:be}
end
theorem xr:∀{ws:ϐ}{us:List Value},Vals (ws.map V.str) us->StrsAre us ws|[],us,h=>by cases h;exact .nil|x::r,us,h=>by cases h with|cons a b=>have(t,rfl):=a;exact .cons x t (xr b)
theorem ur:∀(l ws:ϐ),ws.length<=(l.foldl lD ws).length
 |[],ws=>ay _|x::r,ws=>by
  refine aE ?_ (ur r (lD ws x));unfold lD;split;.exact ay _
  .rw[aa];exact cZ _ _
def CI(ws:ϐ)(i:Nat):(dE (ws.take i)).length<=(dE ws).length:=by
 have e:dE ws=(ws.drop i).foldl lD (dE (ws.take i)):=by unfold dE;rw[<-List.foldl_append,gE]
 rw[e];exact ur _ _
def tY(e:X.calm):dQ X (.type "set") λxs H Q=>∃(l:Addr)(ws:ϐ),xs=[.ref l]/\jd X.K H l (ws.map V.str)/\(dE ws).length<64/\∀a,H a=af->Q (.ref a) (dv H a (.ext λh=>n8 X.prog X.w h a (dE ws))):=by
 intro p s σ H xs U Q I r h;have(l,ws,rfl,f,g,q):=h;have(u,rfl,j):=r.one;cases j;have(c,R,P,D):=I.list f;have S:=xr R;have m:(64:Nat)<scanBound:=by ext
 have n:ws.length=c.toArray.size:=by rw[aP,<-R.length,ae]
 refine zf (xs:=ws) (I.ok.hd e) P.isList (λi v b=>?_) n λi=>by have:=CI ws i;lia λx T A y=>?_
 .rw[tR]at b;have d:i<ws.length:=by rw[n,aP];exact(ak.mp b).1
  have(t,B):=S.at (aN d);rw[B]at b;exact(_,t,aN d,by injection b with b;exact b.symm)
 .refine(.ref s.heap.objs.size,_,I.laid (t':=T) y (ay _) (show eg X.prog X.w _ x _ (.ext λh=>n8 X.prog X.w h s.heap.objs.size (dE ws))from(A,let (o,_,_,_,C,_):=A;(o,C),λE F z k=>z.at k)),rfl,q _ I.fresh)
end L2
namespace L2
open PySem.SeqAt
section
variable{X:Cx}{bb:cp}{σ:tSt}{H:Hp}{s:be}
end
end L2
namespace L2
def ahj(K:Frag)(a:Addr)(t:Str->Option ϐ):R2:=λx y H Q=>x=.ref a/\∃k s,y=.str k/\t k=O s/\∀b,fK K H b (s.map V.str)->Q (.ref b) H
def Xf(T:BX X.w X.K a c):ED X (ahj X.K a c):=by intro e slice p s σ H x y v u Q I r R h f;have(rfl,k,j,rfl,g,q):=h;cases r;have(t,rfl):=R;have(E,m,lk,d,look):=T.ex;have hm:=iV (prog:=X.prog) (w:=X.w) I.nF lk d;have lx:=look k;rw[g]at lx;have(b,F,o,i,M,l1,l2,l3,l4,l):=lx;exact fW hm.typeIs iq.lookup (qB (knd:=strKind X.prog X.w) (kC X.prog X.w k t) hm F (rfl,(.ref b,H,I.tok _,rfl,q b (.inr (o,i,M,l1,l2,l3,l4,l))))) f
end L2
namespace L2
open PySem.SeqAt PySem.MeetsSeq PySem.Builtin PySem.Builtin.Tuple
theorem vi:∀{ys:ϐ}{us:List Value},Vals (ys.map V.str) us->PyProof.Rows.StrsAre us ys|[],_,.nil=>.nil|y::ys,_,.cons r R=>by have(t,rfl):=r;exact .cons y t (vi R)
def QL:Ve X "str.join" (λx xs H Q=>∃(z:Str)(l:Addr)(ys:ϐ),x=.str z/\xs=[.ref l]/\H l=O (.lst (ys.map V.str))/\(ys.map (·.length)).sum+ys.length*z.length<=16777216/\Q (.str (ae2 z ys)) H):=by intro p s σ H x xs v U Q I R r h;have(z,l,ys,rfl,rfl,a,d,q):=h;have(t,rfl):=R;have(u,rfl,b):=r.one;cases b;have(i,c,P,_):=I.list (jd.of (K:=X.K) a);exact PyProof.Rows.join_list P.isList (vi c) d λT k=>(.str _,H,I.tok k,(_,rfl),q)
def x6:dQ X (.type "str") λxs H Q=>∃z,xs=[.str z]/\Q (.str z) H:=by intro p s σ H xs U Q I r h;have(z,rfl,q):=h;have(u,rfl,t,rfl):=o6 r;exact PySem.P.str_of_str (.str _,H,I,(_,rfl),q)
def xZ:dQ X (.type "str") λxs H Q=>(∃z,xs=[.str z]/\Q (.str z) H)\/∃i,xs=[.int i]/\i.natAbs.log2<1920/\Q (.str (toString i)) H:=by
 intro p s σ H xs u Q I r h;rcases h with h|h;.exact x6 p s σ H xs u Q I r h
 .exact x5 p s σ H xs u Q I r h
def tp(t T:TE):TE:=λσ H Q=>t σ H λx h=>∃z:Str,x=.str z/\z.length<=sizeLine/\if z.length=0 then T σ h Q else Q (.str z) h
def Yi(f:PE X a T)(g:PE X (.BoolOp .Or (b::r) pos) d):PE X (.BoolOp .Or (a::b::r) pos) (tp T d):=by
 intro p s σ H Q I h;have j:sizeLine=16777216:=vQ;refine BoolOp_or (dC (f p s σ H _ I h) λv s1 x=>?_);have(x,e,i,R,q):=x;have(z,rfl,k,q):=q;have(t,rfl):=R;refine PySem.P.truthy_str (by lia) ?_;by_cases c:z.length=0;.rw[bI c]at q;rw[show((z.length:Int)!=0)=a' by rw[c];rfl];exact g p _ σ e Q (i.tok _) q
 .rw[bL c]at q;rw[show((z.length:Int)!=0)=J by simp;exact c];exact(.str z,e,i.tok _,(_,rfl),q)
def vq(l:Addr)(x:Value):Builtin.«tuple.index» ([.ref l,x],[])=(do
  let xs<-tupleItemsOf (.ref l)for i in[0:min xs.size xs.size]do if let O y:=xs[i]? then if<-eqBool y x then return<-retInt i
  rule "tuple.index.not-found"raiseError"ValueError""tuple.index(x): x not in tuple"):=by unfold Builtin.«tuple.index»;rfl
def Bw(l:Addr)(bn:Array Value)(n:Nat)(dd:Option Addr)(sl:Array (Option Value))(x:Value)(e:Value->Bool)(f:∀y,y∈bn->MeetsSeq.EqGives y x (e y))(j:Nat)(v:j<bn.size)(t:e bn[j])(o:∀m(z:m<bn.size),m<j->e bn[m]=a'):Meets (Builtin.«tuple.index» ([.ref l,x],[])) λ_ R s=>s.heap.get? l=O {cls:=.type "tuple",dict:=dd,data:=.seq bn n,slots:=sl}/\R (.ok (.ret (.int j s.toks))) {s with toks:=s.toks+1}:=by
 intro p w A R s h;have(g,h):=h;rw[vq];refine aj (wpAny_tupleItemsOf g rfl ?_);refine aj ?_;rw[Std.Legacy.Range.forIn_eq_forIn_range'];refine wpAny_forIn_list _ (λr b S=>S=s/\b.1=af/\∃i,r=List.range' i (bn.size-i)/\i<=j) _ ?_ ?_ _ _ (rfl,rfl,0,by simp[Std.Legacy.Range.size],bA _)
 .rintro a r b S ⟨rfl,k,i,H,d⟩;have N:i<bn.size:=by lia
  rw[show bn.size-i=bn.size-(i+1)+1 by lia,List.range'_succ]at H;injection H with q u;subst q;rw[Array.getElem?_eq_getElem N];refine aj (f _ (Array.getElem_mem N) p w _ _ _ _ ?_);by_cases c:a=j;.subst c;rw[t];refine aj ?_;unfold retInt;wp_walk;exact h
  .rw[o a N (by lia)];exact aJ (rfl,rfl,a+1,u,by lia)
 .rintro b S ⟨rfl,k,i,H,d⟩;exfalso;have:=cy ad1 H;simp at this;lia
def ro(z:Str):Value->Bool|.str y _=>y==z|_=>a'
def HM:Ve X "tuple.index" λx xs H Q=>∃(l:Addr)(ys:ϐ)(z:Str)(j:Nat),x=.ref l/\xs=[.str z]/\fK X.K H l (ys.map V.str)/\ys[j]?=O z/\(∀m,m<j->ys[m]?≠O z)/\Q (.int (j:Nat)) H:=by
 intro P s σ H x xs v Z Q I L r h;have(l,ys,z,j,rfl,rfl,M,w,o,q):=h;cases L;have(u,rfl,t,rfl):=o6 r;have(i,R,N,_):=I.tuple M;obtain⟨⟨cls,S,data,sl⟩,B,C,n,D⟩:=N;simp only at C D;subst C D;have A:∀(ys:ϐ)(i:List Value),Vals (ys.map V.str) i->∀(m:Nat)(y:Value),i[m]?=O y->∃Y t',ys[m]?=O Y/\y=.str Y t':=by intro ys;induction ys with|nil=>intro i r m y d;cases r;simp at d|cons a as T=>intro i r m y d;cases r with|cons U W=>cases m with|zero=>have(t',e):=U;simp at d;exact(a,t',rfl,by rw[<-d];exact e)|succ m=>exact T _ W m y (by simpa using d)
 have(G,_):=ak.mp w;have b:i.length=ys.length:=by have:=R.length;simpa using this.symm
 refine iY U4 (_,B,rfl) PySem.F.entry_tuple_index (PySem.F.args_tuple_index_2 _ _) (Bw l i.toArray n S sl (.str z t) (ro z) (λy d=>?_) j (by simpa[b]using G) ?_ λm f g=>?_) (B,(.int _,H,I.tok _,(_,rfl),q));.have(m,f,rfl):=x4.mp (by simpa using d:y∈i);have(Y,t',_,e):=A ys i R m _ (aN f);rw[e];exact PyProof.Rows.eqGives_str Y z t' t
 .have(Y,t',E,k):=A ys i R j _ (aN (by rw[b];exact G));rw[w]at E;injection E with E;subst E;show ro z i[j]=J;rw[k];show(z==z)=J;exact fI z
 .have p:m<i.length:=by simpa using f
  have(Y,t',E,k):=A ys i R m _ (aN p);show ro z i[m]=a';rw[k];show(Y==z)=a';exact b3.mpr λc=>o m g (by rw[E,c])
end L2
namespace L2
def Uz(K:Frag):V->Option Int->Option Int->Hp->VK->Prop:=λx lo i H Q=>∃a X,x=.ref a/\fK K H a X/\∀p h,qE H h->fK K h p (mw X lo i)->Q (.ref p) h
def Gw:IV X (Uz X.K):=by
 intro P s σ H x v f g lo d sl Q I R e l u h;have(a,b,rfl,c,q):=h;by_cases w:HT.fR b.length 0 lo=0/\HT.fR b.length b.length d=b.length
 .cases R;have(i,r,t,z):=I.tuple c;have n:i.toArray.size=b.length:=by rw[aP];exact r.length.symm
  refine("tuple",_,cF.lookup,t.typeIs,?_);exact sD t e l u (by rw[n];exact w) (.ref a,H,I,rfl,q a H (qE.refl H) (by rw[Cm w];exact c))
 .exact Zc P s σ H (.ref a) v f g lo d sl Q I R e l u (a,b,rfl,c,w,λp j=>q p _ (rZ j _) (fK.of bQ))
def MC(K:Frag):R2:=λx y H Q=>∃a b X Y,x=.ref a/\y=.ref b/\fK K H a X/\fK K H b Y/\X.length+Y.length<=sizeLine/\∀p h,qE H h->fK K h p (X++Y)->Q (.ref p) h
def LS:jZ X (binaryOp .Add) (MC X.K):=by
 intro P s σ H x y v u Q I r R h;have(a,b,i,Y,rfl,rfl,f,g,z,q):=h;by_cases j:i=[];.cases r;cases R;subst j;have(m,t,w,_):=I.tuple f;have(U,F,A,_):=I.tuple g;obtain⟨⟨cls,B,data,sl⟩,o,k,n,l⟩:=id w;obtain⟨⟨C,D,data2,S⟩,W,c,N,d⟩:=id A;simp only at k l c d;subst k l c d;obtain rfl:=t.zero;exact B_ (_,o,rfl) (_,W,rfl) GR U5 si qz (pz _ _) (tuple_addW0 a b #[] U.toArray n N B D sl S rfl) (o,W,(.ref b,H,I.tok _,rfl,q b H (qE.refl H) g))
 .exact Q1 P s σ H (.ref a) (.ref b) v u Q I r R (a,b,i,Y,rfl,rfl,f,g,j,z,λe=>q a H (qE.refl H) (by rw[e,aI];exact f),λ_ p E=>q p _ (rZ E _) (fK.of bQ))
def R4:IV X λx lo c H Q=>∃z:Str,x=.str z/\z.length<=sizeLine/\Q (.str (ae9 z lo c)) H:=by intro p s σ H x v f g lo c sl Q I r a e P h;have(z,rfl,b,q):=h;have(t,rfl):=r;refine("str",_,F.slot_str_getitem.lookup,sj _ _ _,?_);cases e with
 |none=>cases P with|none=>exact jq (l:=af) (u:=af) (st:=af) a rfl (sS (aE (BS z af af) b,λT k=>(.str _,H,I.tok k,(T,rfl),q)))|int j u=>exact jq (l:=af) (u:=O (j,u)) (st:=af) a rfl (sS (aE (BS z af (O j)) b,λT k=>(.str _,H,I.tok k,(T,rfl),q)))
 |int i d=>cases P with|none=>exact jq (l:=O (i,d)) (u:=af) (st:=af) a rfl (sS (aE (BS z (O i) af) b,λT k=>(.str _,H,I.tok k,(T,rfl),q)))|int j u=>exact jq (l:=O (i,d)) (u:=O (j,u)) (st:=af) a rfl (sS (aE (BS z (O i) (O j)) b,λT k=>(.str _,H,I.tok k,(T,rfl),q)))
def HG:typeLookup (.type "list") "keys"=pure none:=by rw[typeLookup_type,builtinLookup_eq_fast];kernel_rfl
def uk:entryFor table "dict.update.loop"=O Builtin.«dict.update.loop»:=entryFor_of_tree (by kernel_rfl)
def AX{E:dA}(x:s.heap.get? a=O o)(f:o.cls=.type "list")(u:o.data=.seq xs k)(i:o.dict=af)(m:A.handled=af)(h:∀h' T,(∀b j,s.heap.get? b=O j->h'.get? b=O j)->Q af {s with heap:=h',toks:=T}):bv (ce prog w) A (getAttr? (.ref a) "keys") Q E s:=by
 have(c,D,fZ,sl):=o;simp only at f u i;subst f u i;have(p,g,d,T,os):=s;have l:∀t,((p,g,d,t,os):be).TypeIs (.ref a) "list":=λ_=>(_,x,rfl);have n:=sub_AttributeError;have q:=pj.lookup;have r:=pj.bind (.ref a);have v:=am_list_getattr_none;unfold getAttr? getAttrBy? getAttrBy;repeat(any_goals(first|assumption|exact l _|((with_reducible show bv _ _ (call (Value.builtin "list.__getattribute__") _ _) _ _ _);refine iY pj (l _) am_entry_list_getattribute (F.args_list_getattribute_2 _ _) (meets_getattribute_miss_list a xs k sl "keys" _ HG (by ext) (by size_fits)) (x,m,λh' t e H=>?_))|wp_step))
 have(y,U,z):=H.there;show bv _ _ (getattributeRaised _ _ _ _ _ _ _) _ _ _;unfold getattributeRaised;repeat(any_goals(first|assumption|wp_step))
 exact h _ _ H.keeps
def lH:plainId "dict.update.loop"=true:=by ext
def xH{P:cr}{w:cf}{κ:Type}[DecidableEq κ](knd:KeyKind P w κ)(h:Heap)(u:Value)(p:κ×Value):Prop:=∃t k,u=aa8 t/\h.IsTuple t #[k,p.2]/\knd.is p.1 k=J
section
variable{P:cr}{w:cf}{κ:Type}[DecidableEq κ]{knd:KeyKind P w κ}{A:c9}
def uv{h:Heap}(e:h.get? a=O o)(E:h.get? b=O o')(n:¬o.data=o'.data):a≠b:=λz=>by rw[z,E]at e;exact n (cy Obj.data (cJ e).symm)
section
variable{h:Heap}{d it l t:Addr}{its xs:Array Value}{bE:List (κ×Value)}{i:Nat}
def θ(H:h.IsListIter it l i)(a:h.DictOf knd d bE):d≠it:=by have(o,e,c,fZ):=H;have(b,s,p,E,C,D,_):=a;exact uv E e (by rw[D,fZ];exact λz=>ac2 z)
def WM(H:h.IsList l its)(a:h.DictOf knd d bE):d≠l:=by have(o,e,c,n,fZ):=H;have(b,s,p,E,C,D,_):=a;exact uv E e (by rw[D,fZ];exact λz=>ac2 z)
def t_d(H:h.IsTuple t xs)(a:h.DictOf knd d bE):t≠d:=by have(o,e,c,n,fZ):=H;have(b,s,p,E,C,D,_):=a;exact uv e E (by rw[D,fZ];exact λz=>ac2 z)
def Tk(a:h.IsList j xs)(H:h.IsListIter it l i):j≠it:=by have(o,e,c,n,fZ):=a;have(b,E,C,D):=H;exact uv e E (by rw[D,fZ];exact λz=>ac2 z)
def ahJ(x:h.IsTuple t xs)(H:h.IsListIter it l i):t≠it:=by have(o,e,c,n,fZ):=x;have(a,E,C,D):=H;exact uv e E (by rw[D,fZ];exact λz=>ac2 z)
end
theorem Dk{it l:Addr}{its:Array Value}{ps:List (κ×Value)}{R:Result->be->Prop}(Z:A.handled=af)(M:∀i:Nat,its[i]?=af↔ps[i]?=af)(hz:ps.length<=1000):∀(m i:Nat)(bE:List (κ×Value))(s:be),ps.length-i=m->s.heap.IsListIter it l i->s.heap.IsList l its->s.heap.DictOf knd d bE->bE.length<=i->(∀(j:Nat)(u:Value)(p:κ×Value),its[j]?=O u->ps[j]?=O p->xH knd s.heap u p)->(∀h' T,h'.DictOf knd d (merged bE (ps.drop i))->(∀b o,b≠d->b≠it->s.heap.get? b=O o->h'.get? b=O o)->R (.ok (.ret .none)) {s with heap:=h',toks:=T})->
   codeAny (ce P w) A (.builtin "dict.update.loop" ([.ref d,.ref it,dL i,.none],[])) R s:=by intro m;induction m with|zero=>
  intro i bE s hm h a hd hk q hR;refine iW uk ?_;rw[gX lH];unfold Builtin.«dict.update.loop»;have hn:ps[i]?=none:=by rw[oF];lia
  have hx:=(M i).mpr hn;have D:d≠it:=θ h hd;refine aj (tt Z h a hx λh' E=>?_);show bv _ _ (Builtin.Dict.addKeywords d []>>=_) _ _ _;refine aj (aJ (aJ ?_));refine hR h' s.toks ?_ λb o k v e=>E b o v e;rw[List.drop_eq_nil_of_le (by lia)];exact hd.extBut E D|succ m ih=>
  intro i bE s hm h a hd hk q hR;refine iW uk ?_;rw[gX lH];unfold Builtin.«dict.update.loop»;have N:i<ps.length:=by lia
  obtain⟨p,H⟩:∃p,ps[i]?=O p:=(_,aN N);have x:its[i]?≠none:=λz=>by rw[M i,H]at z;cases z
  have(u,f):=Option.ne_none_iff_exists'.mp x;have(t,key,rfl,hT,Hw):=q i u p f H;have D:d≠it:=θ h hd;have dl:d≠l:=WM a hd;have y:ps.drop i=p::ps.drop (i+1):=by rw[List.drop_eq_getElem_cons N];congr 1;rw[aN N]at H;injection H
  refine aj (E_ h a f λk B Y=>?_);have Q:∀{t:Addr}{xs:Array Value},s.heap.IsTuple t xs->k.IsTuple t xs:=λhx=>by have ne:=ahJ hx h;have(o,e,r):=hx;exact(o,(Y.2 _ ne).trans e,r)
  have C:k.DictOf knd d bE:=hd.extBut Y.extBut D;have g:=Q hT;have F:Shared.TypeIs {s with heap:=k} (.ref t) "tuple":=by have(o,e,c,_):=g;exact(o,e,c)
  refine aj (eC (aj (wpAny_tryCatch ?_)));unfold Builtin.Dict.pairItems;refine aj (su F ?_);rw[bI (by ext)];have(o,e,c,n,fZ):=id g;refine aj ?_;unfold seqItems?;refine aj (wpAny_load e ?_);rw[fZ];refine aJ (aJ ?_);have l3:(1000:Nat)<=sizeLine:=by ext
  refine eC (wpAny_dictSet_pairs Hw C (λv G S=>?_) (by lia));refine aJ (zD lH _,?_);have e1:dL ((i:Int)+1)=dL ((i+1:Nat):Int):=rfl;refine ih (i+1) (PySem.stored bE p.1 p.2) {s with heap:=v,toks:=s.toks+1} (by lia) ?_ ?_ G ?_ ?_ λh' T Hu k'=>?_;.have(o,e,r):=B;exact(o,(S.2 _ (bX D)).trans e,r)
  .exact(a.extBut Y.extBut (Tk a h)).extBut S.extBut (bX dl)
  .unfold PySem.stored;split;.rw[ae];lia
   .rw[aa];simp;lia
  .intro j u' p' I K;have(t',L,rfl,U,TQ):=q j u' p' I K;have nd:=t_d U hd;have(o',e',r'):=Q U;exact(t',L,rfl,(o',(S.2 _ nd).trans e',r'),TQ)
  .refine hR h' T ?_ λb ob W X E=>k' b ob W X ((S.2 _ W).trans ((Y.2 _ X).trans E));rw[y];exact Hu
theorem CB{Q:dA}{E:dA}{s:be}(D:A.handled=af)(I:PlainL s.heap l its)(L:∀i:Nat,its[i]?=af↔ps[i]?=af)(M:ps.length<=1000)(N:∀(j:Nat)(u:Value)(p:κ×Value),its[j]?=O u->ps[j]?=O p->xH knd s.heap u p)(h:∀h' T,h'.DictOf knd s.heap.objs.size (merged [] ps)->(∀b o,s.heap.get? b=O o->h'.get? b=O o)->Q (.ref s.heap.objs.size) {s with heap:=h',toks:=T}):bv (ce P w) A (call (.type "dict") [.ref l]) Q E s:=by
 refine callType_codes (Q₁:=λobj S=>obj=.ref s.heap.objs.size/\S={s with heap:=s.heap.push {cls:=.type "dict",data:=.dict #[]}}) F.kt_called_dict (F.kt_typeCall_dict_1 _) F.entry_dict_init (kt_code_dict_new _ (rfl,rfl)) ?_;rintro obj S ⟨rfl,rfl⟩;have K:(s.heap.push {cls:=.type "dict",data:=.dict #[]}).DictOf knd s.heap.objs.size []:=Heap.DictOf.new s.heap;refine(K.typeIs,F.args_dict_init_2 _ _,?_);unfold Builtin.«dict.__init__»;refine aj ?_;unfold Builtin.Dict.selfAndRest;refine aj (wpAny_notOrdered_dict K.typeIs ?_);show bv _ _ (pure (Prod.mk s.heap.objs.size ([aa8 l]))) _ _ _;refine aJ ?_;show bv _ _ (Builtin.Dict.updateFrom "dict.__init__" s.heap.objs.size (.ref l) [] .none) _ _ _;unfold Builtin.Dict.updateFrom;have(o,n,e,c,dn,fZ):=id I;have f:(s.heap.push {cls:=.type "dict",data:=.dict #[]}).get? l=O o:=aA _ e;have U:Shared.TypeIs {s with heap:=s.heap.push {cls:=.type "dict",data:=.dict #[]}} (.ref l) "list":=(o,f,c);refine aj (su U ?_);rw[bI (by ext)];refine aj (AX f c fZ dn D λH g k=>?_);rw[bI (by rfl)];refine aj (jc ?_);have W:PlainL H l its:=(o,n,k _ _ f,c,dn,fZ);have m:H.DictOf knd s.heap.objs.size []:=by have(v,X,Y,x,r):=K;exact(v,X,Y,k _ _ x,r)
 refine aj (o7 W.isList ?_);refine aJ (zD lH _,?_);have y:∀b o,s.heap.get? b=O o->(H.push {cls:=.type "list_iterator",data:=.fields #[.ref l,.int 0 0]}).get? b=O o:=λb o q=>aA _ (k _ _ (aA _ q));refine Dk (A:=A.in1) (R:=wants (λr a=>r=ab0/\Q (aa8 s.heap.objs.size) a) E) (knd:=knd) (d:=s.heap.objs.size) (l:=l) (its:=its) D L M ps.length 0 [] {s with heap:=H.push {cls:=.type "list_iterator",data:=.fields #[.ref l,.int 0 0]},toks:=g} (by lia) (_,a5 _ rfl,rfl,rfl) ?_ (m.push _) (ay _) (λj u p hu B=>?_) λh' T G Z=>(rfl,?_);.exact(o,y _ _ e,c,n,fZ)
 .obtain⟨t,C,rfl,⟨v,x,r'⟩,hk⟩:=N j u p hu B;exact(t,C,rfl,(v,y _ _ x,r'),hk)
 .rw[jG]at G;refine h h' T G λb ob q=>Z b ob (λz=>?_) (λz=>?_) (y _ _ q);.have:=aU q;rw[z]at this;exact cI _ this
  .have:=aU (k _ _ (aA {cls:=.type "dict",data:=.dict #[]} q));rw[z]at this;exact cI _ this
end
theorem Paired.at':∀{xs:List α}{ys:List β}{i:Nat}{x:α}{y:β},Paired F xs ys->xs[i]?=O x->ys[i]?=O y->F x y|_,_,0,_,_,.cons h _,e,E=>by simp at e E;subst e;subst E;exact h|_,_,i+1,_,_,.cons _ h,e,E=>Paired.at' h (by simpa using e) (by simpa using E)|_,_,_,_,_,.nil,e,_=>by simp at e
def Hd:dQ X (.builtin "len") λxs H Q=>∃(a:Addr)(ws:ϐ),xs=[.ref a]/\H a=O (.ext λh=>n8 X.prog X.w h a ws)/\Q (.int ws.length) H:=by
 intro p s σ H xs U Q I r h;have(a,ws,rfl,b,q):=h;have(u,rfl,R):=o6 r;cases R;have(o,E,i,t,e,ex,d,_,c,_,j,f,_):=(I.di a _ b).1;have l:E.size=ws.length:=by have:=c.length_eq;rw[ae]at this;simpa using this
 have g:(scanBound:Int)<2^63:=by ext
 exact call_len_set e ex d f (by lia) (.int ws.length,H,I.tok _,(s.toks+1,by rw[l]),q)
end L2
namespace L2
open PySem.SeqAt PySem.MeetsSeq PySem.Builtin PySem.Builtin.Str
def wq:Ve X "str.startswith" λx xs H Q=>∃(z y:Str),x=.str z/\xs=[.str y]/\Q (.bl (ac9 z y)) H:=by intro p s σ H x xs v U Q I R r h;have(z,y,rfl,rfl,q):=h;have(t,rfl):=R;have(u,rfl,T,rfl):=o6 r;exact SC.startswith (.bl _,H,I,rfl,q)
theorem xt:∀(l:List (Str×Tok)),Vals ((l.map (·.1)).map V.str) (strValues l)|[]=>.nil|p::l=>.cons (p.2,rfl) (xt l)
def Ll:Ve X "str.split" λx xs H Q=>∃(z y:Str),x=.str z/\xs=[.str y]/\(y.length==0)=a'/\z.length<=sizeLine/\(partsBetween z (occurrences z y 0 z.length (z.length+1)) y.length).length<=sizeLine/\(ac5 z y).length<=sizeLine/\∀l,H l=af->Q (.ref l) (dv H l (.lst ((ac5 z y).map V.str))):=by
 intro p s σ H x xs v U Q I R r h;have(z,y,rfl,rfl,j,m,d,i,q):=h;have(t,rfl):=R;have(w,rfl,u,rfl):=o6 r;have fin:∀(l:List (Str×Tok))(k:Nat),l.map (·.1)=ac5 z y->EP X p σ Q (.ref s.heap.objs.size) {s with heap:=s.heap.push {cls:=.type "list",data:=.seq (strValues l).toArray},toks:=k}:=λl k e=>by refine(.ref s.heap.objs.size,_,I.laid (a:=s.heap.objs.size) (o:=.lst ((ac5 z y).map V.str)) (λb n g=>aA _ g) (ay _) (by rw[ae];exact i,_,_,by rw[<-e];exact xt l,a5 _ rfl),rfl,q _ I.fresh)
 cases c:decide (z.length<y.length)||decide (strKind z<strKind y)
 .cases f:(occurrences z y 0 z.length (z.length+1)).isEmpty;.refine iY jI (sj _ _ _) qy (pq _ _) (meets_str_split_sep z y t u c j f m d) ?_;show wants (EP X p σ Q) X.xe _ {s with toks:=_,heap:=s.heap.push {cls:=.type "list",data:=.seq (strsFrom s.toks (partsBetween z (occurrences z y 0 z.length (z.length+1)) y.length)).toArray}};rw[strsFrom_eq];exact fin (numbered s.toks _) _ ((numbered_texts _ _).trans ((bL (xG c)).trans (bL (xG f))).symm)
  .exact iY jI (sj _ _ _) qy (pq _ _) (meets_str_split_not_found z y t u c j f) (fin [(z,t)] _ ((bL (xG c)).trans (bI f)).symm)
 .exact iY jI (sj _ _ _) qy (pq _ _) (meets_str_split_cannot_occur z y t u c) (fin [(z,t)] _ (bI c).symm)
def vX:dQ X (.type "int") λxs H Q=>∃(z:Str)(n:Int),xs=[.str z]/\aa7 z=O n/\z.length<=640/\Q (.int n) H:=by intro p s σ H xs U Q I r h;have(z,n,rfl,a,l,q):=h;have(u,rfl,t,rfl):=o6 r;exact PySem.W.KIN.call_text a l (.int _,H,I.tok _,(_,rfl),q)
end L2
namespace L2
section
variable{X:Cx}{bb:cp}{σ:tSt}{H:Hp}{s:be}{a b:Addr}{A:c9}{E:dA}
end
def G0(K:Frag)(b:Addr)(ks:ϐ):Prop:=∃(o:Obj)(i:Array Value)(m:Nat),K.lookup b=O o/\o.cls=.type "tuple"/\o.dict=af/\o.data=.seq i m/\i.size<=sizeLine/\Vals (ks.map V.str) i.toList
structure zV(w:cf)(K:Frag)(a:Addr)(tab:Str->Option ϐ):Prop where
 ex:∃(es:Array ft)(n:Nat),K.lookup a=O (.type "dict",af,.dict es n,#[])/\KeysLit w.params es.toList/\∀x,match tab x with|some ks=>∃b,findBy ab5 es x=O (.ref b)/\G0 K b ks|none=>findBy ab5 es x=af
 lo:(a==ga)=a'
def G0.sq{K:Frag}(h:G0 K b ks):fK K H b (ks.map V.str):=let (o,i,m,a,b,_,c,d,e):=h;.inr (o,i,m,a,b,c,d,e)
def G0.ty{K:Frag}(h:G0 K b ks):ij K "tuple" (.ref b) H:=let (o,i,m,a,b,n,_):=h;.inr (.inl (rfl,o,a,b,n))
def Uf(K:Frag)(a:Addr)(t:Str->Option ϐ):R2:=λx y H Q=>x=.ref a/\∃k s,y=.str k/\t k=O s/\∀b,G0 K b s->Q (.ref b) H
def Qw(T:zV X.w X.K a c):ED X (Uf X.K a c):=by intro e slice p s σ H x y v u Q I r R h f;have(rfl,k,j,rfl,g,q):=h;cases r;have(t,rfl):=R;have(E,m,lk,d,look):=T.ex;have hm:=iV (prog:=X.prog) (w:=X.w) I.nF lk d;have lx:=look k;rw[g]at lx;have(b,F,i):=lx;exact fW hm.typeIs iq.lookup (qB (knd:=strKind X.prog X.w) (kC X.prog X.w k t) hm F (rfl,(.ref b,H,I.tok _,rfl,q b i))) f
def LY{σ:tSt}(I:Inv X p σ H s)(h:fK X.K H b [kV k,v]):∃r,RelV v r/\xH (eY X.prog X.w) s.heap (.ref b) (k,r):=by have(a,c,d,_):=I.tuple h;have(u,r,rfl,R,e):=c.two;refine(r,e,b,u,rfl,d,?_);cases k with|inl i=>have(t,rfl):=R;exact rO X.prog X.w i t|inr x=>have(t,rfl):=R;exact rP X.prog X.w x t
def HV{σ:tSt}{H:Hp}(I:Inv X P σ H s):∀{ts:ϕ}{B:List (cv×V)}{its:List Value},Vals ts its->Paired (λt(k:cv×V)=>∃b,t=V.ref b/\fK X.K H b [kV k.1,k.2]) ts B->∃ps:List (cv×Value),KV B ps/\Paired (xH (eY X.prog X.w) s.heap) its ps:=by intro ts B its a;induction a generalizing B with|nil=>intro b;cases b;exact([],.nil,.nil)|cons r R i=>intro b;cases b with|cons p pp=>have(ps,a,b):=i pp;have(c,rfl,h):=p;cases r;have(w,C,d):=LY I h;exact(_,.cons (rfl,C) a,.cons d b)
def qK(m:X.calm):dQ X (.type "dict") λxs H Q=>∃(l:Addr)(ts:ϕ)(B:List (cv×V)),xs=[.ref l]/\jd X.K H l ts/\B.length<=100/\Paired (λt(v:cv×V)=>∃b,t=V.ref b/\fK X.K H b [kV v.1,v.2]) ts B/\∀a,H a=af->Q (.ref a) (dv H a (.dK (lF [] B))):=by
 intro P s σ H xs U Q I r h;have(l,ts,B,rfl,x,D,f,q):=h;have(u,rfl,y):=o6 r;cases y;have(its,g,z,_):=I.list x;have n:its.length=B.length:=by rw[<-g.length,f.length]
 have(ps,k,c):=HV I g f;have E:ps.length=B.length:=k.length.symm;have l3:(1000:Nat)<=sizeLine:=by ext
 refine CB (knd:=eY X.prog X.w) (its:=its.toArray) (ps:=ps) (I.ok.hd m) z (λi=>?_) (by lia) (λj u p hu d=>?_) λF T A C=>?_;.rw[tR,oF,oF];lia
 .rw[tR]at hu;exact Paired.at' c hu d
 .have R:KV (lF [] B) (merged [] ps):=KV.merge k .nil;have e:=oy B [];refine(.ref s.heap.objs.size,_,I.laid (a:=s.heap.objs.size) (o:=.dK (lF [] B)) (t':=T) C (ay _) ?_,rfl,q _ (I.di.fresh (ay _)));exact VZ (by simp at e;lia) (b3.mpr (bX (bG I.big))) R A
section
variable{P:cr}{w:cf}{A:c9}{E:dA}{s:be}
end
section
variable{X:Cx}{bb:cp}{D:kF}{f:Flow}{s:be}
theorem SP.HQ(ok:X.Ok)(h:SP {X with pn:=X.pn++bb,xe:=E} [] D f s):SP X bb D f s:=by cases f with|next=>have(a,H,I,q):=h;exact(a,H,I.HQ ok,q)|brk=>have(a,H,I,q):=h;exact(a,H,I.HQ ok,q)|cont=>have(a,H,I,q):=h;exact(a,H,I.HQ ok,q)|ret u=>have(v,a,H,I,r,q):=h;exact(v,a,H,I.HQ ok,r,q)
end
section
variable{P:cr}{w:cf}{K:Frag}{mg:db}{base:Heap}{x:Str}{st:Stmt}{ps N:ϐ}{k:Nat}{sp:Addr->Addr->Sp}
end
end L2
namespace L2
open PySem.W
end L2
namespace L2
open PySem.SeqAt
def VE:d4 "set"=O (.type "set"):=by ext
end L2
namespace L2
def oJ:dh X N s fp S H₀ (λ_ _ _=>False)=fi X N s fp S H₀:=by
 have e:(dh X N s fp S H₀ λ_ _ _=>False).xe=λ_ _=>False:=by funext e a;refine propext (λh=>?_,ad0);have(_,_,_,_,_,_,_,_,_,_,q):=h;exact q
 show{fi X N s fp S H₀ with xe:=(dh X N s fp S H₀ λ_ _ _=>False).xe}=_;rw[e];rfl
def Lp{P:Prop}(h:(dh X N s fp S H λ_ _ _=>False).xe e s'):P:=by rw[oJ]at h;exact h.elim
def Rb(S:eS X d a)(P:X.calm)(j:∀σ:tSt,σ.length=X.N.length->mh X d a σ (f σ))(k:PI X tg iter w)(l:∀fp b c,PG (fi X d a fp b c) tg g)(m:∀fp b c,pE (fi X d a fp b c) i t)(o:∀fp b c,PE (fi X d a fp b c) E T)(q:autoParam (∀x,g5 iter X.env x=pure x) hD):PE X (.ListComp E [(tg,iter,i,0)] a pos) (vn w g t T f):=by intro p s σ H Q I h;rw[eval_ListComp];exact x9 (nt:=0) (E1:=λ_ _ _=>False) S P j k (λ_ _ _=>by rw[oJ];exact l _ _ _) (λ_ _ _=>by rw[oJ];exact m _ _ _) (λ_ _ _=>by rw[oJ];exact(o _ _ _).n 0) q Ae (λ_ _ e r h=>Lp h) I (bA _) h
def RD(G:X.N.Nodup)(K:X.N[i0]?=O y)(L:Loc X.env.scope y)(S:eS X t a)(pW:X.calm)(T:∀σ:tSt,σ.length=X.N.length->mh X t a σ (u σ))(hi:PI X tg iter wi)(hg:∀fp c d,PG (fi X t a fp c d) tg g)(hc:∀fp c d,pE (fi X t a fp c d) j tc)(he:∀fp c d,PE (fi X t a fp c d) E te)(hs:autoParam (∀x,g5 iter X.env x=pure x) hD)(U:autoParam (gt (.ListComp E [(tg,iter,j,0)] a pos) (O (.Name y F)) P.line X.env=pure J) o0)(W:autoParam (X.fn y=J\/X.env.scope.names.lookup y=O .local) hF):PS X (.Assign [.Name y F] (.ListComp E [(tg,iter,j,0)] a pos) P) (zp (vn wi g tc te u) (mG i0)):=by
 intro p s σ H D I h;rw[exec_Assign_Name_used _ _ _ _ U];refine aj (U6 (aj ?_));show bv _ X.A (do let _<-comprehension (.ListComp E [(tg,iter,j,0)] a pos) a X.env _ (newList []) a' (eval iter X.env) (O (assign (.Name y F) X.env))) _ _ s;refine aj (fe (x9 (R:=λ_ s'=>∃l k,Inv X p l k s'/\D.nx l k) (nt:=0) (E1:=λ_ _ _=>False) S pW T hi (λ_ _ _=>by rw[oJ];exact hg _ _ _) (λ_ _ _=>by rw[oJ];exact hc _ _ _) (λ_ _ _=>by rw[oJ];exact(he _ _ _).n 0) hs (λ{fp i s' l H3 k Y}I3 f3 r q=>?_) (λ_ _ e s' h=>Lp h) I (bA _) h) (λ_ s' hq=>aJ (aJ hq)) λ_ _ e=>e);have(m,B,_):=id r.loc;have B:s'.heap.Ns i.heap.objs.size m:=B;have un:Un (ox X.stack) fp H3 k i.heap s'.heap:=r.base;have oV:k i.heap.objs.size=none:=r.free;have CT:kS X.prog X.w k s'.heap:=r.di;have IX:Inv X p σ k s':=by
  refine I3.EY (s':=s') (ch:=fp) ?_ un CT r.bare λb f=>?_;.exact r.os
  .have(_,Q,q2,Z,q4,q5):=f3 b f;exact(Z,Q,q4,q5)
 have lt:∀b o,i.heap.get? b=O o->b≠i.heap.objs.size:=λb o e=>bG (aU e);have NW:mi X p k i.heap.objs.size:=I3.Kl (ay _) oV;have(oC,esC,epC,C,hrC):=id B;have IP:=IX.pinned (fp:=[i.heap.objs.size]) (λb f=>by rw[aV.mp f];exact NW) (λb f=>by rw[aV.mp f];exact(oC,C,λv g=>by simp_all));refine wpAny_assign_Name (vg IP G K L (v:=.ref Y) rfl (λz Ia=>?_) W);have hoA:z.heap.get? i.heap.objs.size=O oC:=(Ia.pin (i.heap.objs.size,oC) (ba _ (ba _ (jA (by simp) C)))).1;refine(m,B.at' λo e=>?_,λh' WV=>(_,k,?_,q));.rw[C]at e;injection e with e;exact e▸hoA
 .have(q0,Q,q2,Z,q4,q5):=NW;have Iu:=Ia.kP;have M:∀b o,b ∉[i.heap.objs.size]->z.heap.get? b=O o->h'.get? b=O o:=λb o f e=>(WV.2 b (by simpa using f)).trans e;refine Iu.step (g':=z.gens) (t':=z.toks) (d':=z.drawn) (ch:=[i.heap.objs.size]) (λb f=>?_) (λb o _ _ f e _=>M b o f e) (λb o _ _ f e _=>(o.slots,M b o f e)) (λb o _ _ n=>n) (λb o f e=>(o,M b o f e)) (λ_ _ e=>e) (λ_ _ _ e=>e) (λb ps e=>(#[],by rw[e];simp)) (λm' f_=>f_.at' λo e=>M _ o (by simpa using bX Q) e) (sZ Iu.di q0 WV) Iu.bare;rw[aV.mp f];exact(Z,Q,q4,q5)
end L2
namespace PySem
open Builtin Builtin.Str
end PySem
namespace L2
open PySem.SeqAt PySem.MeetsSeq PySem.Builtin PySem.Builtin.Str
section
variable{X:Cx}{a b c e:Expr}{ta tb te:TE}{pos:Pos}
end
end L2
namespace L2
theorem J0:∀{a b X Y:Ϙ},c∉a->c∉b->a++c::X=b++c::Y->a=b/\X=Y|[],[],X,Y,_,_,h=>(rfl,by simpa using h)|[],y::b,X,Y,_,H,h=>by simp at h;exact absurd h.1 λe=>H (by rw[<-e];exact au)|x::a,[],X,Y,d,_,h=>by simp at h;exact absurd h.1 λe=>d (by rw[e];exact au)|x::a,y::b,X,Y,d,H,h=>by simp only[hJ,List.cons.injEq]at h;have(E,f):=J0 (λz=>d (ao _ z)) (λz=>H (ao _ z)) h.2;exact(by rw[h.1,E],f)
def cG{y:Str}(h:x.cps.toList=y.cps.toList):x=y:=by apply Str.ext';exact Array.toList_inj.mp h
def dq(c:Nat)(x y:Str)(r:ϐ):(ac6 ⟨#[c]⟩ (x::y::r)).cps.toList=x.cps.toList++c::(ac6 ⟨#[c]⟩ (y::r)).cps.toList:=by show(x++⟨#[c]⟩++ac6 ⟨#[c]⟩ (y::r):Str).cps.toList=_;rw[jJ,jJ];simp
theorem AN:∀{as bs:ϐ},as ≠[]->bs ≠[]->(∀x∈as,c∉x.cps.toList)->(∀x∈bs,c∉x.cps.toList)->ac6 ⟨#[c]⟩ as=ac6 ⟨#[c]⟩ bs->as=bs|[],_,h,_,_,_,_=>absurd rfl h|_,[],_,h,_,_,_=>absurd rfl h|[a],[b],_,_,_,_,h=>by have e:a=b:=h;rw[e]|[a],b::B::r,_,_,H,_,h=>by exfalso;have e:a=ac6 ⟨#[c]⟩ (b::B::r):=h;refine H a au ?_;rw[e,dq];simp|a::A::r,[b],_,_,_,d,h=>by exfalso;have e:b=ac6 ⟨#[c]⟩ (a::A::r):=h.symm;refine d b au ?_;rw[e,dq];simp|a::A::r,b::B::R,_,_,H,d,h=>by have e:=cy (λs:Str=>s.cps.toList) h;simp only[dq]at e;have(E,g):=J0 (H a au) (d b au) e;have i:=AN (c:=c) (as:=A::r) (bs:=B::R) (by simp) (by simp) (λx f=>H x (ao _ f)) (λx f=>d x (ao _ f)) (cG g);rw[cG E,i]
def lK(h:as ≠[])(H:∀x∈as,c∉x.cps.toList):ac5 (ac6 ⟨#[c]⟩ as) ⟨#[c]⟩=as:=by refine AN (c:=c) ?_ h (StrLaws.split_free _ c) H (StrLaws.join_split _ _);intro e;have:=split_pos (ac6 ⟨#[c]⟩ as) ⟨#[c]⟩;rw[e]at this;simp at this
def vw(z:Str)(ws:ϐ):ae2 z ws=ac6 z ws:=StrLaws.glued_eq_join z ws
theorem uH(c:Nat):∀(ls:ϐ),ac6 ⟨#[]⟩ (ls.map λ(l:Str)=>l++⟨#[c]⟩)=ac6 ⟨#[c]⟩ (ls++[⟨#[]⟩])|[]=>rfl|[x]=>by apply cG;rw[show[x]++[(⟨#[]⟩:Str)]=[x,⟨#[]⟩]from rfl,dq];show(x++⟨#[c]⟩:Str).cps.toList=x.cps.toList++c::([]:Ϙ);rw[jJ];simp|x::y::r=>by have i:=uH c (y::r);apply cG;rw[show(x::y::r++[(⟨#[]⟩:Str)])=x::y::(r++[⟨#[]⟩])from rfl,dq];rw[show(y::(r++[(⟨#[]⟩:Str)]))=y::r++[⟨#[]⟩]from rfl,<-i];show(x++⟨#[c]⟩++⟨#[]⟩++ac6 ⟨#[]⟩ ((y::r).map λ(l:Str)=>l++⟨#[c]⟩):Str).cps.toList=_;rw[jJ,jJ,jJ];simp
def afz(m:Nat):(m=0->(af8 10 m).map ag5=[48])/\(0<m->∃c r,(af8 10 m).map ag5=c::r/\49<=c):=by induction m using Nat.strongRecOn with|ind m i=>
  refine(λh=>by subst h;decide,λh=>?_);by_cases B:m<10
  .refine(48+m,[],?_,by omega);rw[Nat.toDigits_of_lt_base B];have:∀d,d<10->[Nat.digitChar d].map ag5=[48+d]:=by ext
   exact this m B
  .have(c,r,e,H):=(i (m/10) (by omega)).2 (by omega);have e2:=Nat.toDigits_append_toDigits (b:=10) (n:=m/10) (d:=m%10) (by ext) (by omega) (Nat.mod_lt _ (by ext));rw[show 10*(m/10)+m%10=m by omega]at e2;refine(c,r++(af8 10 (m%10)).map ag5,?_,H);rw[<-e2,aq,e];rfl
def Gx(c:Nat):Bool:=decide (97<=c)&&decide (c<=122)
def Ck(x y:Str):(x++y).cps=x.cps++y.cps:=rfl
def bt(x y:Str):(x++y).length=x.length+y.length:=by show(x.cps++y.cps).size=x.cps.size+y.cps.size;simp
abbrev ZY:Str:="abcdefghijklmnopqrstuvwxyz"
def Jy:ZY.cps.toList=[97,98,99,100,101,102,103,104,105,106,107,108,109,110,111,112,113,114,115,116,117,118,119,120,121,122]:=by ext
def agL(c:Nat):(!decide ((⟨#[c]⟩:Str).cps.toList<("a":Str).cps.toList))=decide (97<=c):=by
 have e:("a":Str).cps.toList=[97]:=by ext
 rw[e];by_cases h:97<=c
 .rw[a9 h,bg];.rfl
  .intro z;have Z:[c]<[97]:=z;simp[cU]at Z;lia
 .rw[bg h,a9];.rfl
  .show[c]<[97];simp[cU];lia
def agM(c:Nat):(!decide (("z":Str).cps.toList<(⟨#[c]⟩:Str).cps.toList))=decide (c<=122):=by
 have e:("z":Str).cps.toList=[122]:=by ext
 rw[e];by_cases h:c<=122
 .rw[a9 h,bg];.rfl
  .intro z;have Z:[122]<[c]:=z;simp[cU]at Z;lia
 .rw[bg h,a9];.rfl
  .show[122]<[c];simp[cU];lia
end L2
namespace F
open L2
inductive Pv where|non|bl(b:Bool)|int(i:Int)|str(x:Str)|tup(xs:List Pv)|lst(xs:List Pv)|scr(xs:List Pv)|dct(ks vs:List Pv)|obj(C:Nat)(fs:List Pv)|fn(i:Nat)|ty(c:Nat)
abbrev ϑ:=List Pv
inductive Dv where|p(x:Pv)|r(i:Nat)
inductive Ob where|lst(xs:ϑ)|du(xs:List Dv)|dct(ks vs:ϑ)|ins(C:Nat)(fs:List Dv)
noncomputable def jQ:Nat->String|0=>"str"|1=>"int"|2=>"bool"|3=>"tuple"|_=>"list"
abbrev Hs:=List Ob
abbrev Es:=List (Option Dv)
structure Tx where
 K:Frag
 mg:db
 fA:Nat->Str
 ca:Nat->Addr
 fl:Nat->ϐ
 G:List Addr
def MY{K:Frag}(s:P/\Rd H a (.lst vs)\/jd K (λ_=>af) a vs):jd K H a vs:=s.elim (λh=>.inl h.2) λh=>h.elim (λz=>by rcases z with z|⟨_,z⟩<;>cases z) .inr
variable(Z:Tx)(M:List Addr)(H:Hp)
mutual
def bT:Pv->V->Prop|.non,v=>v=.non|.bl b,v=>v=.bl b|.int i,v=>v=.int i|.str x,v=>v=.str x|.tup xs,v=>∃a vs,v=.ref a/\fK Z.K H a vs/\aR xs vs|.lst xs,v=>∃a vs,v=.ref a/\(a∉M/\a∉Z.G)/\H a=O (.lst vs)/\aR xs vs|.scr xs,v=>∃a vs,v=.ref a/\((a∉M/\a∉Z.G)/\Rd H a (.lst vs)\/jd Z.K (λ_=>af) a vs)/\aR xs vs|.dct ks us,v=>∃a B,v=.ref a/\(a∉M/\a∉Z.G)/\H a=O (.dK B)/\aR ks (B.map λp=>kV p.1)/\aR us (B.map (·.2))|.obj C fs,v=>∃a d fv,v=.ref a/\(a∉M/\a∉Z.G)/\H a=O (.ins (Z.ca C) d fv)/\fv.map (·.1)=(Z.fl C).take fs.length/\aR fs (fv.map (·.2))|.fn i,v=>∃a,Z.mg (Z.fA i)=O (.ref a)/\v=.ref a|.ty c,v=>v=.ty (jQ c)def aR:List Pv->List V->Prop|[],[]=>True|x::xs,v::vs=>bT x v/\aR xs vs|_,_=>False
end
def cL:Dv->V->Prop|.p x,v=>bT Z M H x v|.r i,v=>∃a,M[i]?=O a/\v=.ref a
def bY:List Dv->ϕ->Prop|[],[]=>True|x::X,v::s=>cL Z M H x v/\bY X s|_,_=>False
def vF(a:Addr):Ob->Prop|.lst x=>∃v,H a=O (.lst v)/\aR Z M H x v|.du ds=>∃v,H a=O (.lst v)/\bY Z M H ds v|.dct k u=>∃b,H a=O (.dK b)/\aR Z M H k (b.map λp=>kV p.1)/\aR Z M H u (b.map (·.2))|.ins C fs=>∃d f,H a=O (.ins (Z.ca C) d f)/\H d=O (.own a)/\f.map (·.1)=(Z.fl C).take fs.length/\bY Z M H fs (f.map (·.2))
structure bh(h:Hs):Prop where
 nd:M.Nodup
 dj:∀a∈M,a∉Z.G
 ln:M.length=h.length
 gs:∀b∈Z.G,∃o,H b=O o
 ob:∀(i:Nat)a o,M[i]?=O a->h[i]?=O o->vF Z M H a o
structure cV(σ:Es)(τ:tSt):Prop where
 ln:σ.length=τ.length
 at':∀(i:Nat)d,σ[i]?=O (O d)->∃v,τ[i]?=O (O v)/\cL Z M H d v
structure Ext(M:List Addr)(H:Hp)(M':List Addr)(H':Hp):Prop where
 pre:∃l,M'=M++l
 keep:∀b o,b∉M->H b=O o->H' b=O o
 new:∀b∈M',b∉M->H b=af
section
variable{Z:Tx}{M M' M₂:List Addr}{H H' H₂:Hp}{h h':Hs}
def Ext.refl:Ext M H M H:=(([],(aI M).symm),λ_ _ _ h=>h,λ_ h n=>absurd h n)
def Ext.trans(a:Ext M H M' H')(b:Ext M' H' M₂ H₂):Ext M H M₂ H₂:=by
 have(l,rfl):=a.pre;have(L,rfl):=b.pre;have k:∀c o,c∉M->H c=O o->c∉M++l:=λc o d h z=>by rw[a.new c z d]at h;cases h
 refine((l++L,by rw[aD]),λc o d h=>b.keep c o (k c o d h) (a.keep c o d h),λc d n=>?_);by_cases z:c∈M++l;.exact a.new c z n
 .cases e:H c with|none=>rfl|some o=>have:=b.new c d z;rw[a.keep c o n e]at this;cases this
def yM:HO->Bool|.lst _=>J|.dK _=>J|.ins _ _ _=>J|_=>a'
def bh.there(r:bh Z M H h)(d:a∈M):∃o,H a=O o/\yM o=true:=by
 have(i,c):=vN d;have l:i<h.length:=by rw[<-r.ln];exact(ak.mp c).1
 have ho:=r.ob i a h[i] c (aN l);cases b:h[i]with|lst x=>rw[b]at ho;have(_,e,_):=ho;exact(_,e,rfl)|du x=>rw[b]at ho;have(_,e,_):=ho;exact(_,e,rfl)|dct k v=>rw[b]at ho;have(_,e,_):=ho;exact(_,e,rfl)|ins C fs=>rw[b]at ho;have(_,_,e,_):=ho;exact(_,e,rfl)
def bh.no(r:bh Z M H h){a:Addr}{o:HO}(e:H a=O o)(n:yM o=a'):a∉M:=λz=>by have(u,b,c):=r.there z;rw[e]at b;cases b;rw[n]at c;cases c
def bh.fresh(r:bh Z M H h)(a:H p=af):p∉M:=λz=>by have(o,e,_):=r.there z;rw[a]at e;cases e
def bh.oO(r:bh Z M H h)(a:H p=af):p∉M/\p∉Z.G:=(r.fresh a,λz=>by have(o,e):=r.gs p z;rw[a]at e;cases e)
def bh.Lq(r:bh Z M H h)(b:a∈M):¬Rd H a (.tup vs):=λz=>by
 rcases z with z|⟨q,z⟩;.exact r.no z rfl b
 .exact r.no z rfl b
structure Mv(M:List Addr)(H:Hp)(M':List Addr)(H':Hp):Prop where
 nt:∀a∈M,∀vs,¬Rd H a (.tup vs)keep:∀b o,b∉M->H b=O o->H' b=O o
 new:∀b∈M',b∉M->H b=af
def Mv.rd(m:Mv M H M' H')(b:a∉M)(r:Rd H a u):Rd H' a u:=by
 rcases r with r|⟨q,r⟩;.exact .inl (m.keep _ _ b r)
 .exact .inr (q,m.keep _ _ b r)
def Mv.sqT(m:Mv M H M' H'){K:Frag}(s:fK K H a vs):fK K H' a vs:=by
 rcases s with r|r;.exact .inl (m.rd (λz=>m.nt a z vs r) r)
 .exact .inr r
def Mv.ni(m:Mv M H M' H')(b:a∉M)(r:H a=O o):a∉M':=λz=>by rw[m.new a z b]at r;cases r
mutual
theorem bT.mv(m:Mv M H M' H'):∀{x:Pv}{v:V},bT Z M H x v->bT Z M' H' x v
 |.non,_,h=>by unfold bT at*;exact h|.bl _,_,h=>by unfold bT at*;exact h|.int _,_,h=>by unfold bT at*;exact h|.str _,_,h=>by unfold bT at*;exact h|.fn _,_,h=>by unfold bT at*;exact h|.ty _,_,h=>by unfold bT at*;exact h|.tup xs,_,h=>by unfold bT at*;have(a,vs,e,s,q):=h;exact(a,vs,e,m.sqT s,aR.mv m q)|.lst xs,_,h=>by unfold bT at*;have(a,vs,e,n,s,q):=h;exact(a,vs,e,(m.ni n.1 s,n.2),m.keep _ _ n.1 s,aR.mv m q)|.scr xs,_,h=>by
  unfold bT at*;have(a,vs,e,s,q):=h;rcases s with ⟨n,s⟩|s;.exact(a,vs,e,.inl ((s.elim (m.ni n.1) λ(_,r)=>m.ni n.1 r,n.2),m.rd n.1 s),aR.mv m q)
  .exact(a,vs,e,.inr s,aR.mv m q)|.dct ks us,_,h=>by unfold bT at*;have(a,b,e,n,s,q,Q):=h;exact(a,b,e,(m.ni n.1 s,n.2),m.keep _ _ n.1 s,aR.mv m q,aR.mv m Q)|.obj C fs,_,h=>by unfold bT at*;have(a,d,fv,e,n,s,l,q):=h;exact(a,d,fv,e,(m.ni n.1 s,n.2),m.keep _ _ n.1 s,l,aR.mv m q)theorem aR.mv(m:Mv M H M' H'):∀{xs:List Pv}{vs:List V},aR Z M H xs vs->aR Z M' H' xs vs|[],[],h=>by unfold aR at*;trivial|[],_::_,h=>by unfold aR at*;exact h|_::_,[],h=>by unfold aR at*;exact h|x::xs,v::vs,h=>by unfold aR at*;exact(bT.mv m h.1,aR.mv m h.2)end
theorem Ext.mv(e:Ext M H M' H')(r:bh Z M H h):Mv M H M' H':=(λ_ a _=>r.Lq a,e.keep,e.new)
theorem Ext.at(e:Ext M H M' H'){i:Nat}(h:M[i]?=O a):M'[i]?=O a:=by have(l,rfl):=e.pre;rw[aZ (ak.mp h).1];exact h
theorem cL.mv(m:Mv M H M' H')(at':∀(i:Nat)a,M[i]?=O a->M'[i]?=O a)(h:cL Z M H d v):cL Z M' H' d v:=by cases d with|p x=>exact bT.mv m h|r i=>have(a,b,c):=h;exact(a,at' i a b,c)
theorem bY.mv(m:Mv M H M' H')(at':∀(i:Nat)a,M[i]?=O a->M'[i]?=O a):∀{ds:List Dv}{vs:List V},bY Z M H ds vs->bY Z M' H' ds vs|[],[],_=>trivial|[],_::_,h=>h|_::_,[],h=>h|_::_,_::_,h=>(cL.mv m at' h.1,bY.mv m at' h.2)
theorem cL.ext(r:bh Z M H h)(e:Ext M H M' H')(q:cL Z M H d v):cL Z M' H' d v:=cL.mv (e.mv r) (λ_ _=>e.at) q
theorem bY.ext(r:bh Z M H h)(e:Ext M H M' H')(q:bY Z M H d v):bY Z M' H' d v:=bY.mv (e.mv r) (λ_ _=>e.at) q
theorem bT.ext(r:bh Z M H h)(e:Ext M H M' H')(q:bT Z M H d v):bT Z M' H' d v:=bT.mv (e.mv r) q
theorem aR.ext(r:bh Z M H h)(e:Ext M H M' H')(q:aR Z M H d v):aR Z M' H' d v:=aR.mv (e.mv r) q
theorem cV.ext(q:cV Z M H σ τ)(r:bh Z M H h)(e:Ext M H M' H'):cV Z M' H' σ τ:=(q.ln,λi d a=>let (v,b,q):=q.at' i d a;(v,b,q.ext r e))
theorem cV.set(q:cV Z M H σ τ)(c:cL Z M H d v):cV Z M H (σ.set i (O d)) (τ.set i (O v)):=(by rw[a6,a6];exact q.ln,λj e a=>by
 by_cases b:i=j
 .subst b;by_cases l:i<σ.length;.rw[dc l]at a;cases a;exact(v,by rw[dc (by rw[<-q.ln];exact l)],c)
  .rw[kq (by rw[a6];lia)]at a;cases a
 .rw[aB b]at a⊢;exact q.at' j e a)
theorem vF.mv(m:Mv M H M' H')(at':∀(i:Nat)a,M[i]?=O a->M'[i]?=O a)(k:∀u,H a=O u->H' a=O u)(x:∀d,H d=O (.own a)->H' d=O (.own a))(h:vF Z M H a o):vF Z M' H' a o:=by cases o with|lst X=>have(v,e,q):=h;exact(v,k _ e,aR.mv m q)|du X=>have(v,e,q):=h;exact(v,k _ e,bY.mv m at' q)|dct K U=>have(b,e,q,Q):=h;exact(b,k _ e,aR.mv m q,aR.mv m Q)|ins C fs=>have(d,f,e,n,c,q):=h;exact(d,f,k _ e,x _ n,c,bY.mv m at' q)
theorem Ext.add(a:H p=af):Ext M H M (dv H p o):=(([],(aI M).symm),λb u _ h=>by rw[bJ (bV h a)];exact h,λb h n=>absurd h n)
theorem qm(h:∃q,H b=O q):∃q,dv H p o b=O q:=by
 by_cases e:b=p;.subst e;exact(o,bQ)
 .rw[bJ e];exact h
theorem bh.add(r:bh Z M H h)(c:H p=af):bh Z M (dv H p o) h:=(r.nd,r.dj,r.ln,λb d=>qm (r.gs b d),λi a u f g=>vF.mv ((Ext.add c).mv r) (λ_ _ z=>z) (λq e=>by rw[bJ (bV e c)];exact e) (λD e=>by rw[bJ (bV e c)];exact e) (r.ob i a u f g))
theorem Ext.push(r:bh Z M H h)(a:H p=af):Ext M H (M++[p]) (dv H p u):=(([p],rfl),λb o _ e=>by rw[bJ (bV e a)];exact e,λb c n=>by
 rcases bf.mp c with z|z;.exact absurd z n
 .rw[aV.mp z];exact a)
theorem bh.push(r:bh Z M H h)(d:H p=af)(n:vF Z (M++[p]) (dv H p u) p o):bh Z (M++[p]) (dv H p u) (h++[o]):=by
 refine(de.mpr (r.nd,by simp,λa g b j z=>?_),λa g=>(bf.mp g).elim (r.dj a) λz=>by rw[aV.mp z];exact(r.oO d).2,by rw[aa,aa,r.ln];rfl,λb j=>qm (r.gs b j),λi a q c f=>?_);.rw[aV.mp j]at z;subst z;exact r.fresh d g
 .by_cases l:i<M.length;.rw[aZ l]at c;rw[aZ (by rw[<-r.ln];exact l)]at f;exact vF.mv ((Ext.push r d).mv r) (λ_ _=>(Ext.push (u:=u) r d).at) (λq e=>by rw[bJ (bV e d)];exact e) (λD e=>by rw[bJ (bV e d)];exact e) (r.ob i a q c f)
  .rw[aM (by lia)]at c;rw[aM (by rw[<-r.ln];lia)]at f;rw[<-r.ln]at f;cases m:i-M.length with|zero=>rw[m]at c f;cases c;cases f;exact n|succ k=>rw[m]at c;cases c
theorem Ext.put(c:a∈M):Ext M H M (dv H a u):=(([],(aI M).symm),λb o n e=>by rw[bJ λz=>n (by rw[z];exact c)];exact e,λb h n=>absurd h n)
theorem bh.put(r:bh Z M H h){i:Nat}{a:Addr}{o:Ob}{u:HO}(c:M[i]?=O a)(m:vF Z M (dv H a u) a o):bh Z M (dv H a u) (h.set i o):=by
 have l:a∈M:=a7 c;refine(r.nd,r.dj,by rw[a6];exact r.ln,λb g=>qm (r.gs b g),λj b q d f=>?_);by_cases k:j=i
 .subst k;rw[c]at d;cases d;have n:j<h.length:=by rw[<-r.ln];exact(ak.mp c).1
  rw[dc n]at f;cases f;exact m
 .rw[aB (bX k)]at f;have g:b≠a:=λz=>k (by have p:=ak.mp d;have s:=ak.mp c;have(l3,E):=p;have(l4,t):=s;exact(kA r.nd).mp (by rw[E,t,z]));exact vF.mv ((Ext.put l).mv r) (λ_ _ z=>z) (λq e=>by rw[bJ g];exact e) (λD e=>by rw[bJ λz=>by rw[z]at e;exact r.no e rfl l];exact e) (r.ob j b q d f)
noncomputable def bD(k:Nat):Dv->Bool|.p _=>J|.r i=>decide (i<k)
def U_(k:Nat):List Dv->Bool|[]=>J|d::r=>bD k d&&U_ k r
def bO(k:Nat):Ob->Bool|.lst _=>J|.du ds=>U_ k ds|.dct _ _=>J|.ins _ fs=>U_ k fs
def bH(k:Nat):Hs->Bool|[]=>J|o::r=>bO k o&&bH k r
def wj(k:Nat):Option Dv->Option Dv|some d=>if bD k d then O d else af|none=>af
def OR(k:Nat):Es->Es|[]=>[]|d::r=>wj k d::OR k r
theorem JB:∀{h:Hs},bH k h=J->∀o∈h,bO k o=J
 |[],_,o,a=>by cases a|q::r,e,o,a=>by
  simp only[bH,aO]at e;rcases aK.mp a with z|z;.rw[z];exact e.1
  .exact JB e.2 o z
theorem Mv.cut(r:bh Z M H h)(k:Nat):Mv M H (M.take k) H:=(λ_ a _=>r.Lq a,λ_ _ _ e=>e,λb c n=>absurd (kW c) n)
theorem cL.cut(r:bh Z M H h)(q:cL Z M H d v)(b:bD k d):cL Z (M.take k) H d v:=by cases d with|p x=>exact bT.mv (Mv.cut r k) q|r i=>have(a,c,e):=q;have f:i<k:=aW b;exact(a,by rw[iM f];exact c,e)
theorem bY.cut(r:bh Z M H h){k:Nat}:∀{ds:List Dv}{vs:List V},bY Z M H ds vs->U_ k ds->bY Z (M.take k) H ds vs|[],[],_,_=>trivial|[],_::_,q,_=>q|_::_,[],q,_=>q|_::_,_::_,q,b=>by simp only[U_,aO]at b;exact(q.1.cut r b.1,bY.cut r q.2 b.2)
theorem bh.cut(r:bh Z M H h)(k:Nat)(b:bH k (h.take k)):bh Z (M.take k) H (h.take k):=by
 refine(r.nd.sublist (cQ k M),λa f=>r.dj a (kW f),by rw[bW,bW,r.ln],r.gs,λi a o d c=>?_);have hb:=JB b o (a7 c);have g:i<k:=by have:=(ak.mp c).1;rw[bW]at this;lia
 rw[iM g]at d c;have q:=r.ob i a o d c;cases o with|lst x=>have(v,e,q):=q;exact(v,e,aR.mv (Mv.cut r k) q)|du x=>have(v,e,q):=q;exact(v,e,q.cut r hb)|dct K u=>have(B,e,q,Q):=q;exact(B,e,aR.mv (Mv.cut r k) q,aR.mv (Mv.cut r k) Q)|ins C fs=>have(D,F,e,n,l,q):=q;exact(D,F,e,n,l,q.cut r hb)
theorem EZ:∀{σ:Es}{i:Nat},(OR k σ)[i]?=O (O d)->σ[i]?=O (O d)/\bD k d=J
 |[],i,e=>by simp[OR]at e|q::r,0,e=>by simp only[OR,qv,Option.some.injEq]at e;cases q with|none=>cases e|some q=>
   simp only[wj]at e;split at e;.cases e;exact(rfl,by assumption)
   .cases e
 |q::r,i+1,e=>by simp only[OR,dJ]at e⊢;exact EZ e
theorem E2(k:Nat):∀σ:Es,(OR k σ).length=σ.length|[]=>rfl|_::r=>by simp only[OR,ag,E2 k r]
theorem cV.cut(q:cV Z M H σ τ)(r:bh Z M H h)(k:Nat):cV Z (M.take k) H (OR k σ) τ:=((E2 k σ).trans q.ln,λi d a=>by have(b,c):=EZ a;have(v,e,q):=q.at' i d b;exact(v,e,q.cut r c))
theorem Ext.cut(e:Ext M H M' H')(a:M.length<=k):Ext M H (M'.take k) H':=by have(l,rfl):=e.pre;refine((l.take (k-M.length),by rw[List.take_append,eo a]),e.keep,λb c n=>e.new b (kW c) n)
end
end F
namespace F
open L2
abbrev XP:=Nat->Hs->Prop
abbrev KP:=List Dv->Hs->Prop
abbrev Sm:=XP->Es->Hs->KP->Prop
structure En where
 nx:Es->Hs->Prop
 rt:Dv->Hs->Prop
 bk:Es->Hs->Prop
 ct:Es->Hs->Prop
 xc:XP
abbrev Ss:=En->Es->Hs->Prop
abbrev En.sq(N:En)(n:Ss):En:={N with nx:=λσ h=>n N σ h}
abbrev En.cu(N:En)(R:Es->Hs->Prop):En:={N with nx:=R}
abbrev En.lp(N:En)(A B:Es->Hs->Prop):En:={N with nx:=A,ct:=A,bk:=B}
structure Tb where
 fA:Nat->Str
 ca:Nat->Addr
 fl:Nat->ϐ
structure T0 where
 K:Frag
 mg:db
 t:Tb
noncomputable abbrev T0.z(Y:T0)(G:List Addr):Tx:=(Y.K,Y.mg,Y.t.fA,Y.t.ca,Y.t.fl,G)
abbrev yx(t:Tb)(X:Cx):T0:=(X.K,X.mg,t)
section
variable(Z:Tx)
structure Kn(E:XK)(τ:tSt)(H:Hp)(QV:VK)(M:List Addr)(σ:Es)(h:Hs)(xc:XP)(Q:KP):Prop where
 rel:bh Z M H h
 env:cV Z M H σ τ
 out:∀d h' M' H' v,Ext M H M' H'->bh Z M' H' h'->cL Z M' H' d v->Q [d] h'->QV v H'
 exc:∀C h' M' H',Ext M H M' H'->bh Z M' H' h'->xc C h'->E (.ref (Z.ca C)) af H'
structure KnA(E:XK)(τ:tSt)(H:Hp)(QV:ϕ->Hp->Prop)(M:List Addr)(σ:Es)(h:Hs)(xc:XP)(Q:KP):Prop where
 rel:bh Z M H h
 env:cV Z M H σ τ
 out:∀d h' M' H' v,Ext M H M' H'->bh Z M' H' h'->bY Z M' H' d v->Q d h'->QV v H'
 exc:∀C h' M' H',Ext M H M' H'->bh Z M' H' h'->xc C h'->E (.ref (Z.ca C)) af H'
structure KnT(E:XK)(τ:tSt)(H:Hp)(QV:Bool->Hp->Prop)(M:List Addr)(σ:Es)(h:Hs)(xc:XP)(Q:KP):Prop where
 rel:bh Z M H h
 env:cV Z M H σ τ
 out:∀d h' M' H',Ext M H M' H'->bh Z M' H' h'->Q [d] h'->∃b,d=.p (.bl b)/\QV b H'
 exc:∀C h' M' H',Ext M H M' H'->bh Z M' H' h'->xc C h'->E (.ref (Z.ca C)) af H'
structure Vc(E:XK)(τ:tSt)(H:Hp)(D:kF)(M:List Addr)(σ:Es)(h:Hs)(N:En):Prop where
 rel:bh Z M H h
 env:cV Z M H σ τ
 nx:∀σ' h' M' H' τ',Ext M H M' H'->bh Z M' H' h'->cV Z M' H' σ' τ'->N.nx σ' h'->D.nx τ' H'
 rt:∀d h' M' H' v,Ext M H M' H'->bh Z M' H' h'->cL Z M' H' d v->N.rt d h'->D.rt v H'
 bk:∀σ' h' M' H' τ',Ext M H M' H'->bh Z M' H' h'->cV Z M' H' σ' τ'->N.bk σ' h'->D.bk τ' H'
 ct:∀σ' h' M' H' τ',Ext M H M' H'->bh Z M' H' h'->cV Z M' H' σ' τ'->N.ct σ' h'->D.ct τ' H'
 exc:∀C h' M' H',Ext M H M' H'->bh Z M' H' h'->N.xc C h'->E (.ref (Z.ca C)) af H'
inductive cA(Y:T0)(E:XK)(m:Sm)(τ:tSt)(H:Hp)(QV:VK):Prop|mk(G M:List Addr)(σ:Es)(h:Hs)(xc:XP)(Q:KP)(k:Kn (Y.z G) E τ H QV M σ h xc Q)(q:m xc σ h Q):cA Y E m τ H QV
inductive gB(Y:T0)(E:XK)(m:Sm)(τ:tSt)(H:Hp)(QV:ϕ->Hp->Prop):Prop|mk(G M:List Addr)(σ:Es)(h:Hs)(xc:XP)(Q:KP)(k:KnA (Y.z G) E τ H QV M σ h xc Q)(q:m xc σ h Q):gB Y E m τ H QV
inductive jm(Y:T0)(E:XK)(m:Sm)(τ:tSt)(H:Hp)(QV:Bool->Hp->Prop):Prop|mk(G M:List Addr)(σ:Es)(h:Hs)(xc:XP)(Q:KP)(k:KnT (Y.z G) E τ H QV M σ h xc Q)(q:m xc σ h Q):jm Y E m τ H QV
inductive eI(Y:T0)(E:XK)(m:Ss)(D:kF)(τ:tSt)(H:Hp):Prop|mk(G M:List Addr)(σ:Es)(h:Hs)(N:En)(k:Vc (Y.z G) E τ H D M σ h N)(q:m N σ h):eI Y E m D τ H
end
section
variable{Z:Tx}{E:XK}{τ:tSt}{H H':Hp}{M M':List Addr}{σ:Es}{h h':Hs}{xc:XP}{Q:KP}
def Kn.Pf(k:Kn Z E τ H b M σ h xc Q)(e:Ext M H M' H'):∀C a m H1,Ext M' H' m H1->bh Z m H1 a->xc C a->E (.ref (Z.ca C)) af H1:=λC a m H1 x r q=>k.exc C a m H1 (e.trans x) r q
def Kn.on(k:Kn Z E τ H c M σ h xc Q)(e:Ext M H M' H')(r:bh Z M' H' h')(o:∀d b m a v,Ext M' H' m a->bh Z m a b->cL Z m a d v->Q' [d] b->q v a):Kn Z E τ H' q M' σ h' xc Q':=(r,k.env.ext k.rel e,o,k.Pf e)
def Kn.go(k:Kn Z E τ H q M σ h xc Q)(e:Ext M H M' H')(r:bh Z M' H' h'):Kn Z E τ H' q M' σ h' xc Q:=(r,k.env.ext k.rel e,λd a m b v x=>k.out d a m b v (e.trans x),k.Pf e)
end
def _root_.L2.PE.imp{X:Cx}{e:Expr}{t t':TE}(h:PE X e t')(i:∀σ H Q,t σ H Q->t' σ H Q):PE X e t:=λp s σ H Q I q=>h p s σ H Q I (i σ H Q q)
def _root_.L2.PT.imp{X:Cx}{e:Expr}{t t':TT}(h:PT X e t')(i:∀σ H Q,t σ H Q->t' σ H Q):PT X e t:=λp s σ H Q I q=>h p s σ H Q I (i σ H Q q)
def _root_.L2.PW.imp{X:Cx}{e:Expr}{t t':TT}(h:PW X e t')(i:∀σ H Q,t σ H Q->t' σ H Q):PW X e t:=λw p s σ H Q I q=>h w p s σ H Q I (i σ H Q q)
def _root_.L2.PA.imp{X:Cx}{e:List Expr}{t t':TA}(h:PA X e t')(i:∀σ H Q,t σ H Q->t' σ H Q):PA X e t:=λP p s σ H Q I q=>h P p s σ H Q I (i σ H Q q)
def _root_.L2.PS.imp{X:Cx}{e:Stmt}{t t':TS}(h:PS X e t')(i:∀D σ H,t D σ H->t' D σ H):PS X e t:=λp s σ H D I q=>h p s σ H D I (i D σ H q)
def _root_.L2.oH.imp{X:Cx}{e:List Stmt}{t t':TS}(h:oH X e t')(i:∀D σ H,t D σ H->t' D σ H):oH X e t:=λp s σ H D I q=>h p s σ H D I (i D σ H q)
def gd(c:Bool)(A:Prop):Prop:=match c with|true=>A|false=>False
def aw{c:Bool}(h:c)(a:A):gd c A:=by subst h;exact a
def bq(h:gd c A):c/\A:=by cases c with|true=>exact(rfl,h)|false=>exact h.elim
def br(c:Bool)(A B:Prop):Prop:=match c with|true=>A|false=>B
def bB{c:Bool}(a:c->A)(b:c=a'->B):br c A B:=by cases c with|true=>exact a rfl|false=>exact b rfl
def ie{α:Type}(o:Option α)(A:α->Prop)(B:Prop):Prop:=match o with|some x=>A x|none=>B
def LR(a:∀x,o=O x->A x)(b:o=af->B):ie o A B:=by cases o with|some x=>exact a x rfl|none=>exact b rfl
def bC{x:α}(e:o=O x)(a:A x):ie o A B:=by subst e;exact a
def FQ(h:ie o A False):∃x,o=O x/\A x:=by cases o with|some x=>exact(x,rfl,h)|none=>exact h.elim
noncomputable def vK:List Dv->Option ϑ
 |[]=>O []|.p x::r=>match vK r with|some X=>O (x::X)|none=>af
 |.r _::_=>af
abbrev O1:=Dv->Hs->(Dv->Hs->Prop)->Prop
abbrev O2:=Dv->Dv->Hs->(Dv->Hs->Prop)->Prop
abbrev ON:=List Dv->Hs->(Dv->Hs->Prop)->Prop
def sV(i:Nat):Sm:=λ_ σ h Q=>match σ[i]? with|some (O d)=>Q [d] h|_=>False
def sC(x:Pv):Sm:=λ_ _ h Q=>Q [.p x] h
def s1(o:O1)(A:Sm):Sm:=λX σ h Q=>A X σ h λs H=>match s with|[x]=>o x H λd a=>Q [d] a|_=>False
def s2(o:O2)(A B:Sm):Sm:=λX σ h Q=>A X σ h λs H=>match s with
 |[x]=>B X σ H λY a=>match Y with|[y]=>o x y a λd b=>Q [d] b|_=>False
 |_=>False
def sN(o:ON)(A:Sm):Sm:=λx σ h Q=>A x σ h λX H=>o X H λd a=>Q [d] a
def Ec:Sm:=λ_ _ h Q=>Q [] h
def UH(A R:Sm):Sm:=λX σ h Q=>A X σ h λs H=>match s with|[x]=>R X σ H λy a=>Q (x::y) a|_=>False
def RR(A B:Sm):Sm:=λx σ h Q=>A x σ h λX H=>match X with|[.p (.bl b)]=>br b (B x σ H λy a=>match y with|[.p (.bl c)]=>Q [.p (.bl c)] a|_=>False) (Q [.p (.bl a')] H)|_=>False
def ji(A B:Sm):Sm:=λx σ h Q=>A x σ h λX H=>match X with|[.p (.bl b)]=>br b (Q [.p (.bl J)] H) (B x σ H λy a=>match y with|[.p (.bl c)]=>Q [.p (.bl c)] a|_=>False)|_=>False
def RS(A:Sm):Sm:=λx σ h Q=>A x σ h λX H=>match X with|[.p (.bl b)]=>Q [.p (.bl !b)] H|_=>False
def Y1(T A B:Sm):Sm:=λx σ h Q=>T x σ h λX H=>match X with|[.p (.bl b)]=>br b (A x σ H Q) (B x σ H Q)|_=>False
section
variable{t:Tb}{X:Cx}{E:XK}{e a b:Expr}{A B T:Sm}{pos:Pos}
def Ot(h:PE X e (Sv i)):PE X e (cA (yx t X) E (sV i)):=h.imp λτ H j (G,M,σ,s,x,Q,k,q)=>by
 unfold sV at q;split at q;.rename_i d c;have(v,f,g):=k.env.at' i d c;exact(v,f,k.out d s M H v Ext.refl k.rel g q)
 .exact q.elim
def DM(h:PE X e (tC v))(c:∀G M H,bT ((yx t X).z G) M H x v):PE X e (cA (yx t X) E (sC x)):=h.imp λτ H d (G,M,σ,s,f,Q,k,q)=>k.out (.p x) s M H v Ext.refl k.rel (c G M H) q
def Vb(Y:T0)(r:V->Hp->VK->Prop)(o:O1):Prop:=∀G M h H x v Q q,bh (Y.z G) M H h->cL (Y.z G) M H x v->o x h Q->(∀d f m c w,Ext M H m c->bh (Y.z G) m c f->cL (Y.z G) m c d w->Q d f->q w c)->r v H q
def iD(Y:T0)(r:R2)(o:O2):Prop:=∀G M h H x y v u Q q,bh (Y.z G) M H h->cL (Y.z G) M H x v->cL (Y.z G) M H y u->o x y h Q->(∀d f m c w,Ext M H m c->bh (Y.z G) m c f->cL (Y.z G) m c d w->Q d f->q w c)->r v u H q
def sy(Y:T0)(r:ϕ->Hp->VK->Prop)(o:ON):Prop:=∀G M h H x v Q q,bh (Y.z G) M H h->bY (Y.z G) M H x v->o x h Q->(∀d f m c w,Ext M H m c->bh (Y.z G) m c f->cL (Y.z G) m c d w->Q d f->q w c)->r v H q
def acR(c:Vb (yx t X) r o)(h:cA (yx t X) E (s1 o A) τ H QV):FM r (cA (yx t X) E A) τ H QV:=by have(G,M,σ,s,x,Q,k,q):=h;refine(G,M,σ,s,x,_,(k.rel,k.env,λd f m g v e R i j=>?_,k.exc),q);exact c G m f g d v _ _ R i j λD l n p w u y I z=>k.out D l n p w (e.trans u) y I z
def vm(f:iD (yx t X) r o)(h:cA (yx t X) E (s2 o A B) τ H QV):i9 r (cA (yx t X) E A) (cA (yx t X) E B) τ H QV:=by have(G,M,σ,s,x,Q,k,q):=h;refine(G,M,σ,s,x,_,(k.rel,k.env,λd g m W v e R i j=>?_,k.exc),q);refine(G,m,σ,g,x,_,k.on e R λD l n p w c u I y=>?_,j);exact f G n l p d D v w _ _ u (i.ext R c) I y λC F K L z N P S U=>k.out C F K L z (e.trans (c.trans N)) P S U
def ab6(h:jZ X (binaryOp op) r)(H:iD (yx t X) r o)(c:PE X a (cA (yx t X) E A))(d:PE X b (cA (yx t X) E B)):PE X (.BinOp a op b pos) (cA (yx t X) E (s2 o A B)):=(ZB h c d).imp λ_ _ _=>vm H
def WD(h:ZW X (unaryOp op) r)(H:Vb (yx t X) r o)(c:PE X a (cA (yx t X) E A)):PE X (.UnaryOp op a pos) (cA (yx t X) E (s1 o A)):=(ab2 h c).imp λ_ _ _=>acR H
def Yk(h:jZ X (compareOp op) r)(H:iD (yx t X) r o)(c:PE X a (cA (yx t X) E A))(d:PE X b (cA (yx t X) E B))(m:gi op b=a'):PE X (.Compare a [op] [b] pos) (cA (yx t X) E (s2 o A B)):=(Ra h c d m).imp λ_ _ _=>vm H
def GH(h:jm (yx t X) E m τ H f):cA (yx t X) E m τ H λx H'=>∃k,x=.bl k/\f k H':=by have(G,M,σ,s,g,Q,k,q):=h;refine(G,M,σ,s,g,Q,(k.rel,k.env,λd j l H' v e r i n=>?_,k.exc),q);have(c,rfl,o):=k.out d j l H' e r n;refine(c,?_,o);unfold cL bT at i;exact i
def Rw(H:jZ X (compareOp op) r)(c:iD (yx t X) r o)(d:PE X a (cA (yx t X) E A))(f:PE X b (cA (yx t X) E B))(m:gi op b=a'):PT X (.Compare a [op] [b] pos) (jm (yx t X) E (s2 o A B)):=(y9 H d f m).imp λ_ _ _ h=>vm c (GH h)
def Rx(h:PE X e (cA (yx t X) E A))(H:∀kQ,isTrue e X.env kQ=do let v<-kQ;standAt e.pos;fy [v] (truthy v)):PT X e (jm (yx t X) E A):=(YM h H).imp λ_ _ _ h=>GH h
end
section
variable{t:Tb}{X:Cx}{E:XK}{e a b c:Expr}{b':List Expr}{A B T:Sm}{pos:Pos}
def Nk(h:jm (yx t X) E (RR A B) τ H QB):Ev (jm (yx t X) E A) (jm (yx t X) E B) τ H QB:=by
 have(G,M,σ,s,m,Q,k,q):=h;refine(G,M,σ,s,m,_,(k.rel,k.env,λd n o p e R j=>?_,k.exc),q);split at j;.rename_i b g;injection g with g;refine(b,g,?_);cases b with|false=>have(c,f,i):=k.out _ n o p e R j;injection f with f;injection f with f;subst f;exact i|true=>
   refine(G,o,σ,n,m,_,(R,k.env.ext k.rel e,λF i u v w y l=>?_,λC f z D x r q=>k.exc C f z D (e.trans x) r q),j);split at l;.rename_i c g;injection g with g;have(I,f,i):=k.out _ i u v (e.trans w) y l;injection f with f;injection f with f;subst f;exact(c,g,i)
   .exact l.elim
 .exact j.elim
def Sk(h:jm (yx t X) E (ji A B) τ H QB):IZ (jm (yx t X) E A) (jm (yx t X) E B) τ H QB:=by
 have(G,M,σ,s,m,Q,k,q):=h;refine(G,M,σ,s,m,_,(k.rel,k.env,λd n o p e R j=>?_,k.exc),q);split at j;.rename_i b g;injection g with g;refine(b,g,?_);cases b with|true=>have(c,f,i):=k.out _ n o p e R j;injection f with f;injection f with f;subst f;exact i|false=>
   refine(G,o,σ,n,m,_,(R,k.env.ext k.rel e,λF i u v w y l=>?_,λC f z D x r q=>k.exc C f z D (e.trans x) r q),j);split at l;.rename_i c g;injection g with g;have(I,f,i):=k.out _ i u v (e.trans w) y l;injection f with f;injection f with f;subst f;exact(c,g,i)
   .exact l.elim
 .exact j.elim
def Nl(h:jm (yx t X) E (RS A) τ H QB):Nv (jm (yx t X) E A) τ H QB:=by
 have(G,M,σ,s,x,Q,k,q):=h;refine(G,M,σ,s,x,_,(k.rel,k.env,λd j m l e r g=>?_,k.exc),q);split at g;.rename_i b i;injection i with i;have(c,f,n):=k.out _ j m l e r g;injection f with f;injection f with f;subst f;exact(b,i,n)
 .exact g.elim
def Sl(h:cA (yx t X) E (RR A B) τ H QV):UR (cA (yx t X) E A) (cA (yx t X) E B) τ H QV:=by
 have(G,M,σ,s,x,Q,k,q):=h;refine(G,M,σ,s,x,_,(k.rel,k.env,λd l m n v e r i g=>?_,k.exc),q);split at g;.rename_i b f;injection f with f;subst f;unfold cL bT at i;refine(b,i,?_);cases b with|false=>exact k.out _ l m n _ e r (by unfold cL bT;rfl) g|true=>
   refine(G,m,σ,l,x,_,k.on e r λD o p u w y R I j=>?_,g);split at j;.rename_i c f;injection f with f;subst f;exact k.out _ o p u w (e.trans y) R I j
   .exact j.elim
 .exact g.elim
def Zi(h:cA (yx t X) E (ji A B) τ H QV):x3 (cA (yx t X) E A) (cA (yx t X) E B) τ H QV:=by
 have(G,M,σ,s,x,Q,k,q):=h;refine(G,M,σ,s,x,_,(k.rel,k.env,λd l m n v e r i g=>?_,k.exc),q);split at g;.rename_i b f;injection f with f;subst f;unfold cL bT at i;refine(b,i,?_);cases b with|true=>exact k.out _ l m n _ e r (by unfold cL bT;rfl) g|false=>
   refine(G,m,σ,l,x,_,k.on e r λD o p u w y R I j=>?_,g);split at j;.rename_i c f;injection f with f;subst f;exact k.out _ o p u w (e.trans y) R I j
   .exact j.elim
 .exact g.elim
def So(h:cA (yx t X) E (RS A) τ H QV):UT (cA (yx t X) E A) τ H QV:=by
 have(G,M,σ,s,x,Q,k,q):=h;refine(G,M,σ,s,x,_,(k.rel,k.env,λd j m l v e r i f=>?_,k.exc),q);split at f;.rename_i b g;injection g with g;subst g;unfold cL bT at i;exact(b,i,k.out _ j m l _ e r (by unfold cL bT;rfl) f)
 .exact f.elim
def Sn(h:cA (yx t X) E (Y1 T A B) τ H QV):wv (jm (yx t X) E T) (cA (yx t X) E A) (cA (yx t X) E B) τ H QV:=by
 have(G,M,σ,s,x,Q,k,q):=h;refine(G,M,σ,s,x,_,(k.rel,k.env,λd i m j e r f=>?_,k.exc),q);split at f;.rename_i b g;injection g with g;refine(b,g,?_);cases b with|true=>exact(G,m,σ,i,x,_,k.go e r,f)|false=>exact(G,m,σ,i,x,_,k.go e r,f)
 .exact f.elim
def Yn(h:PT X c (jm (yx t X) E T))(H:PE X a (cA (yx t X) E A))(d:PE X b (cA (yx t X) E B)):PE X (.IfExp c a b pos) (cA (yx t X) E (Y1 T A B)):=(L4 h H d).imp λ_ _ _=>Sn
def Rj:PA X [] (gB (yx t X) E Ec):=qX.imp λτ H d (G,M,σ,h,x,Q,k,q)=>k.out [] h M H [] Ext.refl k.rel trivial q
def Me(h:PE X a (cA (yx t X) E A))(j:PA X b' (gB (yx t X) E B))(p:b4 a):PA X (a::b') (gB (yx t X) E (UH A B)):=(hX h j p).imp λτ H L (G,M,σ,s,f,Q,k,q)=>by refine(G,M,σ,s,f,_,(k.rel,k.env,λd l m N v e R i n=>?_,k.exc),q);refine(G,m,σ,l,f,_,(R,k.env.ext k.rel e,λds o u w ws g y I z=>?_,λC D F K x r q=>k.exc C D F K (e.trans x) r q),n);exact k.out (d::ds) o u w (v::ws) (e.trans g) y (i.ext R g,I) z
def US(f:sy (yx t X) r o)(h:cA (yx t X) E (sN o A) τ H QV):gB (yx t X) E A τ H λvs g=>r vs g QV:=by have(G,M,σ,s,x,Q,k,q):=h;refine(G,M,σ,s,x,_,(k.rel,k.env,λd j m l v e R i n=>?_,k.exc),q);exact f G m j l d v _ _ R i n λD p u y w z C I F=>k.out D p u y w (e.trans z) C I F
def Mb{id:String}(h:dQ X (.builtin id) r)(H:sy (yx t X) r o)(g:Gl X x)(m:X.mg x=af)(v:d4 x=O (.builtin id))(d:PA X (a::b') (gB (yx t X) E A))(n:x≠"__name__")(j:(x==("__debug__":Str))=a')(D:(a::b').all b4):PE X (.Call (.Name x p) (a::b') [] pos) (cA (yx t X) E (sN o A)):=(Ur h g m v d n j D).imp λ_ _ _=>US H
def xm{id:String}(h:dQ X (.type id) r)(H:sy (yx t X) r o)(g:Gl X x)(m:X.mg x=af)(v:d4 x=O (.type id))(d:PA X (a::b') (gB (yx t X) E A))(n:x≠"__name__")(j:(x==("__debug__":Str))=a')(D:(a::b').all b4):PE X (.Call (.Name x p) (a::b') [] pos) (cA (yx t X) E (sN o A)):=(Us h g m v d n j D).imp λ_ _ _=>US H
end
abbrev Ct:=List Dv->Hs->(Dv->Hs->Prop)->XP->Prop
inductive iK(Y:T0)(C:Ct)(vs:ϕ)(H:Hp)(QV:VK)(EV:XK):Prop|mk(G M:List Addr)(h:Hs)(ds:List Dv)(Q:Dv->Hs->Prop)(xc:XP)(r:bh (Y.z G) M H h)(i:bY (Y.z G) M H ds vs)(c:C ds h Q xc)(out:∀d h' M' H' v,Ext M H M' H'->bh (Y.z G) M' H' h'->cL (Y.z G) M' H' d v->Q d h'->QV v H')(exc:∀c h' M' H',Ext M H M' H'->bh (Y.z G) M' H' h'->xc c h'->EV (.ref (Y.t.ca c)) af H'):iK Y C vs H QV EV
noncomputable def gH(i:Nat):Ϙ->Bool|[]=>a'|j::r=>aa6 i j||gH i r
def ku:Ϙ->Bool|[]=>J|i::r=>!gH i r&&ku r
noncomputable def Qt(i:Nat):Ϙ->Nat|[]=>0|j::r=>match aa6 i j with|true=>0|false=>Qt i r+1
def xz(ρ:Ϙ):Dv->Bool|.p _=>J|.r i=>gH i ρ
def Hy(ρ:Ϙ):List Dv->Bool|[]=>J|d::r=>xz ρ d&&Hy ρ r
def Ch(ρ:Ϙ):Ob->Bool|.lst _=>J|.du ds=>Hy ρ ds|.dct _ _=>J|.ins _ fs=>Hy ρ fs
def hL(ρ:Ϙ):Dv->Dv|.p x=>.p x|.r i=>.r (Qt i ρ)
def KE(ρ:Ϙ):Ob->Ob|.lst x=>.lst x|.du ds=>.du (ds.map (hL ρ))|.dct k v=>.dct k v|.ins C fs=>.ins C (fs.map (hL ρ))
def lh(ρ:Ϙ)(h:Hs):Ϙ->Option Hs|[]=>O []|i::r=>match h[i]? with|none=>af|some o=>match Ch ρ o with|false=>af|true=>match lh ρ h r with|none=>af|some l=>O (KE ρ o::l)
noncomputable def Tj(ρ:Ϙ)(n:Nat):Dv->Dv|.p x=>.p x|.r k=>match ρ[k]? with|some i=>.r i|none=>.r (n+(k-ρ.length))
def IW(ρ:Ϙ)(n:Nat):Ob->Ob|.lst x=>.lst x|.du ds=>.du (ds.map (Tj ρ n))|.dct k v=>.dct k v|.ins C fs=>.ins C (fs.map (Tj ρ n))
def QI(ρ:Ϙ)(n:Nat):Ϙ->Hs->Hs->Hs|[],[],h=>h|[],o::os,h=>h++(o::os).map (IW ρ n)|_::_,[],h=>h|i::r,o::os,h=>QI ρ n r os (h.set i (IW ρ n o))
def Xs(ρ:Ϙ)(C:Ct):Ct:=λds h Q x=>gd (ku ρ&&Hy ρ ds) (match lh ρ h ρ with|none=>False|some l=>C (ds.map (hL ρ)) l (λd L=>Q (Tj ρ h.length d) (QI ρ h.length ρ L h)) λc L=>x c (QI ρ h.length ρ L h))
theorem b9:∀{l:Ϙ},gH i l=J↔i∈l|[]=>by simp[gH]|j::r=>by simp only[gH,cH,aK,b9 (l:=r),Nat.beq_eq]
theorem FH:∀{l:Ϙ},ku l=J->l.Nodup|[],_=>fE|i::r,h=>by simp only[ku,aO,Bool.not_eq_true']at h;refine cj.mpr (λz=>?_,FH h.2);rw[b9.mpr z]at h;cases h.1
theorem Fs:∀{l:Ϙ},i∈l->l[Qt i l]?=O i
 |[],h=>by cases h|j::r,h=>by
  unfold Qt;split;.rename_i e;rw[ax e];rfl
  .rename_i e;have H:i∈r:=(aK.mp h).resolve_left λz=>by rw[z,fU]at e;cases e
   rw[dJ];exact Fs H
section
variable{Y:T0}{G M M':List Addr}{H H':Hp}{h l l':Hs}{ρ:Ϙ}
noncomputable def mL(ρ:Ϙ)(M:List Addr):List Addr:=ρ.filterMap λi=>M[i]?
theorem K9:∀{ρ:Ϙ}{l:Hs},lh ρ0 h ρ=O l->l.length=ρ.length/\∀(k:Nat)i,ρ[k]?=O i->∃o,h[i]?=O o/\Ch ρ0 o/\l[k]?=O (KE ρ0 o)
 |[],l,e=>by cases e;exact(rfl,λk i h=>by simp at h)|i::r,l,e=>by
  unfold lh at e;split at e;.cases e
  .rename_i o d;split at e;.cases e
   .rename_i f;split at e;.cases e
    .rename_i l1 g;cases e;have(a,b):=K9 g;refine(by rw[ag,ag,a],λk j c=>?_);cases k with|zero=>cases c;exact(o,d,f,rfl)|succ k=>exact b k j c
def uM(E:∀i∈ρ,i<M.length):(mL ρ M).length=ρ.length/\∀(k:Nat),(mL ρ M)[k]?=ρ[k]?.bind λi=>M[i]?:=by induction ρ with|nil=>exact(rfl,λk=>by simp[mL])|cons i r I=>
  have(a,b):=I λj c=>E j (ao _ c);have e:M[i]?=O (M[i]'(E i au)):=aN (E i au);have d:mL (i::r) M=M[i]'(E i au)::mL r M:=by unfold mL;rw[iz,e]
  rw[d];refine(by rw[ag,ag,a],λk=>?_);cases k with|zero=>rw[qv,qv];exact e.symm|succ k=>rw[dJ,dJ];exact b k
def yL(h:a∈mL ρ M):a∈M:=by have(i,_,e):=nW.mp h;exact a7 e
def abk(e:M.Nodup)(a:ρ.Nodup):(mL ρ M).Nodup:=by unfold mL;refine List.Pairwise.filterMap _ ?_ a;intro i j d b f c g z;subst z;refine d ?_;have(l1,E):=ak.mp f;have(l2,k):=ak.mp g;exact(kA e).mp (E.trans k.symm)
mutual
theorem bT.fr{G' M':List Addr}(n:∀a,a∈M'\/a∈G'->a∈M\/a∈G\/H a=af):∀{x:Pv}{v:V},bT (Y.z G) M H x v->bT (Y.z G') M' H x v
 |.non,_,h=>by unfold bT at*;exact h|.bl _,_,h=>by unfold bT at*;exact h|.int _,_,h=>by unfold bT at*;exact h|.str _,_,h=>by unfold bT at*;exact h|.fn _,_,h=>by unfold bT at*;exact h|.ty _,_,h=>by unfold bT at*;exact h|.tup xs,_,h=>by unfold bT at*;have(a,vs,e,s,q):=h;exact(a,vs,e,s,aR.fr n q)|.lst xs,_,h=>by
  unfold bT at*;have(a,vs,e,k,s,q):=h;have z:∀z,(a∈M'\/a∈G')=z->¬z:=λ_ e z=>by subst e;rcases n a z with z|z|z;exact k.1 z;exact k.2 z;rw[z]at s;cases s
  exact(a,vs,e,(λy=>z _ rfl (.inl y),λy=>z _ rfl (.inr y)),s,aR.fr n q)|.scr xs,_,h=>by
  unfold bT at*;have(a,vs,e,s,q):=h;rcases s with ⟨k,s⟩|s
  .have z:∀z,(a∈M'\/a∈G')=z->¬z:=λ_ e z=>by subst e;rcases n a z with z|z|z;exact k.1 z;exact k.2 z;rcases s with s|⟨_,s⟩<;>rw[z]at s<;>cases s
   exact(a,vs,e,.inl ((λy=>z _ rfl (.inl y),λy=>z _ rfl (.inr y)),s),aR.fr n q)
  .exact(a,vs,e,.inr s,aR.fr n q)|.dct ks us,_,h=>by
  unfold bT at*;have(a,b,e,k,s,q,Q):=h;have z:∀z,(a∈M'\/a∈G')=z->¬z:=λ_ e z=>by subst e;rcases n a z with z|z|z;exact k.1 z;exact k.2 z;rw[z]at s;cases s
  exact(a,b,e,(λy=>z _ rfl (.inl y),λy=>z _ rfl (.inr y)),s,aR.fr n q,aR.fr n Q)|.obj C fs,_,h=>by
  unfold bT at*;have(a,d,fv,e,k,s,l,q):=h;have z:∀z,(a∈M'\/a∈G')=z->¬z:=λ_ e z=>by subst e;rcases n a z with z|z|z;exact k.1 z;exact k.2 z;rw[z]at s;cases s
  exact(a,d,fv,e,(λy=>z _ rfl (.inl y),λy=>z _ rfl (.inr y)),s,l,aR.fr n q)theorem aR.fr{G' M':List Addr}(n:∀a,a∈M'\/a∈G'->a∈M\/a∈G\/H a=af):∀{xs:List Pv}{vs:List V},aR (Y.z G) M H xs vs->aR (Y.z G') M' H xs vs|[],[],h=>by unfold aR at*;trivial|[],_::_,h=>by unfold aR at*;exact h|_::_,[],h=>by unfold aR at*;exact h|x::xs,v::vs,h=>by unfold aR at*;exact(bT.fr n h.1,aR.fr n h.2)end
theorem bT.up(n:∀a,a∉M'->a∉G'->a∉M/\a∉G)(h:bT (Y.z G') M' H x v):bT (Y.z G) M H x v:=bT.fr (λa b=>by
 by_cases z:a∈M';.exact .inl z
 .by_cases y:a∈G';.exact .inr (.inl y)
  .have(p,q):=n a z y;exact(b.elim p q).elim) h
theorem aR.up(n:∀a,a∉M'->a∉G'->a∉M/\a∉G)(h:aR (Y.z G') M' H x v):aR (Y.z G) M H x v:=aR.fr (λa b=>by
 by_cases z:a∈M';.exact .inl z
 .by_cases y:a∈G';.exact .inr (.inl y)
  .have(p,q):=n a z y;exact(b.elim p q).elim) h
def gL(ρ:List Nat)(M G:List Addr):List Addr:=G++M.filter λa=>!(mL ρ M).contains a
theorem oQ:a∈gL ρ M G↔a∈G\/a∈M/\a∉mL ρ M:=by unfold gL;rw[bf,sQ];simp
theorem Fd:∀a,a∈mL ρ M\/a∈gL ρ M G->a∈M\/a∈G\/H a=none:=λa h=>h.elim (λz=>.inl (yL z)) λz=>(oQ.mp z).elim (λz=>.inr (.inl z)) λz=>.inl z.1
theorem cL.dn(e:∀i∈ρ,i<M.length)(b:xz ρ d)(q:cL (Y.z G) M H d v):cL (Y.z (gL ρ M G)) (mL ρ M) H (hL ρ d) v:=by cases d with|p x=>exact bT.fr Fd q|r i=>have(a,c,f):=q;have hi:=b9.mp b;refine(a,?_,f);rw[(uM e).2,Fs hi];exact c
theorem bY.dn(e:∀i∈ρ,i<M.length):∀{ds:List Dv}{vs:List V},Hy ρ ds=J->bY (Y.z G) M H ds vs->bY (Y.z (gL ρ M G)) (mL ρ M) H (ds.map (hL ρ)) vs|[],[],_,_=>trivial|[],_::_,_,q=>q|_::_,[],_,q=>q|_::_,_::_,hd,q=>by simp only[Hy,aO]at hd;exact(q.1.dn e hd.1,bY.dn e hd.2 q.2)
theorem bh.dn(r:bh (Y.z G) M H h)(g:ρ.Nodup)(e:lh ρ h ρ=O l):bh (Y.z (gL ρ M G)) (mL ρ M) H l/\∀i∈ρ,i<M.length:=by
 have(u,m):=K9 e;have E:∀i∈ρ,i<M.length:=λi c=>by have(k,e):=vN c;have(o,j,_):=m k i e;rw[r.ln];exact(ak.mp j).1
 refine((abk r.nd g,λa p z=>(oQ.mp z).elim (r.dj a (yL p)) λz=>z.2 p,by rw[(uM E).1,u],λb w=>?_,λk a o d s=>?_),E)
 .rcases oQ.mp w with z|z;.exact r.gs b z
  .have(o,e,_):=r.there z.1;exact(o,e)
 .rw[(uM E).2]at d;cases c:ρ[k]? with|none=>rw[c]at d;cases d|some i=>rw[c]at d;have(t,j,f,P):=m k i c;rw[P]at s;cases s;have q:=r.ob i a t d j;cases t with|lst x=>have(v,e,q):=q;exact(v,e,aR.fr Fd q)|du x=>have(v,e,q):=q;exact(v,e,q.dn E f)|dct K U=>have(B,e,q,Q):=q;exact(B,e,aR.fr Fd q,aR.fr Fd Q)|ins C fs=>have(D,F,e,n,L,q):=q;exact(D,F,e,n,by rw[ae];exact L,q.dn E f)
theorem GI:∀a,a∉mL ρ M++L->a∉gL ρ M G->a∉M++L/\a∉G:=λa b c=>(λz=>(bf.mp z).elim (λz=>c (oQ.mpr (.inr (z,λy=>b (g6 _ y))))) λz=>b (ba _ z),λz=>c (oQ.mpr (.inl z)))
theorem cL.up(E:∀i∈ρ,i<M.length)(q:cL (Y.z (gL ρ M G)) (mL ρ M++L) H d v):cL (Y.z G) (M++L) H (Tj ρ M.length d) v:=by cases d with|p x=>exact bT.up GI q|r k=>
  have(a,b,c):=q;have ml:=uM E;have f:Tj ρ M.length (.r k)=match ρ[k]? with|some i=>.r i|none=>.r (M.length+(k-ρ.length)):=rfl;rw[f];by_cases g:k<ρ.length;.rw[aZ (by rw[ml.1];exact g),ml.2]at b;cases e:ρ[k]? with|none=>rw[e]at b;cases b|some i=>rw[e]at b;exact(a,by rw[aZ (ak.mp b).1];exact b,c)
  .rw[aM (by rw[ml.1];lia),ml.1]at b;rw[kq (l:=ρ) (by lia)];refine(a,?_,c);rw[aM (by lia),show M.length+(k-ρ.length)-M.length=k-ρ.length by lia];exact b
theorem bY.up(e:∀i∈ρ,i<M.length):∀{ds:List Dv}{vs:List V},bY (Y.z (gL ρ M G)) (mL ρ M++L) H ds vs->bY (Y.z G) (M++L) H (ds.map (Tj ρ M.length)) vs|[],[],_=>trivial|[],_::_,q=>q|_::_,[],q=>q|_::_,_::_,q=>(q.1.up e,bY.up e q.2)
theorem vF.up(E:∀i∈ρ,i<M.length)(q:vF (Y.z (gL ρ M G)) (mL ρ M++L) H a o):vF (Y.z G) (M++L) H a (IW ρ M.length o):=by cases o with|lst x=>have(v,e,q):=q;exact(v,e,aR.up GI q)|du x=>have(v,e,q):=q;exact(v,e,q.up E)|dct k u=>have(b,e,q,Q):=q;exact(b,e,aR.up GI q,aR.up GI Q)|ins C fs=>have(d,f,e,n,c,q):=q;exact(d,f,e,n,by rw[ae];exact c,q.up E)
theorem FF:∀{ρ:List Nat}{os h:Hs},ρ.Nodup->ρ.length<=os.length->(∀i∈ρ,i<h.length)->(QI ρ0 n ρ os h).length=h.length+(os.length-ρ.length)/\∀(j:Nat)o,(QI ρ0 n ρ os h)[j]?=O o->(∃(k:Nat)(o':Ob),ρ[k]?=O j/\os[k]?=O o'/\o=IW ρ0 n o')\/j∉ρ/\h[j]?=O o\/∃o':Ob,h.length<=j/\os[ρ.length+(j-h.length)]?=O o'/\o=IW ρ0 n o'
 |[],os,h,_,_,_=>by
  have s:QI ρ0 n [] os h=h++os.map (IW ρ0 n):=by cases os with|nil=>rw[b8,aI];rfl|cons _ _=>rfl
  rw[s];refine(by rw[aa,ae];rfl,λj o e=>?_);by_cases d:j<h.length;.rw[aZ d]at e;exact .inr (.inl (by simp,e))
  .rw[aM (by lia),bN]at e;cases q:os[j-h.length]? with|none=>rw[q]at e;cases e|some o'=>rw[q]at e;cases e;exact .inr (.inr (o',by lia,by rw[Jl,Nat.zero_add];exact q,rfl))
 |i::r,[],h,_,g,_=>by simp at g|i::r,o1::os,h,p,g,E=>by
  unfold QI;rw[cj]at p;have(a,b):=FF (ρ0:=ρ0) (n:=n) (ρ:=r) (os:=os) (h:=h.set i (IW ρ0 n o1)) p.2 (by simpa using g) (λj d=>by rw[a6];exact E j (ao _ d));rw[a6]at a;refine(by rw[a,ag,ag];lia,λj o e=>?_);rcases b j o e with ⟨k,o',f,c,m⟩|⟨f,c⟩|⟨o',f,c,m⟩;.exact .inl (k+1,o',f,c,m)
  .by_cases d:j=i;.subst d;rw[dc (E j au)]at c;cases c;exact .inl (0,o1,rfl,rfl,rfl)
   .rw[aB (bX d)]at c;exact .inr (.inl (λz=>(aK.mp z).elim d f,c))
  .rw[a6]at f c;refine .inr (.inr (o',f,?_,m));rw[ag,show r.length+1+(j-h.length)=r.length+(j-h.length)+1 by lia,dJ];exact c
theorem bh.up(r:bh (Y.z G) M H h)(m:ρ.Nodup)(E:∀i∈ρ,i<M.length)(e:Ext (mL ρ M) H (mL ρ M++L) H')(r':bh (Y.z (gL ρ M G)) (mL ρ M++L) H' l'):Ext M H (M++L) H'/\bh (Y.z G) (M++L) H' (QI ρ M.length ρ l' h):=by
 have ml:=uM E;have P:(mL ρ M++L).length=l'.length:=r'.ln;rw[aa,ml.1]at P;have ex:Ext M H (M++L) H':=by
  refine((L,rfl),λb o n p=>e.keep b o (λz=>n (yL z)) p,λb p n=>?_);rcases bf.mp p with z|z;.exact absurd z n
  .exact e.new b (ba _ z) λz=>n (yL z)
 have N:∀a∈L,a∉M:=λa A C=>by
  by_cases z:a∈mL ρ M;.exact(de.mp r'.nd).2.2 a z a A rfl
  .have h1:=e.new a (ba _ A) z;have(o,g,_):=r.there C;rw[h1]at g;cases g
 have(a,b):=FF (ρ0:=ρ) (n:=M.length) (ρ:=ρ) (os:=l') (h:=h) m (by lia) (λi s=>by rw[<-r.ln];exact E i s);refine(ex,(de.mpr (r.nd,(de.mp r'.nd).2.1,λx f y D z=>N y D (z▸f)),λx f=>(bf.mp f).elim (r.dj x) λy z=>r'.dj x (ba _ y) (oQ.mpr (.inl z)),by rw[a,aa,<-r.ln];lia,λx f=>r'.gs x (oQ.mpr (.inl f)),λj c o h1 g=>?_));rcases b j o g with ⟨k,t,K,d,rfl⟩|⟨K,d⟩|⟨t,K,d,rfl⟩
 .have v:=E j (a7 K);rw[aZ v]at h1;have F:k<(mL ρ M).length:=by rw[ml.1];exact(ak.mp K).1
  exact(r'.ob k c t (by rw[aZ F,ml.2,K];exact h1) d).up E
 .have v:j<M.length:=by rw[r.ln];exact(ak.mp d).1
  rw[aZ v]at h1;have q:=r.ob j c o h1 d;have I:c∉mL ρ M:=λz=>by have(i,s,w):=nW.mp z;have(l1,Q):=ak.mp h1;have(l2,w):=ak.mp w;have:=(kA r.nd).mp (Q.trans w.symm);exact K (this▸s)
  exact vF.mv (ex.mv r) (λ_ _=>ex.at) (λu hu=>e.keep c u I hu) (λR B=>ex.keep R _ (r.no B rfl) B) q
 .rw[aM (by rw[r.ln];exact K)]at h1;refine(r'.ob (ρ.length+(j-h.length)) c t ?_ d).up E;rw[aM (by rw[ml.1];lia),ml.1,show ρ.length+(j-h.length)-ρ.length=j-M.length by rw[r.ln];lia];exact h1
end
def xq(r:bh (Y.z G) M H h)(i:bY (Y.z G) M H ds vs)(q:Xs ρ C ds h Q x)(out:∀d h' M' H' v,Ext M H M' H'->bh (Y.z G) M' H' h'->cL (Y.z G) M' H' d v->Q d h'->k v H')(b:∀c h' M' H',Ext M H M' H'->bh (Y.z G) M' H' h'->x c h'->EV (.ref (Y.t.ca c)) af H'):iK Y C vs H k EV:=by
 have(c,q):=bq q;rw[aO]at c;have a:=FH c.1;split at q;.exact q.elim
 .rename_i l m;have(n,E):=r.dn a m;refine(gL ρ M G,mL ρ M,l,_,_,_,n,i.dn E c.2,q,λd h' M' H' v e f I g=>?_,λc h' M' H' e f g=>?_);.have(L,rfl):=e.pre;have(j,R):=r.up a E e f;rw[r.ln]at R;have i2:=I.up E;rw[r.ln]at i2;exact out _ _ _ _ v j R i2 g
  .have(L,rfl):=e.pre;have(j,R):=r.up a E e f;rw[r.ln]at R;exact b _ _ _ _ j R g
def MQ(ρ:Ϙ)(C:Ct)(A:Sm):Sm:=λx σ h Q=>A x σ h λds H=>Xs ρ C ds H (λd a=>Q [d] a) x
section
variable{t:Tb}{X:Cx}{E:XK}{e a b c:Expr}{b':List Expr}{A B T:Sm}{pos p:Pos}{ρ:Ϙ}{C:Ct}{k:Nat}{x:Str}{ps:ϐ}
def Nf(h:cA (yx t X) E (MQ ρ C A) τ H n):gB (yx t X) E A τ H λvs o=>iK (yx t X) C vs o n E:=by have(G,M,σ,s,u,Q,k,q):=h;refine(G,M,σ,s,u,_,(k.rel,k.env,λd z F K v e R i y=>?_,k.exc),q);exact xq R i y (λD f m g w j r I l=>k.out D f m g w (e.trans j) r I l) λc f m g j r l=>k.exc c f m g (e.trans j) r l
def Rg(D:oG X.prog X.w X.K X.mg X.base k x ps (iK (yx t X) C))(h:dR k X.A)(H:dZ (o8 X.prog X.w) X E)(g:Gl X x)(d:PA X (a::b') (gB (yx t X) E A))(j:(x==("__debug__":Str))=a')(f:(a::b').all b4):PE X (.Call (.Name x p) (a::b') [] pos) (cA (yx t X) E (MQ ρ C A)):=(yX D h H g d j f).imp λ_ _ _=>Nf
end
def E':Ss:=λN σ h=>N.nx σ h
def Y4(m n:Ss):Ss:=λN σ h=>m (N.sq n) σ h
def UI(m n:Ss):Ss:=λN σ h=>∃R:Es->Hs->Prop,m (N.cu R) σ h/\∀a H,R a H->n N a H
def oD:Ss:=λN σ h=>N.bk σ h
def ru:Ss:=λN σ h=>N.ct σ h
def vu(A:Sm):Ss:=λN σ h=>A N.xc σ h λ_ H=>N.nx σ H
def tz(A:Sm):Ss:=λN σ h=>A N.xc σ h λx H=>match x with|[d]=>N.rt d H|_=>False
def PV(T:Sm)(m n:Ss):Ss:=λN σ h=>T N.xc σ h λx H=>match x with|[.p (.bl b)]=>br b (m N σ H) (n N σ H)|_=>False
noncomputable def RT(i:Nat)(A:Sm):Ss:=λN σ h=>A N.xc σ h λx H=>match x with|[d]=>N.nx (σ.set i (O d)) H|_=>False
def rf:Ϙ->ϑ->Es->Option Es|[],[],σ=>O σ|i::I,x::X,σ=>rf I X (σ.set i (O (.p x)))|_,_,_=>af
def ID(is:Ϙ)(A:Sm):Ss:=λN σ h=>A N.xc σ h λx H=>match x with
 |[.p (.tup y)]=>match rf is y σ with|some a=>N.nx a H|none=>False
 |_=>False
def MU(C:Nat)(A:Sm):Ss:=λN σ h=>A N.xc σ h λ_ H=>N.xc C H
section
variable{t:Tb}{X:Cx}{E:XK}{st:Stmt}{b' sa sb:List Stmt}{e a b c:Expr}{A B T:Sm}{m n:Ss}{pos p:Pos}
def Vc.Pf{D:kF}{M M':List Addr}{σ:Es}{h:Hs}{N:En}(k:Vc Z E τ H D M σ h N)(e:Ext M H M' H'):∀C d f H1,Ext M' H' f H1->bh Z f H1 d->N.xc C d->E (.ref (Z.ca C)) af H1:=λC d f H1 x r q=>k.exc C d f H1 (e.trans x) r q
def Vc.go{H H':Hp}{D:kF}{M M':List Addr}{σ σ':Es}{h h':Hs}{N:En}(k:Vc Z E τ H D M σ h N)(e:Ext M H M' H')(r:bh Z M' H' h')(v:cV Z M' H' σ' d):Vc Z E d H' D M' σ' h' N:=(r,v,λ_ _ _ _ _ x=>k.nx _ _ _ _ _ (e.trans x),λ_ _ _ _ _ x=>k.rt _ _ _ _ _ (e.trans x),λ_ _ _ _ _ x=>k.bk _ _ _ _ _ (e.trans x),λ_ _ _ _ _ x=>k.ct _ _ _ _ _ (e.trans x),k.Pf e)
def Rq:oH X [] (eI (yx t X) E E'):=Ga.imp λD τ H (G,M,σ,h,N,k,q)=>k.nx σ h M H τ Ext.refl k.rel k.env q
def Y7(h:eI (yx t X) E (Y4 m n) D τ H):Lr (eI (yx t X) E m) (eI (yx t X) E n) D τ H:=by have(G,M,σ,h,N,k,q):=h;exact(G,M,σ,h,N.sq n,(k.rel,k.env,λd f g j i e r v q=>(G,g,d,f,N,k.go e r v,q),k.rt,k.bk,k.ct,k.exc),q)
def Mh(h:PS X st (eI (yx t X) E m))(H:oH X b' (eI (yx t X) E n)):oH X (st::b') (eI (yx t X) E (Y4 m n)):=(qf h H).imp λ_ _ _=>Y7
def Ro(f:PS X st (eI (yx t X) E m))(g:oH X b' (eI (yx t X) E n)):oH X (st::b') (eI (yx t X) E (UI m n)):=(qf f g).imp λD τ H (G,M,σ,h,N,k,R,q,i)=>(G,M,σ,h,N.cu R,(k.rel,k.env,λd j l s o e r v q=>(G,l,d,j,N,k.go e r v,i _ _ q),k.rt,k.bk,k.ct,k.exc),q)
def Rr(h:PS X st (eI (yx t X) E m)):oH X [st] (eI (yx t X) E m):=qg h
def Yw:PS X (.Break pos) (eI (yx t X) E oD):=Mx.imp λD τ H (G,M,σ,h,N,k,q)=>k.bk σ h M H τ Ext.refl k.rel k.env q
def Yx:PS X (.Continue pos) (eI (yx t X) E ru):=A8.imp λD τ H (G,M,σ,h,N,k,q)=>k.ct σ h M H τ Ext.refl k.rel k.env q
def Yy(f:PE X e (cA (yx t X) E A))(s:gt e af pos.line X.env=pure a'):PS X (.Expr e pos) (eI (yx t X) E (vu A)):=(RE f s).imp λD τ H (G,M,σ,h,N,k,q)=>(G,M,σ,h,N.xc,_,(k.rel,k.env,λd g j l v e r i q=>k.nx σ g j l τ e r (k.env.ext k.rel e) q,k.exc),q)
def Rt(f:PE X e (cA (yx t X) E A)):PS X (.Return (O e) pos) (eI (yx t X) E (tz A)):=(y6 f).imp λD τ H (G,M,σ,h,N,k,q)=>(G,M,σ,h,N.xc,_,(k.rel,k.env,λd g j l v e r i q=>k.rt d g j l v e r i q,k.exc),q)
def Yz(j:PT X c (jm (yx t X) E T))(l:oH X sa (eI (yx t X) E m))(o:oH X sb (eI (yx t X) E n)):PS X (.If c sa sb pos) (eI (yx t X) E (PV T m n)):=(Uu j l o).imp λD τ H (G,M,σ,h,N,k,q)=>by
 refine(G,M,σ,h,N.xc,_,(k.rel,k.env,λd g i s e r Q=>?_,k.exc),q);split at Q;.rename_i b f;injection f with f;refine(b,f,?_);cases b with|true=>exact(G,i,σ,g,N,k.go e r (k.env.ext k.rel e),Q)|false=>exact(G,i,σ,g,N,k.go e r (k.env.ext k.rel e),Q)
 .exact Q.elim
def Ru(s:∀f,PE X e f->PS X st (zp f (mG i)))(g:PE X e (cA (yx t X) E A)):PS X st (eI (yx t X) E (RT i A)):=(s _ g).imp λD τ H (G,M,σ,h,N,k,q)=>(G,M,σ,h,N.xc,_,(k.rel,k.env,λd j l o v e r i q=>k.nx _ j l o _ e r ((k.env.ext k.rel e).set i) q,k.exc),q)
def Kp:Ϙ->Th|[]=>ub|i::I=>TC (mG i) (Kp I)
theorem B2:∀{is:Ϙ}{ys:ϑ}{vs:ϕ}{σ σ':Es}{τ:tSt},rf is ys σ=O σ'->aR Z M H ys vs->cV Z M H σ τ->(∀f,cV Z M H σ' f->R f H)->Kp is vs τ H R|[],[],[],σ,σ',τ,e,_,v,q=>by cases e;exact(rfl,q τ v)|[],[],_::_,_,_,_,_,h,_,_=>by unfold aR at h;exact h.elim|[],_::_,_,_,_,_,e,_,_,_=>by cases e|_::_,[],_,_,_,_,e,_,_,_=>by cases e|_::_,_::_,[],_,_,_,_,h,_,_=>by unfold aR at h;exact h.elim|i::is,y::ys,w::vs,σ,σ',τ,e,h,v,q=>by unfold aR at h;exact(w,vs,rfl,B2 (is:=is) (ys:=ys) e h.2 (v.set (i:=i) (d:=.p y) h.1) q)
theorem aR.len:∀{ys:ϑ}{vs:ϕ},aR Z M H ys vs->ys.length=vs.length|[],[],_=>rfl|[],_::_,h=>by unfold aR at h;exact h.elim|_::_,[],h=>by unfold aR at h;exact h.elim|_::_,_::_,h=>by unfold aR at h;rw[ag,ag,aR.len h.2]
theorem o5:∀{is:Ϙ}{ys:ϑ}{σ σ':Es},rf is ys σ=O σ'->ys.length=is.length|[],[],_,_,_=>rfl|[],_::_,_,_,e=>by cases e|_::_,[],_,_,e=>by cases e|_::is,_::ys,_,_,e=>by rw[ag,ag,o5 (is:=is) (ys:=ys) e]
def Rv(u:∀o,PE X e o->PS X st (zp o (Wn X.K is.length (Kp is))))(w:PE X e (cA (yx t X) E A)):PS X st (eI (yx t X) E (ID is A)):=(u _ w).imp λD τ H (G,M,σ,h,N,k,q)=>by
 refine(G,M,σ,h,N.xc,_,(k.rel,k.env,λd x y z v e r i q=>?_,k.exc),q);split at q
 .rename_i Y g;injection g with g;subst g;split at q;.rename_i j f;unfold cL bT at i;have(a,C,rfl,s,i):=i;refine(a,C,rfl,s,by rw[<-i.len];exact o5 f,?_);exact B2 f i (k.env.ext k.rel e) λl v=>k.nx j x y z l e r v q
  .exact q.elim
 .exact q.elim
def Ij(s:∀f,PE X e f->PS X st (Nm E (t.ca C) f))(g:PE X e (cA (yx t X) E A)):PS X st (eI (yx t X) E (MU C A)):=(s _ g).imp λD τ H (G,M,σ,h,N,k,q)=>(G,M,σ,h,N.xc,_,(k.rel,k.env,λd j l o v e r i q=>k.exc C j l o e r q,k.exc),q)
end
abbrev Im:=XP->Es->Hs->(ϑ->Hs->Prop)->Prop
inductive Tg where|one(i:Nat)|many(is:Ϙ)
def ZZ:Tg->Pv->Es->Option Es|.one i,x,σ=>O (σ.set i (O (.p x)))|.many I,.tup y,σ=>rf I y σ|.many _,_,_=>af
def Z9(K:Frag):Tg->TG|.one i=>mG i|.many is=>Wn K is.length (Kp is)
def Wq(e:ZZ tg x σ=O σ')(i:bT Z M H x v)(r:cV Z M H σ τ)(q:∀b,cV Z M H σ' b->R b H):Z9 Z.K tg v τ H R:=by cases tg with|one j=>cases e;exact q _ (r.set (d:=.p x) i)|many I=>cases x with|tup y=>unfold bT at i;have(a,c,rfl,s,i):=i;exact(a,c,rfl,s,by rw[<-i.len];exact o5 e,B2 e i r q)|_=>cases e
def Te(Y:T0)(G:List Addr)(M:List Addr)(H:Hp)(j:It)(xs:ϑ):Prop:=∀g m h c,(∀b∈g,b∈G\/H b=af)->Ext M H m h->bh (Y.z g) m h c->(∀(i:Nat)x,xs[i]?=O x->j.go i h/\∀v a,j.yld i h v a->Ext m h m a/\bh (Y.z g) m a c/\bT (Y.z g) m a x v)/\j.stop xs.length h
structure KnI(Y:T0)(G:List Addr)(E:XK)(τ:tSt)(H:Hp)(R:It->Hp->Prop)(M:List Addr)(σ:Es)(h:Hs)(xc:XP)(Q:ϑ->Hs->Prop):Prop where
 rel:bh (Y.z G) M H h
 env:cV (Y.z G) M H σ τ
 out:∀xs h' M' H' a,Ext M H M' H'->bh (Y.z G) M' H' h'->Te Y G M' H' a xs->xs.length<=sizeLine->Q xs h'->R a H'
 exc:∀C h' M' H',Ext M H M' H'->bh (Y.z G) M' H' h'->xc C h'->E (.ref (Y.t.ca C)) af H'
inductive zr(Y:T0)(E:XK)(m:Im)(τ:tSt)(H:Hp)(R:It->Hp->Prop):Prop|mk(G M:List Addr)(σ:Es)(h:Hs)(xc:XP)(Q:_)(k:KnI Y G E τ H R M σ h xc Q)(q:m xc σ h Q):zr Y E m τ H R
def JZ(k:Nat)(R:Es->Hs->Prop):Es->Hs->Prop:=λσ h=>gd (bH k (h.take k)) (R (OR k σ) (h.take k))
@[irreducible]def Px(k:Nat)(xs:ϑ)(a:Pv->Es->Option Es)(b:Ss)(N:En)(σ:Es)(h:Hs):Prop:=∃W:Nat->Es->Hs->Prop,W 0 σ h/\(∀(i:Nat)x c H,xs[i]?=O x->W i c H->match a x c with|some d=>b (N.lp (JZ k (W (i+1))) (JZ k N.nx)) d H|none=>False)/\∀c H,W xs.length c H->N.nx c H
def wf(tg:Tg)(I:Im)(b:Ss):Ss:=λN σ h=>I N.xc σ h λx H=>Px H.length x (ZZ tg) b N σ H
section
variable{t:Tb}{X:Cx}{E:XK}{st:Stmt}{A T:Sm}{I:Im}{b:Ss}{tg:Tg}
def Cp(d:bh Z M H h)(e:Ext M H M' H')(r:bh Z M' H' h')(v:cV Z M' H' σ τ)(q:JZ h.length R σ h'):∃h2 a,Ext M H M H'/\bh Z M H' h2/\cV Z M H' a τ/\R a h2:=by
 have(c,q):=bq q;have f:M'.take h.length=M:=by have(l,rfl):=e.pre;rw[<-d.ln,Od]
 have e2:=e.cut (k:=h.length) (by rw[d.ln];exact ay _);have r2:=r.cut h.length c;have v2:=v.cut r h.length;rw[f]at e2 r2 v2;exact(_,_,e2,r2,v2,q)
def Wh(h:eI (yx t X) E (wf tg I b) D τ H):Sd (zr (yx t X) E I) (Z9 X.K tg) (eI (yx t X) E b) D τ H:=by
 have(G,M,σ,h0,N,k,q):=h;refine(G,M,σ,h0,N.xc,_,(k.rel,k.env,λx h1 c H1 j L r1 jo hz q=>?_,k.exc),q);unfold Px at q;have(W,w0,P,fin):=q;refine(λi m n u=>m=x.length-i/\i<=x.length/\∃a e,Ext c H1 c u/\bh ((yx t X).z G) c u e/\cV ((yx t X).z G) c u a n/\W i a e,(_,rfl,bA _,σ,h1,Ext.refl,r1,k.env.ext k.rel L,w0),?_);rintro i _ n u ⟨rfl,hi,a,e,e2,r2,v2,w⟩;have(ja,jb):=jo G c u e (λ_ z=>.inl z) e2 r2;by_cases nB:i<x.length
 .have(g,y):=ja i x[i] (aN nB);refine .inr (g,λo H2=>∃m',m'<x.length-i/\m'=x.length-(i+1)/\i+1<=x.length/\∃a e,Ext c H1 c H2/\bh ((yx t X).z G) c H2 e/\cV ((yx t X).z G) c H2 a o/\W (i+1) a e,λo H2 (m',hm,z)=>(m',hm,z),λv mj yl=>?_);have(e3,r3,ip):=y v mj yl;have q:=P i x[i] a e (aN nB) w;split at q
  .rename_i σ2 hσ;refine Wq hσ ip (v2.ext r2 e3) λo v4=>?_;have R:=e2.trans e3;refine(G,c,σ2,e,_,(r3,v4,?_,?_,?_,?_,?_),q);.intro S B F p s l r U Q;have(Y,f,Z,r6,v6,q6):=Cp r1 (R.trans l) r U Q;exact(_,by lia,rfl,by lia,f,Y,Z,r6,v6,q6)
   .exact λd B F p v l r i5 Q=>k.rt d B F p v (L.trans (R.trans l)) r i5 Q
   .intro S B F p s l r U Q;have(Y,f,Z,r6,v6,q6):=Cp r1 (R.trans l) r U Q;exact k.nx f Y c p s (L.trans Z) r6 v6 q6
   .intro S B F p s l r U Q;have(Y,f,Z,r6,v6,q6):=Cp r1 (R.trans l) r U Q;exact(_,by lia,rfl,by lia,f,Y,Z,r6,v6,q6)
   .exact λC B F p l r Q=>k.exc C B F p (L.trans (R.trans l)) r Q
  .exact q.elim
 .have hx:i=x.length:=by lia
  subst hx;exact .inl (jb,k.nx a e c u n (L.trans e2) r2 v2 (fin a e w))
section
variable{Z:Tx}{M:List Addr}{H:Hp}
theorem aR.get:∀{xs:ϑ}{vs:ϕ}{i:Nat}{x:Pv},aR Z M H xs vs->xs[i]?=O x->∃v,vs[i]?=O v/\bT Z M H x v|[],_,_,_,_,e=>by simp at e|_::_,[],_,_,h,_=>by unfold aR at h;exact h.elim|_::_,v::_,0,_,h,e=>by unfold aR at h;cases e;exact(v,rfl,h.1)|_::_,_::_,i+1,_,h,e=>by unfold aR at h;have(w,a,c):=aR.get (i:=i) h.2 (by simpa using e);exact(w,by simpa using a,c)
end
section
variable{Y:T0}{G M:List Addr}{H:Hp}
def UY{G':List Addr}(g:∀b∈G',b∈G\/H b=af):∀a,a∈M\/a∈G'->a∈M\/a∈G\/H a=none:=λa h=>h.elim .inl λz=>.inr (g a z)
def bT.wk(g:∀b∈G',b∈G\/H b=af)(h:bT (Y.z G) M H x v):bT (Y.z G') M H x v:=bT.fr (UY g) h
def aR.wk(g:∀b∈G',b∈G\/H b=af)(h:aR (Y.z G) M H x v):aR (Y.z G') M H x v:=aR.fr (UY g) h
def aaZ(r:bh (Y.z G) M H h)(n:a∉M)(s:Rd H a (.lst vs))(q:aR (Y.z G) M H xs vs):Te Y G M H (j0 Y.K a) xs:=λl m d o g e R=>by have S:jd Y.K d a vs:=.inl ((e.mv r).rd n s);have q':=aR.mv (e.mv r) (aR.wk g q);refine(λi x f=>?_,(vs,S,by rw[q.len];exact ay _));have(v,c,j):=q'.get f;refine((vs,v,S,c),λw p (k,y)=>?_);subst k;have hw:=y vs S;rw[c]at hw;cases hw;exact(Ext.refl,R,j)
def aa3(r:bh (Y.z G) M H h)(s:fK Y.K H a vs)(q:aR (Y.z G) M H xs vs):Te Y G M H (ot Y.K a) xs:=λl m d n g e R=>by have S:fK Y.K d a vs:=(e.mv r).sqT s;have q':=aR.mv (e.mv r) (aR.wk g q);refine(λi x f=>?_,(vs,S,by rw[q.len];exact ay _));have(v,c,j):=q'.get f;refine((vs,v,S,c),λw o (k,y)=>?_);subst k;have hw:=y vs S;rw[c]at hw;cases hw;exact(Ext.refl,R,j)
def lJ(lo:Int)(n:Nat):ϑ:=(ac7 n).map λ(i:Nat)=>.int (lo+i)
def aa0{lo:Int}:Te Y G M H (kT lo n) (lJ lo n):=λg m d f j e r=>by
 refine(λi x h=>?_,show n<=(lJ lo n).length by unfold lJ;rw[ae,cP];exact ay _);unfold lJ at h;rw[bN]at h;by_cases a:i<n;.rw[xC a]at h;cases h;refine(a,λw k (c,y)=>?_);subst c y;exact(Ext.refl,r,by unfold bT;rfl)
 .rw[kq (by rw[cP];lia)]at h;cases h
end
def gC(n:Nat)(s:Ϙ)(σ:Es):Es:=aa5 n af++s.map λj=>σ[j]?.join
noncomputable def OW(k:Nat)(R:Hs->Prop):Hs->Prop:=λh=>gd (bH k (h.take k)) (R (h.take k))
def Sy(n:Nat):Tg->Bool|.one i=>decide (i<n)|.many is=>is.all λi=>decide (i<n)
@[irreducible]def Cf(H:Hs)(xs:ϑ)(e:Pv->Option Es)(T A:Es->Hs->KP->Prop)(Q:ϑ->Hs->Prop):Prop:=∃W:Nat->ϑ->Hs->Prop,W 0 [] H/\(∀(i:Nat)y a h,xs[i]?=O y->W i a h->match e y with
  |some c=>T c h λbs d=>match bs with|[.p (.bl b)]=>br b (A c d λY f=>match Y with|[.p y]=>OW H.length (W (i+1) (a++[y])) f|_=>False) (OW H.length (W (i+1) a) d)|_=>False
  |none=>False)/\∀a h,W xs.length a h->Q a h
def Gh(n:Nat)(j:Ϙ)(tg:Tg)(I:Im)(T A:Sm)(x:Bool):Sm:=λa σ h Q=>I a σ h λs H=>Cf H s (λy=>ZZ tg y (gC n j σ)) (T λc h=>x=J/\a c h) (A λc h=>x=J/\a c h) λd e=>Q [.p (.lst d)] e
theorem xp:∀{is:Ϙ}{ys:ϑ}{σ σ':Es},(is.all λi=>decide (i<n))=J->rf is ys σ=O σ'->σ'.length=σ.length/\∀i,n<=i->σ'[i]?=σ[i]?|[],[],_,_,_,e=>by cases e;exact(rfl,λ_ _=>rfl)|[],_::_,_,_,_,e=>by cases e|_::_,[],_,_,_,e=>by cases e|j::is,y::ys,σ,σ',h,e=>by rw[aG,aO]at h;have(a,b):=xp (is:=is) (ys:=ys) h.2 e;refine(by rw[a,a6],λi H=>?_);have c:j<n:=aW h.1;rw[b i H,aB (by lia)]
def Vq(h:Sy n tg)(e:ZZ tg x σ=O σ'):σ'.length=σ.length/\∀i,n<=i->σ'[i]?=σ[i]?:=by cases tg with|one j=>cases e;have H:j<n:=aW h;exact(by rw[a6],λi a=>by rw[aB (by lia)])|many s=>cases x with|tup y=>exact xp h e|_=>cases e
def Ab(v:cV Z M H σ τ)(n:Nat)(s:Ϙ):cV Z M H (gC n s σ) (pJ n s τ):=by
 refine(by unfold gC pJ;rw[aa,aa,ae,ae,bR,bR],λi d h=>?_);unfold gC at h;unfold pJ;by_cases c:i<n;.rw[aZ (by rw[bR];exact c),fB,bI c]at h;cases h
 .rw[aM (by rw[bR];lia),bR,bN]at h⊢;cases e:s[i-n]? with|none=>rw[e]at h;cases h|some j=>rw[e]at h;cases a:σ[j]? with|none=>rw[sR,a]at h;cases h|some o=>
    rw[sR,a]at h;have f:o=O d:=by simpa using h
    subst f;have(w,g,k):=v.at' j d a;exact(w,by rw[sR,g];rfl,k)
def qL(l:a.length=(gC n j σ).length)(g:∀i,n<=i->a[i]?=(gC n j σ)[i]?)(v:cV Z M H a τ2):cV Z M H (gC n j σ) τ2:=by
 refine(l▸v.ln,λi d h=>?_);by_cases c:i<n;.unfold gC at h;rw[aZ (by rw[bR];exact c),fB,bI c]at h;cases h
 .exact v.at' i d (by rw[g i (by lia)];exact h)
section
variable{Y:T0}{G M:List Addr}{H:Hp}{a:Addr}{h:Hs}
def MH{b:Addr}(d:H a=O o)(c:b≠a)(r:Rd H b u):Rd (dv H a o') b u:=by
 rcases r with r|⟨q,r⟩;.exact .inl (by rw[bJ c];exact r)
 .exact .inr (q,by rw[bJ c];exact r)
def R6{K:Frag}{b:Addr}(d:yM o)(c:H a=O o)(s:fK K H b vs):fK K (dv H a o') b vs:=by
 rcases s with r|r;.refine .inl (MH c (λz=>?_) r);subst z;rcases r with r|⟨o,r⟩<;>rw[c]at r<;>cases r<;>cases d
 .exact .inr r
mutual
theorem bT.chg{o o':HO}(f:yM o)(c:a∈G)(d:H a=O o):∀{x:Pv}{v:V},bT (Y.z G) M H x v->bT (Y.z G) M (dv H a o') x v
 |.non,_,h=>by unfold bT at*;exact h|.bl _,_,h=>by unfold bT at*;exact h|.int _,_,h=>by unfold bT at*;exact h|.str _,_,h=>by unfold bT at*;exact h|.fn _,_,h=>by unfold bT at*;exact h|.ty _,_,h=>by unfold bT at*;exact h|.tup xs,_,h=>by unfold bT at*;have(b,vs,e,s,q):=h;exact(b,vs,e,R6 f d s,aR.chg f c d q)|.lst xs,_,h=>by unfold bT at*;have(b,vs,e,n,s,q):=h;exact(b,vs,e,n,by rw[bJ λz:b=a=>n.2 (z▸c)];exact s,aR.chg f c d q)|.scr xs,_,h=>by
  unfold bT at*;have(b,vs,e,s,q):=h;rcases s with ⟨n,s⟩|s;.exact(b,vs,e,.inl (n,MH d (λz=>n.2 (z▸c)) s),aR.chg f c d q)
  .exact(b,vs,e,.inr s,aR.chg f c d q)|.dct ks us,_,h=>by unfold bT at*;have(b,B,e,n,s,q,Q):=h;exact(b,B,e,n,by rw[bJ λz:b=a=>n.2 (z▸c)];exact s,aR.chg f c d q,aR.chg f c d Q)|.obj C fs,_,h=>by unfold bT at*;have(b,D,fv,e,n,s,l,q):=h;exact(b,D,fv,e,n,by rw[bJ λz:b=a=>n.2 (z▸c)];exact s,l,aR.chg f c d q)theorem aR.chg{o o':HO}(f:yM o)(c:a∈G)(d:H a=O o):∀{xs:List Pv}{vs:List V},aR (Y.z G) M H xs vs->aR (Y.z G) M (dv H a o') xs vs|[],[],h=>by unfold aR at*;trivial|[],_::_,h=>by unfold aR at*;exact h|_::_,[],h=>by unfold aR at*;exact h|x::xs,v::vs,h=>by unfold aR at*;exact(bT.chg f c d h.1,aR.chg f c d h.2)end
theorem cL.chg(c:yM o)(e:a∈G)(f:H a=O o)(q:cL (Y.z G) M H d v):cL (Y.z G) M (dv H a o') d v:=by cases d with|p x=>exact bT.chg c e f q|r i=>exact q
theorem bY.chg(c:yM o)(d:a∈G)(e:H a=O o):∀{ds:List Dv}{vs:List V},bY (Y.z G) M H ds vs->bY (Y.z G) M (dv H a o') ds vs|[],[],_=>trivial|[],_::_,q=>q|_::_,[],q=>q|_::_,_::_,q=>(q.1.chg c d e,bY.chg c d e q.2)
theorem cV.chg(c:yM o)(e:a∈G)(f:H a=O o)(q:cV (Y.z G) M H σ τ):cV (Y.z G) M (dv H a o') σ τ:=(q.ln,λi d g=>let (v,j,q):=q.at' i d g;(v,j,q.chg c e f))
theorem bh.chg(c:yM o)(g:a∈G)(d:H a=O o)(N:a∉M)(r:bh (Y.z G) M H h):bh (Y.z G) M (dv H a o') h:=by refine(r.nd,r.dj,r.ln,λb f=>qm (r.gs b f),λi b Q j k=>?_);have f:b≠a:=λz=>N (z▸a7 j);have q:=r.ob i b Q j k;cases Q with|lst x=>have(v,e,q):=q;exact(v,by rw[bJ f];exact e,aR.chg c g d q)|du x=>have(v,e,q):=q;exact(v,by rw[bJ f];exact e,q.chg c g d)|dct K u=>have(B,e,q,m):=q;exact(B,by rw[bJ f];exact e,aR.chg c g d q,aR.chg c g d m)|ins C fs=>have(D,F,e,n,l,q):=q;exact(D,F,by rw[bJ f];exact e,by rw[bJ λz=>by rw[z,d]at n;cases n;cases c];exact n,l,q.chg c g d)
theorem cL.wk(g:∀b∈G',b∈G\/H b=af)(q:cL (Y.z G) M H d v):cL (Y.z G') M H d v:=by cases d with|p x=>exact bT.wk g q|r i=>exact q
theorem bY.wk(g:∀b∈G',b∈G\/H b=af):∀{ds:List Dv}{vs:List V},bY (Y.z G) M H ds vs->bY (Y.z G') M H ds vs|[],[],_=>trivial|[],_::_,q=>q|_::_,[],q=>q|_::_,_::_,q=>(q.1.wk g,bY.wk g q.2)
theorem vF.wk(g:∀b∈G',b∈G\/H b=af){b:Addr}(z:vF (Y.z G) M H b o):vF (Y.z G') M H b o:=by cases o with|lst x=>have(v,e,q):=z;exact(v,e,aR.wk g q)|du x=>have(v,e,q):=z;exact(v,e,q.wk g)|dct k u=>have(B,e,q,Q):=z;exact(B,e,aR.wk g q,aR.wk g Q)|ins C fs=>have(d,f,e,n,l,q):=z;exact(d,f,e,n,l,q.wk g)
theorem yD(n:H a=af):∀b∈a::G,b∈G\/H b=none:=λb c=>(aK.mp c).elim (λz=>.inr (z▸n)) .inl
theorem CZ:∀b∈G,b∈a::G\/H b=none:=λb c=>.inl (ao _ c)
theorem cV.V_(n:H a=af)(r:bh (Y.z G) M H h)(q:cV (Y.z G) M H σ τ):cV (Y.z (a::G)) M (dv H a o) σ τ:=(q.ln,λi d c=>let (v,e,q):=q.at' i d c;(v,e,(q.wk (yD n)).mv ((Ext.add n).mv r) λ_ _ z=>z))
theorem bh.V_(n:H a=af)(r:bh (Y.z G) M H h):bh (Y.z (a::G)) M (dv H a o) h:=by
 have r2:=r.add (o:=o) n;refine(r.nd,λb c z=>(aK.mp z).elim (λz=>r.fresh n (z▸c)) (r.dj b c),r.ln,λb c=>?_,λi b q d f=>?_)
 .rcases aK.mp c with z|z;.subst z;exact(o,bQ)
  .exact r2.gs b z
 .have k:∀{b u},H b=O u->dv H a o b=O u:=λe=>by rw[bJ (bV e n)];exact e
  exact vF.mv ((Ext.add (M:=M) (o:=o) n).mv r) (λ_ _ z=>z) (λ_=>k) (λ_=>k) ((r.ob i b q d f).wk (yD n))
theorem bh.dun(r:bh (Y.z (a::G)) M H h):bh (Y.z G) M H h:=(r.nd,λb c z=>r.dj b c (ao _ z),r.ln,λb c=>r.gs b (ao _ c),λi b q d e=>(r.ob i b q d e).wk CZ)
theorem aR.app:∀{xs ys:List Pv}{vs ws:List V},aR Z M H xs vs->aR Z M H ys ws->aR Z M H (xs++ys) (vs++ws)|[],_,[],_,_,q=>q|[],_,_::_,_,h,_=>by unfold aR at h;exact h.elim|_::_,_,[],_,h,_=>by unfold aR at h;exact h.elim|_::_,_,_::_,_,h,q=>by unfold aR at h;rw[hJ,hJ];unfold aR;exact(h.1,aR.app h.2 q)
theorem aR.one(h:bT Z M H x v):aR Z M H [x] [v]:=by unfold aR;exact(h,by unfold aR;trivial)
end
def wO(g:cV Z M e (gC n s σ) c)(l:cV Z m H a τ4)(G:a.length=(gC n s σ).length)(o:∀i,n<=i->a[i]?=(gC n s σ)[i]?)(R:bh Z m H f)(q:k=M.length)(y:m.take k=M):cV Z M H (gC n s σ) τ4:=by have v:=qL G o l;refine(v.ln,λi d h=>?_);have(w,B,C):=v.at' i d h;refine(w,B,?_);have(u,_,D):=g.at' i d h;have z:=C.cut R (k:=k) (by cases d with|p x=>rfl|r j=>have(b,F,_):=D;exact a9 (q▸(ak.mp F).1));rw[y]at z;exact z
def ya(hE:∀c H,x=J->E (.ref c) af H->E1 (.ref c) af H)(ht:Sy n tg)(h:cA (yx t X) E (Gh n js tg I T A x) τ H QV):vn (zr (yx t X) E I) (Z9 X.K tg) (jm (yx t X) E1 T) (cA (yx t X) E1 A) (pJ n js) τ H QV:=by
 have(G,M,σ,h0,xc,Q,k,q):=h;refine(G,M,σ,h0,xc,_,(k.rel,k.env,λs e M1 H1 j e1 R jo hz q=>?_,k.exc),q);unfold Cf at q;have(W,w0,turn,fin):=q;intro a U;have(N,naG):=R.oO U;have ea:Ext M1 H1 M1 (dv H1 a (.lst [])):=Ext.add U;have v1:=k.env.ext k.rel e1;let Z:Tx:=(yx t X).z (a::G);have TV:a∈a::G:=au;refine(λi m τ2 ys u=>m=s.length-i/\i<=s.length/\u a=O (.lst ys)/\ys.length<=i/\∃p B,Ext M1 H1 M1 u/\bh Z M1 u B/\cV Z M1 u (gC n js σ) τ2/\aR Z M1 u p ys/\W i p B,(_,rfl,bA _,bQ,bA _,[],e,ea,R.V_ U,(Ab v1 n js).V_ U R,by unfold aR;trivial,w0),?_);rintro i _ τ2 ys u ⟨rfl,hi,ha,hly,p,B,e2,r2,v2,p2,w⟩;refine(ha,?_);have(ja,jb):=jo (a::G) M1 u B (yD U) e2 r2;by_cases nB:i<s.length
 .have(g,y):=ja i s[i] (aN nB);refine .inr (g,by lia,λv mj yl=>?_);have(P,S,ip):=y v mj yl;have q:=turn i s[i] p B (aN nB) w;split at q
  .rename_i σ2 hσ;have(gl,gg):=Vq ht hσ;refine Wq (Z:=Z) hσ ip (v2.ext r2 P) λτ4 v4=>?_;have ex:∀{D F},Ext M1 mj D F->∀C wa Oi Jw,Ext D F Oi Jw->bh Z Oi Jw wa->x/\xc C wa->E1 (.ref (t.ca C)) af Jw:=λf C wa Oi Jw x' r q=>hE _ _ q.1 (k.exc C wa Oi Jw ((e1.trans (e2.trans P)).trans (f.trans x')) r.dun q.2);have ka:∀{D F},Ext M1 mj D F->F a=O (.lst ys):=λf=>f.keep a _ N (P.keep a _ N ha);have p3:=p2.ext r2 P;refine(a::G,M1,σ2,B,_,_,(S,v4,λd h5 D F f r5 q5=>?_,ex Ext.refl),q);split at q5
   .rename_i b L;injection L with L;refine(b,L,?_)
    cases b with|true=>
     rw[bI rfl];refine(a::G,D,σ2,h5,_,_,(r5,v4.ext S f,λd6 h6 M6 H6 v6 e6 r6 i6 q6=>?_,ex f),q5);split at q6
     .rename_i y hy;injection hy with hy;subst hy;have Pb:=f.trans e6;have Qx:=ka Pb;refine(Qx,s.length-(i+1),by lia,rfl,by lia,bQ,by rw[aa];simp;lia,?_);have Pa:=(e2.trans P).trans Pb;have(c,q7):=bq q6;have Y:M6.take e.length=M1:=by have(l,rfl):=Pa.pre;rw[<-R.ln,Od]
      have r7:=r6.cut e.length c;have i7:bT Z (M6.take e.length) H6 y v6:=bT.mv (Mv.cut r6 e.length) i6;have v7:=wO v2 (v4.ext S Pb) gl gg r6 R.ln.symm Y;have p7:aR Z (M6.take e.length) H6 p ys:=aR.mv (Mv.cut r6 e.length) (p3.ext S Pb);rw[Y]at r7 i7 p7;have e7:=Pa.cut (k:=e.length) (by rw[R.ln];exact ay _);rw[Y]at e7;refine(p++[y],_,(([],(aI M1).symm),λb o L ho=>?_,λb L hn=>absurd L hn),r7.chg rfl TV Qx N,?_,(p7.app (aR.one i7)).chg rfl TV Qx,q7);.rw[bJ (bV ho U)];exact e7.keep b o L ho
      .exact v7.chg rfl TV Qx
     .exact q6.elim|false=>
     rw[bL aL];refine(s.length-(i+1),by lia,rfl,by lia,ka f,by lia,?_);have Pa:=(e2.trans P).trans f;have(c,q7):=bq q5;have Y:D.take e.length=M1:=by have(l,rfl):=Pa.pre;rw[<-R.ln,Od]
     have r7:=r5.cut e.length c;have v7:=wO v2 (v4.ext S f) gl gg r5 R.ln.symm Y;have p7:aR Z (D.take e.length) F p ys:=aR.mv (Mv.cut r5 e.length) (p3.ext S f);have e7:=Pa.cut (k:=e.length) (by rw[R.ln];exact ay _);rw[Y]at r7 p7 e7;exact(p,_,e7,r7,v7,p7,q7)
   .exact q5.elim
  .exact q.elim
 .have hx:i=s.length:=by lia
  subst hx;refine .inl (jb,k.out _ B M1 u (.ref a) (e1.trans e2) r2.dun ?_ (fin p B w));unfold cL bT;exact(a,ys,rfl,(N,naG),ha,aR.wk CZ p2)
end
end F
namespace F
open L2 PySem.SeqAt
noncomputable def oX:Ϙ->Ϙ->Bool|[],[]=>J|a::x,b::y=>aa6 a b&&oX x y|_,_=>a'
def aS(a b:Str):Bool:=oX a.cps.toList b.cps.toList
theorem uO:∀{x y:Ϙ},oX x y=J↔x=y|[],[]=>by simp[oX]|[],_::_=>by simp[oX]|_::_,[]=>by simp[oX]|a::x,b::y=>by simp only[oX,aO,Nat.beq_eq,uO (x:=x) (y:=y),List.cons.injEq]
def aQ:aS a b=J↔a=b:=by
 unfold aS;rw[uO];constructor;.intro h;cases a with|mk a=>cases b with|mk b=>exact cy Str.mk (Array.toList_inj.mp h)
 .intro h;rw[h]
def nQ(a b:Str):(a==b)=aS a b:=by
 by_cases h:a=b;.rw[aQ.mpr h,h];exact fI b
 .have H:aS a b=false:=a8.mpr λz=>h (aQ.mp z);rw[H];exact b3.mpr h
def N5(neg b:Bool):Bool:=match neg with|true=>!b|false=>b
def Dr(neg b:Bool):N5 neg b=(neg !=b):=by cases neg<;>cases b<;>rfl
noncomputable def jT:Int->Int->Bool|.ofNat a,.ofNat b=>aa6 a b|.negSucc a,.negSucc b=>aa6 a b|_,_=>a'
noncomputable def ic:Int->Int->Bool|.ofNat a,.ofNat b=>aa4 a b|.negSucc _,.ofNat _=>J|.negSucc a,.negSucc b=>aa4 b a|.ofNat _,.negSucc _=>a'
noncomputable def jv:Int->Int->Bool|.ofNat a,.ofNat b=>aa4 (a+1) b|.negSucc _,.ofNat _=>J|.negSucc a,.negSucc b=>aa4 (b+1) a|.ofNat _,.negSucc _=>a'
def ap{a b:Nat}:aa4 a b=J↔a<=b:=(bj,kr)
def cB:jT i j=J↔i=j:=by
 cases i<;>cases j;.exact(λh=>by rw[ax h],λh=>by injection h with h;rw[h];exact fU _)
 .exact(λh=>(by cases h),λh=>by cases h)
 .exact(λh=>(by cases h),λh=>by cases h)
 .exact(λh=>by rw[ax h],λh=>by injection h with h;rw[h];exact fU _)
def bM:ic i j=J↔i<=j:=by
 cases i<;>cases j;.exact ap.trans (by simp only[eU];lia)
 .exact(λh=>(by cases h),λh=>by simp only[eU]at h;lia)
 .exact(λ_=>by simp only[eU];lia,λ_=>rfl)
 .exact ap.trans (by lia)
def cw:jv i j=J↔i<j:=by
 cases i<;>cases j;.exact ap.trans (by simp only[eU];lia)
 .exact(λh=>(by cases h),λh=>by simp only[eU]at h;lia)
 .exact(λ_=>by simp only[eU];lia,λ_=>rfl)
 .exact ap.trans (by lia)
def uo(i j:Int):jT i j=decide (i=j):=gq.mpr (by rw[dM];exact cB)
def Xr(i j:Int):ic i j=decide (i<=j):=gq.mpr (by rw[dM];exact bM)
def Ld(i j:Int):jv i j=decide (i<j):=gq.mpr (by rw[dM];exact cw)
def b2(b:Bool):Int:=match b with|true=>1|false=>0
def Hm:Pv->Pv->Bool|.non,.non=>J|.bl a,.bl b=>a==b|.bl a,.int b=>jT (b2 a) b|.int a,.bl b=>jT a (b2 b)|.int a,.int b=>jT a b|.str a,.str b=>aS a b|_,_=>a'
def kI:ϑ->ϑ->Bool|[],[]=>J|a::x,b::y=>Hm a b&&kI x y|_,_=>a'
def jx(p q:Pv):Bool:=match p with|.tup a=>(match q with|.tup b=>kI a b|_=>a')|.lst a=>(match q with|.lst b=>kI a b|_=>a')|_=>Hm p q
def Az:Pv->Bool|.non=>J|.bl _=>J|.int _=>J|.str _=>J|_=>a'
def SD:Pv->Bool|.tup x=>x.all Az|_=>a'
def Ax(xs ys:ϑ)(j:Nat):Bool:=match xs[j]?,ys[j]? with|some a,O b=>Hm a b|_,_=>J
theorem oK:∀{xs ys:ϑ},xs.length=ys.length->kI xs ys=(ac7 xs.length).all (Ax xs ys)|[],[],_=>rfl|a::x,b::y,h=>by have i:=oK (xs:=x) (ys:=y) (by simpa using h);show(Hm a b&&kI x y)=_;rw[i,ag,List.range_succ_eq_map,aG,eh];rfl|[],_::_,h=>by simp at h|_::_,[],h=>by simp at h
theorem pR:∀{xs ys:ϑ},kI xs ys=J->xs.length=ys.length|[],[],_=>rfl|a::x,b::y,h=>by have h:(Hm a b&&kI x y)=true:=h;rw[aO]at h;rw[ag,ag,pR h.2]|[],_::_,h=>by cases h|_::_,[],h=>by cases h
def Kd(h:Az x):Hm x x=true:=by cases x with|non=>rfl|bl b=>exact fI b|int i=>exact cB.mpr rfl|str z=>exact aQ.mpr rfl|_=>cases h
theorem wY:∀{xs:ϑ},xs.all Az=J->kI xs xs=J|[],_=>rfl|x::xs,h=>by rw[aG,aO]at h;show(Hm x x&&kI xs xs)=J;rw[Kd h.1,wY h.2];rfl
section
variable{X:Cx}{bb:cp}{σ:tSt}{s:be}{Y:T0}{G M:List Addr}{H:Hp}
def AM(r:Vals vs us)(R:Vals ws zs)(ix:aR (Y.z G) M H xs vs)(i:aR (Y.z G) M H ys ws)(I:∀{p q:Pv}{v u:V}{b U:Value},p∈xs->q∈ys->bT (Y.z G) M H p v->bT (Y.z G) M H q u->RelV v b->RelV u U->EqAt A s b U (Hm p q)):∀j(h:j<us.toArray.size)(a:j<zs.toArray.size),EqAt A s us.toArray[j] zs.toArray[j] (Ax xs ys j):=by
 intro j h a;have l1:=r.length;have l2:=R.length;have l3:=ix.len;have l4:=i.len;simp only[aP]at h a;have e:xs[j]?=O (xs[j]'(by lia)):=aN _;have E:ys[j]?=O (ys[j]'(by lia)):=aN _;have(v,d,pv):=ix.get e;have(w,f,P):=i.get E;have(u,hu,g):=r.get d;have(z,c,C):=R.get f;have k:us.toArray[j]=u:=by rw[aN h]at hu;simpa using hu
 have l:zs.toArray[j]=z:=by rw[aN a]at c;simpa using c
 rw[k,l];unfold Ax;rw[e,E];exact I (hU _) (hU _) pv P g C
def Gr{A:c9}(I:Inv X bb σ H s)(S:fK X.K H a vs)(d:fK X.K H b ws)(ix:aR (Y.z G) M H xs vs)(i:aR (Y.z G) M H ys ws)(f:∀{p q:Pv}{v u:V}{c U:Value},p∈xs->q∈ys->bT (Y.z G) M H p v->bT (Y.z G) M H q u->RelV v c->RelV u U->EqAt A.in1 s c U (Hm p q))(hu:A.units<cLine):∃(its N:Array Value)(e:Nat->Bool),s.heap.IsTuple a its/\s.heap.IsTuple b N/\(∀j(k:j<its.size)(l:j<N.size),EqAt A.in1 s its[j] N[j] (e j))/\((ac7 (min its.size N.size)).all e&&its.size==N.size)=kI xs ys:=by
 have(its,r,t,_):=I.tuple S;have(N,R,T,_):=I.tuple d;refine(its.toArray,N.toArray,Ax xs ys,t,T,AM r R ix i f,?_);rw[aP,aP,<-r.length,<-R.length,<-ix.len,<-i.len];by_cases h:xs.length=ys.length;.rw[<-h,Nat.min_self,oK h,fI,zA]
 .rw[b3.mpr h,N9];cases g:kI xs ys with|false=>rfl|true=>exact absurd (pR g) h
inductive Kf:Pv->Value->Prop|non:Kf .non .none|bl(b:Bool):Kf (.bl b) (.bool b)|int(i:Int)(t:Tok):Kf (.int i) (.int i t)|str(z:Str)(t:Tok):Kf (.str z) (.str z t)
def Fy(k:Az p)(h:bT (Y.z G) M H p v)(r:RelV v v'):Kf p v':=by unfold bT at h;cases p with|non=>subst h;cases r;exact .non|bl b=>subst h;cases r;exact .bl b|int i=>subst h;have(t,rfl):=r;exact .int i t|str z=>subst h;have(t,rfl):=r;exact .str z t|_=>cases k
def UA(a:Kf p v)(h:Kf q u):(RcAt A s v u (Hm p q)/\RcNeAt A s v u !Hm p q)/\EqAt A s v u (Hm p q):=by cases a with
 |non=>cases h with|non=>exact((RcAt.none_none,RcNeAt.none_none),EqAt.same _)|bl d=>exact((RcAt.none_bool d,RcNeAt.none_bool d),EqAt.none_bool d)|int d t=>exact((RcAt.none_int d t,RcNeAt.none_int d t),EqAt.none_int d t)|str d t=>exact((RcAt.none_str d t,RcNeAt.none_str d t),EqAt.none_str d t)
 |bl c=>cases h with|non=>exact((RcAt.bool_none c,RcNeAt.bool_none c),EqAt.bool_none c)|bl d=>exact((RcAt.bool_bool c d,RcNeAt.bool_bool c d),EqAt.bool_bool c d)|int d t=>show(RcAt A s _ _ (jT (b2 c) d)/\RcNeAt A s _ _ !jT (b2 c) d)/\EqAt A s _ _ (jT (b2 c) d);rw[uo];have z:=RcAt.bool_int (A:=A) (s:=s) c d t;have z2:=RcNeAt.bool_int (A:=A) (s:=s) c d t;have Z:=EqAt.bool_int (A:=A) (s:=s) c d t;rw[km]at z z2 Z;cases c<;>exact((z,z2),Z)|str d t=>exact((RcAt.bool_str c d t,RcNeAt.bool_str c d t),EqAt.bool_str c d t)
 |int c T=>cases h with|non=>exact((RcAt.int_none c T,RcNeAt.int_none c T),EqAt.int_none c T)|bl d=>show(RcAt A s _ _ (jT c (b2 d))/\RcNeAt A s _ _ !jT c (b2 d))/\EqAt A s _ _ (jT c (b2 d));rw[uo];have z:=RcAt.int_bool (A:=A) (s:=s) c T d;have z2:=RcNeAt.int_bool (A:=A) (s:=s) c T d;have Z:=EqAt.int_bool (A:=A) (s:=s) c T d;rw[km]at z z2 Z;cases d<;>exact((z,z2),Z)|int d t=>show(RcAt A s _ _ (jT c d)/\RcNeAt A s _ _ !jT c d)/\EqAt A s _ _ (jT c d);rw[uo,<-km];exact((RcAt.int_int c T d t,RcNeAt.int_int c T d t),EqAt.int_int c T d t)|str d t=>exact((RcAt.int_str c T d t,RcNeAt.int_str c T d t),EqAt.int_str c T d t)
 |str c T=>cases h with|non=>exact((RcAt.str_none c T,RcNeAt.str_none c T),EqAt.str_none c T)|bl d=>exact((RcAt.str_bool c T d,RcNeAt.str_bool c T d),EqAt.str_bool c T d)|int d t=>exact((RcAt.str_int c T d t,RcNeAt.str_int c T d t),EqAt.str_int c T d t)|str d t=>show(RcAt A s _ _ (aS c d)/\RcNeAt A s _ _ !aS c d)/\EqAt A s _ _ (aS c d);rw[<-nQ];exact((RcAt.str_str c T d t,RcNeAt.str_str c T d t),EqAt.str_str c T d t)
noncomputable def Ny:Pv->Pv->Bool|.tup _,.tup []=>J|.lst _,.lst []=>J|_,_=>a'
def YS(r:Y.K=X.K)(I:Inv X bb σ H s)(k:Ny p q)(h:bT (Y.z G) M H p v)(f:bT (Y.z G) M H q u)(w:RelV v j)(B:RelV u U)(hu:A.units<cLine):RcAt A s j U (jx p q)/\RcNeAt A s j U !jx p q:=by
 unfold Ny at k;split at k;.rename_i x;unfold bT at h f;have(a,m,rfl,S,c):=h;have(b,ws,rfl,n,d):=f;cases w;cases B;have(L,P,e,C,D,E,F):=Gr (A:=A) I (show fK X.K H a m from r▸S) (show fK X.K H b ws from r▸n) c d (λ_ o=>by cases o) hu;show RcAt A s _ _ (kI x [])/\RcNeAt A s _ _ !kI x [];rw[<-F];exact(RcAt.tuples C D hu E,RcNeAt.tuples C D hu E)
 .rename_i x;unfold bT at h f;have(a,m,rfl,_,S,c):=h;have(b,ws,rfl,_,n,d):=f;cases w;cases B;have(i,R,T,_):=I.list (show jd X.K H a m from .inl (.inl S));have(N,y,t,_):=I.list (show jd X.K H b ws from .inl (.inl n));show RcAt A s _ _ (kI x [])/\RcNeAt A s _ _ !kI x [];by_cases g:x.length=([]:ϑ).length
  .have l:i.toArray.size=N.toArray.size:=by rw[aP,aP,<-R.length,<-y.length,<-c.len,<-d.len,g]
   have e:(ac7 i.toArray.size).all (Ax x [])=kI x []:=by rw[aP,<-R.length,<-c.len,<-oK g]
   rw[<-e];have z:=AM (s:=s) (A:=A.in1) R y c d (λ_ o=>by cases o);exact(RcAt.lists T.isList t.isList l hu z,RcNeAt.lists T.isList t.isList l hu z)
  .have l:(i.toArray.size !=N.toArray.size)=true:=by rw[aP,aP,<-R.length,<-y.length,<-c.len,<-d.len];exact bne_iff_ne.mpr g
   have e:kI x []=false:=a8.mpr λz=>g (pR z);rw[e];exact(RcAt.lists_lengths T.isList t.isList l hu,RcNeAt.lists_lengths T.isList t.isList l hu)
 .cases k
end
section
variable{t:Tb}{X:Cx}
def XT(p q:Pv):Bool:=Ny p q||(Az p&&Az q||SD p&&SD q)
def V5(h:Az p):jx p q=Hm p q:=by cases p<;>first|rfl|cases h
def RN(Y:T0)(n:Bool):R2:=λv u H Q=>∃G M p q,bT (Y.z G) M H p v/\bT (Y.z G) M H q u/\XT p q=J/\Q (.bl (n !=jx p q)) H
def MG{σ:tSt}{Y:T0}(d:Y.K=X.K)(I:Inv X P σ H s)(k:XT p q)(h:bT (Y.z G) M H p v)(c:bT (Y.z G) M H q u)(r:RelV v f)(R:RelV u U)(hu:A.units+64<cLine):RcAt A s f U (jx p q)/\RcNeAt A s f U !jx p q:=by
 rcases(cH _ _).mp k with k|k;.exact YS d I k h c r R (by lia)
 rcases(cH _ _).mp k with k|k;.rw[aO]at k;rw[V5 k.1];exact(UA (Fy k.1 h r) (Fy k.2 c R)).1
 .rw[aO]at k;cases p with
  |tup x=>cases q with|tup y=>unfold bT at h c;have(a,m,rfl,S,n):=h;have(b,ws,rfl,o,w):=c;cases r;cases R;have(E,F,e,T,g,l,B):=Gr (A:=A) I (show fK X.K H a m from d▸S) (show fK X.K H b ws from d▸o) n w (λC D i j r R=>(UA (Fy (ai.mp k.1 _ C) i r) (Fy (ai.mp k.2 _ D) j R)).2) (by lia);show RcAt A s _ _ (kI x y)/\RcNeAt A s _ _ !kI x y;rw[<-B];exact(RcAt.tuples T g (by lia) l,RcNeAt.tuples T g (by lia) l)|_=>cases k.2
  |_=>cases k.1
def XX(hu:X.A.units+64<cLine):jZ X (compareOp .Eq) (RN (yx t X) a'):=by intro P s σ H x y v u Q I r R h;have(G,M,p,q,a,b,k,h):=h;refine(MG (Y:=yx t X) rfl I k a b r R hu).1 X.prog X.w _ _ (.bl _,H,I,rfl,?_);rw[jF]at h;exact h
def X3(hu:X.A.units+64<cLine):jZ X (compareOp .NotEq) (RN (yx t X) J):=by intro P s σ H x y v u Q I r R h;have(G,M,p,q,a,b,k,h):=h;refine(MG (Y:=yx t X) rfl I k a b r R hu).2 X.prog X.w _ _ (.bl _,H,I,rfl,?_);rw[ph]at h;exact h
end
def Ou:O2:=λx y h Q=>match x,y with|.p a,.p b=>gd (XT a b) (Q (.p (.bl (jx a b))) h)|_,_=>False
def PZ:O2:=λx y h Q=>match x,y with|.p a,.p b=>gd (XT a b) (Q (.p (.bl !jx a b)) h)|_,_=>False
def W5:iD Y (RN Y a') Ou:=λG M h H x y v u Q d r i j q out=>by cases x with|r _=>exact q.elim|p a=>cases y with|r _=>exact q.elim|p b=>have(c,q):=bq q;exact(G,M,a,b,i,j,c,by rw[jF];exact out _ h M H _ Ext.refl r (by unfold cL bT;rfl) q)
def Xb:iD Y (RN Y J) PZ:=λG M h H x y v u Q d r i j q out=>by cases x with|r _=>exact q.elim|p a=>cases y with|r _=>exact q.elim|p b=>have(c,q):=bq q;exact(G,M,a,b,i,j,c,by rw[ph];exact out _ h M H _ Ext.refl r (by unfold cL bT;rfl) q)
end F
namespace F
open L2
section
variable{Y:T0}{G M:List Addr}{H:Hp}{h:Hs}{x y:Dv}{v u:V}
noncomputable def iH(h:Hs):Dv->Option ϑ
 |.p (.lst X)=>O X|.r i=>match h[i]? with|some (.lst X)=>O X|_=>af
 |_=>af
def bh.at'(r:bh Z M H h){i:Nat}(b:M[i]?=O a)(c:h[i]?=O o):vF Z M H a o:=r.ob i a o b c
def fN(r:bh (Y.z G) M H h)(i:cL (Y.z G) M H x v)(e:iH h x=O xs):∃a vs,v=.ref a/\H a=O (.lst vs)/\aR (Y.z G) M H xs vs:=by
 unfold iH at e;split at e;.cases e;unfold cL bT at i;have(a,vs,b,_,c,d):=i;exact(a,vs,b,c,d)
 .split at e;.rename_i o;cases e;have(a,b,c):=i;have(vs,d,f):=r.at' b o;exact(a,vs,c,d,f)
  .cases e
 .cases e
def kK(r:bh (Y.z G) M H h)(a:H p=af)(i:aR (Y.z G) M H xs vs):cL (Y.z G) M (dv H p (.lst vs)) (.p (.lst xs)) (.ref p):=by unfold cL bT;exact(p,vs,rfl,r.oO a,bQ,i.ext r (Ext.add a))
def uD(r:bh (Y.z G) M H h)(a:H p=af)(i:aR (Y.z G) M H xs vs):cL (Y.z G) M (dv H p (.tup vs)) (.p (.tup xs)) (.ref p):=by unfold cL bT;exact(p,vs,rfl,fK.of bQ,i.ext r (Ext.add a))
def iE(s:qE H H'):Ext M H M H':=(([],(aI M).symm),λb o _ e=>s b o e,λb h n=>absurd h n)
def mR(r:bh (Y.z G) M H h)(s:qE H H'):bh (Y.z G) M H' h:=(r.nd,r.dj,r.ln,λb c=>let (o,e):=r.gs b c;(o,s _ _ e),λi a o d f=>vF.mv ((iE s).mv r) (λ_ _ z=>z) (λ_ e=>s _ _ e) (λ_ e=>s _ _ e) (r.ob i a o d f))
def eM:cL (Y.z G) M H (.p (.int i)) (.int i):=by unfold cL bT;rfl
def gO:cL (Y.z G) M H (.p (.bl b)) (.bl b):=by unfold cL bT;rfl
def lE:cL (Y.z G) M H (.p (.str z)) (.str z):=by unfold cL bT;rfl
def tm:cL (Y.z G) M H (.p .non) .non:=by unfold cL bT;rfl
def d9(q:cL (Y.z G) M H (.p (.int i)) v):v=.int i:=by unfold cL bT at q;exact q
def Jr(q:cL (Y.z G) M H (.p (.bl b)) v):v=.bl b:=by unfold cL bT at q;exact q
def eE(q:cL (Y.z G) M H (.p (.str z)) v):v=.str z:=by unfold cL bT at q;exact q
def Js(q:cL (Y.z G) M H (.p .non) v):v=.non:=by unfold cL bT at q;exact q
def pA(q:cL (Y.z G) M H (.p (.tup xs)) v):∃a vs,v=.ref a/\fK Y.K H a vs/\aR (Y.z G) M H xs vs:=by unfold cL bT at q;exact q
def oI(c:Int->Int->Bool)(g:Int->Int->Int):O2:=λx y h Q=>match x,y with|.p (.int i),.p (.int j)=>gd (c i j) (Q (.p (.int (g i j))) h)|_,_=>False
def oB(g:Int->Int->Bool):O2:=λx y h Q=>match x,y with|.p (.int i),.p (.int j)=>Q (.p (.bl (g i j))) h|_,_=>False
def T3(a:∀i j,c i j=J->C i j):iD Y (rI C λi j=>.int (g i j)) (oI c g):=λG M h H x y v u Q b r i j q out=>by
 unfold oI at q;split at q;.have(k,q):=bq q;exact(_,_,d9 i,d9 j,a _ _ k,out _ h M H _ Ext.refl r eM q)
 .exact q.elim
def TZ:iD Y (IA λi j=>.bl (g i j)) (oB g):=λG M h H x y v u Q a r i j q out=>by
 unfold oB at q;split at q;.exact(_,_,d9 i,d9 j,out _ h M H _ Ext.refl r gO q)
 .exact q.elim
def cT:Int->Int->Bool:=λ_ _=>J
def XS:O2:=oI cT λi j=>i-j
def Qo:iD Y (IA λi j=>.int (i-j)) XS:=λG M h H x y v u Q a r i j q out=>by
 unfold XS oI at q;split at q;.exact(_,_,d9 i,d9 j,out _ h M H _ Ext.refl r eM q)
 .exact q.elim
noncomputable def S_(i:Int):Bool:=decide (-18446744073709551616<i)&&decide (i<18446744073709551616)
def xQ(i j:Int):Bool:=S_ j||S_ i
def OE(h:xQ i j):Jq i j:=by
 unfold xQ S_ at h;simp only[cH,aO,dM]at h;rcases h with h|h;.exact .inr (by lia,by lia)
 .exact .inl (by lia,by lia)
noncomputable def Y_(_ j:Int):Bool:=decide (0<j)&&decide (j<1073741824)
def h9:O2:=oI Y_ λi j=>i/j
def Qf:iD Y (rI F_ λi j=>.int (i/j)) h9:=T3 λi j h=>by unfold Y_ at h;simp only[aO,dM]at h;exact h
def aff(_ j:Int):Bool:=decide (0<j)
def hY:O2:=oI aff λi j=>i%j
def Qj:iD Y (rI (λ_ j=>0<j) λi j=>.int (i%j)) hY:=T3 λi j h=>aW h
def XO:O1:=λx h Q=>match x with|.p (.int i)=>Q (.p (.int (-i))) h|_=>False
def Qk:Vb Y (rU λi=>.int (-i)) XO:=λG M h H x v Q a r i q out=>by
 unfold XO at q;split at q;.exact(_,d9 i,out _ h M H _ Ext.refl r eM q)
 .exact q.elim
def gU(n:Nat):Bool:=aa4 n sizeLine
def dy(h:gU n):n<=sizeLine:=bj h
def eO(h:n<=sizeLine):gU n=true:=kr h
def DC:O2:=λx y h Q=>match x,y with|.p (.int i),.p (.int j)=>Q (.p (.int (i+j))) h|.p (.str a),.p (.str b)=>gd (gU (a.length+b.length)) (Q (.p (.str (a++b))) h)|.p (.tup a),.p (.tup b)=>gd (gU (a.length+b.length)) (Q (.p (.tup (a++b))) h)|x,y=>match iH h x,iH h y with|some a,O b=>gd (gU (a.length+b.length)) (Q (.p (.lst (a++b))) h)|_,_=>False
def Uw(K:Frag):R2:=λx y H Q=>IA (λi j=>.int (i+j)) x y H Q\/(∃i j,x=.str i/\y=.str j/\i.length+j.length<=sizeLine/\Q (.str (i++j)) H)\/MC K x y H Q\/RM x y H Q
def Q0:jZ X (binaryOp .Add) (Uw X.K):=XW.or (DE.or (LS.or DF))
def Qb:iD Y (Uw Y.K) DC:=λG M h H x y v u Q o r i j q out=>by
 unfold DC at q;split at q;.exact .inl (_,_,d9 i,d9 j,out _ h M H _ Ext.refl r eM q)
 .have(k,q):=bq q;exact .inr (.inl (_,_,eE i,eE j,dy k,out _ h M H _ Ext.refl r lE q))
 .have(k,q):=bq q;have(a,s,E,s1,I):=pA i;have(b,ws,f,s2,e):=pA j;refine .inr (.inr (.inl (a,b,s,ws,E,f,s1,s2,by rw[<-I.len,<-e.len];exact dy k,λp l S sp=>?_)));refine out _ h M l _ (iE S) (mR r S) ?_ q;unfold cL bT;exact(p,_,rfl,sp,(I.app e).ext r (iE S))
 .split at q;.rename_i a b m n;have(k,q):=bq q;have(c,s,E,s1,I):=fN r i m;have(d,ws,f,s2,e):=fN r j n;refine .inr (.inr (.inr (c,d,s,ws,E,f,s1,s2,by rw[<-I.len,<-e.len];exact dy k,λp g=>?_)));exact out _ h M _ _ (Ext.add g) (r.add g) (kK r g (I.app e)) q
  .exact q.elim
def wd:O2:=oB jv
def AC:O2:=oB λi j=>jv j i
def Xa:iD Y (IA λi j=>.bl (decide (i<j))) wd:=by rw[show(λi j:Int=>V.bl (decide (i<j)))=λi j=>.bl (jv i j)by funext i j;rw[Ld]];exact TZ
def W6:iD Y (IA λi j=>.bl (decide (j<i))) AC:=by rw[show(λi j:Int=>V.bl (decide (j<i)))=λi j=>.bl (jv j i)by funext i j;rw[Ld]];exact TZ (g:=λi j=>jv j i)
def nu:O2:=λx y h Q=>match x,y with|.p (.int i),.p (.int j)=>Q (.p (.bl (ic i j))) h|.p (.str a),.p (.str b)=>Q (.p (.bl !decide (b.cps.toList<a.cps.toList))) h|_,_=>False
def wp:R2:=λx y H Q=>IA (λi j=>.bl (decide (i<=j))) x y H Q\/∃i j,x=.str i/\y=.str j/\Q (.bl !decide (j.cps.toList<i.cps.toList)) H
def X0:jZ X (compareOp .LtE) wp:=abS.or HU
def W9:iD Y wp nu:=λG M h H x y v u Q a r i j q out=>by
 unfold nu at q;split at q;.rw[Xr]at q;exact .inl (_,_,d9 i,d9 j,out _ h M H _ Ext.refl r gO q)
 .exact .inr (_,_,eE i,eE j,out _ h M H _ Ext.refl r gO q)
 .exact q.elim
def KI:Pv->Bool|.non=>J|_=>a'
def uq:Pv->Bool|.non=>J|.bl _=>J|.int _=>J|.str _=>J|_=>a'
def g8(x:Pv):ϑ->Bool|[]=>a'|y::r=>jx y x||g8 x r
noncomputable def fP:ϑ->Bool|[]=>J|x::r=>uq x&&fP r
def Ef(h:Hs):Dv->Option ϑ|.p (.tup X)=>O X|d=>iH h d
def qj(r:bh (Y.z G) M H h)(i:cL (Y.z G) M H x v)(e:Ef h x=O xs):∃a vs,v=.ref a/\(jd Y.K H a vs\/fK Y.K H a vs)/\aR (Y.z G) M H xs vs:=by
 unfold Ef at e;split at e;.cases e;have(a,vs,E,s1,I):=pA i;exact(a,vs,E,.inr s1,I)
 .have(a,vs,E,s1,I):=fN r i e;exact(a,vs,E,.inl (jd.of s1),I)
def Vy(a b:Int):(a==b)=jT a b:=by rw[uo];exact km ..
def CG(f:uq p)(i:bT (Y.z G) M H p v):mD v/\∀{q:Pv}{u:V},uq q=J->bT (Y.z G) M H q u->NX u v=jx q p:=by
 cases p<;>first|(cases f;done)|skip
 all_goals(unfold bT at i;subst i;refine(rfl,λ{q u}g j=>?_))
 all_goals(cases q<;>first|(cases g;done)|(unfold bT at j;subst j;unfold jx NX;first|rfl|exact nQ _ _|(exact Vy _ _)|(rename_i b;cases b<;>exact Vy _ _)|(rename_i b _;cases b<;>exact Vy _ _)))
theorem Qa{v:V}(f:uq p)(i:bT (Y.z G) M H p v):∀{xs:ϑ}{vs:ϕ},fP xs=J->aR (Y.z G) M H xs vs->vs.all mD/\P9 v vs=g8 p xs|[],[],_,_=>(rfl,rfl)|[],_::_,_,h=>by unfold aR at h;exact h.elim|_::_,[],_,h=>by unfold aR at h;exact h.elim|x::xs,w::vs,g,h=>by unfold aR at h;simp only[fP,aO]at g;have(a,b):=Qa f i g.2 h.2;refine(by rw[aG,(CG g.1 h.1).1,a];rfl,?_);have e:=(CG f i).2 g.1 h.1;unfold P9 at b⊢;rw[kR,b,e];rfl
def pc(neg:Bool):O2:=λx y h Q=>match x with
 |.p a=>match Ef h y with|some X=>gd (uq a&&fP X) (Q (.p (.bl (N5 neg (g8 a X)))) h)|none=>match a,y with|.str i,.p (.str j)=>Q (.p (.bl (N5 neg !(ab9 j i 0 j.length 1).isEmpty))) h|_,_=>False
 |_=>False
def NE(K:Frag)(neg:Bool):R2:=λx y H Q=>Gc K neg x y H Q\/∃i j,x=.str i/\y=.str j/\Q (.bl (neg !=!(ab9 j i 0 j.length 1).isEmpty)) H
def XY:jZ X (compareOp .In) (NE X.K a'):=xj.or λp s σ H x y v u Q I r R (i,j,e,E,q)=>HS p s σ H x y v u Q I r R (i,j,e,E,by rw[jF]at q;exact q)
def W7:iD Y (NE Y.K neg) (pc neg):=λG M h H x y v u Q f r i j q out=>by
 unfold pc at q;simp only[Dr]at q;split at q
 .rename_i a;split at q
  .rename_i X e;have(k,q):=bq q;rw[aO]at k;have(b,s,E,s1,I):=qj r j e;have(c,d):=Qa k.1 i k.2 I;refine .inl (b,s,E,s1,(CG k.1 i).1,c,?_);refine out _ h M H _ Ext.refl r ?_ q;rw[d];cases neg;.rw[jF];exact gO
   .rw[ph];exact gO
  .split at q;.exact .inr (_,_,eE i,eE j,out _ h M H _ Ext.refl r gO q)
   .exact q.elim
 .exact q.elim
noncomputable def nk{α:Type}(xs:List α):Int->Option α|.ofNat n=>xs[n]?|.negSucc n=>match aa4 (n+1) xs.length with|true=>xs[xs.length-(n+1)]?|false=>af
def xN{α:Type}(xs:List α)(n:Nat):nk xs (.negSucc n)=match aa4 (n+1) xs.length with|true=>xs[xs.length-(n+1)]?|false=>af:=rfl
def B3(xs:List α)(i:Int):nk xs i=EM xs i:=by unfold EM T4;cases i with|ofNat n=>
  show xs[n]?=_;rw[bI (show(0:Int)<=Int.ofNat n from Int.natCast_nonneg n)];by_cases a:n<xs.length;.rw[bI (show Int.ofNat n<(xs.length:Int)by show((n:Nat):Int)<_;lia)];rfl
  .rw[bL (show ¬Int.ofNat n<(xs.length:Int)by show ¬((n:Nat):Int)<_;lia),kq (by lia)];rfl|negSucc n=>
  rw[bL (by lia),xN];by_cases a:n+1<=xs.length;.rw[bI (by lia),kr a];show xs[xs.length-(n+1)]?=xs[(Int.negSucc n+(xs.length:Int)).toNat]?;rw[show(Int.negSucc n+(xs.length:Int)).toNat=xs.length-(n+1)by lia]
  .rw[bL (by lia),show aa4 (n+1) xs.length=a' from a8.mpr λz=>a (bj z)];rfl
noncomputable def mM(h:Hs):Dv->Option (List Dv)
 |.r i=>match h[i]? with|some (.du ds)=>O ds|_=>af
 |_=>af
def uS:O2:=λx y h Q=>match y with
 |.p (.int i)=>match Ef h x with|some X=>ie (nk X i) (λz=>Q (.p z) h) False|none=>match x with|.p (.str z)=>gd (gU z.length) (ie (nk z.cps.toList i) (λc=>Q (.p (.str ⟨#[c]⟩)) h) False)|.p (.scr X)=>ie (nk X i) (λz=>Q (.p z) h) False|x=>match mM h x with|some ds=>ie (nk ds i) (λd=>Q d h) False|none=>False
 |_=>False
theorem aR.EM(q:aR (Y.z G) M H xs vs)(e:nk xs i=O z):∃v,L2.EM vs i=O v/\bT (Y.z G) M H z v:=by rw[<-B3];cases i with|ofNat n=>exact q.get e|negSucc n=>
  rw[xN]at e⊢;rw[<-q.len];split at e;.exact q.get e
  .cases e
theorem bY.len:∀{ds:List Dv}{vs:ϕ},bY Z M H ds vs->ds.length=vs.length|[],[],_=>rfl|[],_::_,h=>h.elim|_::_,[],h=>h.elim|_::_,_::_,h=>by rw[ag,ag,bY.len h.2]
theorem bY.get{M:List Addr}{H:Hp}:∀{xs:List Dv}{vs:ϕ}{i:Nat}{x:Dv},bY Z M H xs vs->xs[i]?=O x->∃v,vs[i]?=O v/\cL Z M H x v|[],_,_,_,_,e=>by simp at e|_::_,[],_,_,h,_=>h.elim|_::_,v::_,0,_,h,e=>by cases e;exact(v,rfl,h.1)|_::_,_::_,i+1,_,h,e=>by have(w,a,b):=bY.get (i:=i) h.2 (by simpa using e);exact(w,by simpa using a,b)
theorem bY.EM(q:bY (Y.z G) M H xs vs)(e:nk xs i=O z):∃v,L2.EM vs i=O v/\cL (Y.z G) M H z v:=by rw[<-B3];cases i with|ofNat n=>exact q.get e|negSucc n=>
  rw[xN]at e⊢;rw[<-q.len];split at e;.exact q.get e
  .cases e
def W8:iD Y (Ps Y.K) uS:=λG M h H x y v u Q D r i j q out=>by
 unfold uS ie at q;split at q
 .split at q
  .rename_i X e;split at q
   .rename_i z g;have(a,s,E,s1,I):=qj r i e;have(w,b,f):=I.EM g;have o:=out (.p z) h M H w Ext.refl r f q;rcases s1 with s1|s1;.exact .inl (a,s,_,w,E,d9 j,s1,b,o)
    .exact .inr (.inl (a,s,_,w,E,d9 j,s1,b,o))
   .exact q.elim
  .split at q
   .have(k,q):=bq q;split at q;.rename_i c l;rw[B3]at l;exact .inr (.inr (_,_,c,eE i,d9 j,dy k,l,out _ h M H _ Ext.refl r lE q))
    .exact q.elim
   .split at q;.rename_i z g;unfold cL bT at i;have(a,s,E,s1,I):=i;have(w,b,f):=I.EM g;exact .inl (a,s,_,w,E,d9 j,MY s1,b,out (.p z) h M H w Ext.refl r f q)
    .exact q.elim
   .split at q
    .rename_i ds e;split at q
     .rename_i d m;unfold mM at e;split at e
      .split at e;.rename_i n;cases e;have(a,b,f):=i;have(s,t,A):=r.at' b n;have(w,B,C):=A.EM m;exact .inl (a,s,_,w,f,d9 j,jd.of t,B,out _ h M H w Ext.refl r C q)
       .cases e
      .cases e
     .exact q.elim
    .exact q.elim
 .exact q.elim
noncomputable def kj(n:Nat):Option Int->Nat|none=>0|some (.ofNat k)=>k|some (.negSucc k)=>n-(k+1)
def qM{α:Type}(xs:List α)(lo i:Option Int):List α:=match i with|none=>xs.drop (kj xs.length lo)|some (.ofNat k)=>(xs.take k).drop (kj xs.length lo)|some (.negSucc k)=>(xs.take (xs.length-(k+1))).drop (kj xs.length lo)
def xo(n d k:Nat):HT.fR n d (O (.ofNat k))=min k n:=HT.Gj n d k
def Gn(n d k:Nat):HT.fR n d (O (.negSucc k))=n-(k+1):=by have h:=HT.x8 (.negSucc k) n d;rw[bI (by lia)]at h;lia
def yi{α:Type}(xs:List α)(n:Nat)(a:xs.length<=n)(lo:Option Int):xs.drop (HT.fR n 0 lo)=xs.drop (kj n lo):=by cases lo with
 |none=>rw[HT.vc];rfl
 |some i=>cases i with|ofNat k=>
   rw[xo];show xs.drop (min k n)=xs.drop k;by_cases h:k<=n;.rw[Jp h]
   .rw[GQ (by lia),u_ a,u_ (by lia)]|negSucc k=>rw[Gn];rfl
def OX(xs:ϕ)(lo hi:Option Int):mw xs lo hi=qM xs lo hi:=by
 unfold mw;rw[<-List.drop_take];have e:xs.take (HT.fR xs.length xs.length hi)=match hi with|none=>xs|some (.ofNat k)=>xs.take k|some (.negSucc k)=>xs.take (xs.length-(k+1)):=by cases hi with
  |none=>rw[HT.vc,cY]
  |some i=>cases i with|ofNat k=>
    rw[xo];show xs.take (min k xs.length)=xs.take k;by_cases h:k<=xs.length;.rw[Jp h]
    .rw[GQ (by lia),cY,eo (by lia)]|negSucc k=>rw[Gn]
 rw[e];unfold qM;cases hi with|none=>exact yi xs _ (ay _) lo|some i=>cases i with|ofNat k=>exact yi _ _ (by rw[bW];exact qx ..) lo|negSucc k=>exact yi _ _ (by rw[bW];exact qx ..) lo
theorem aR.drop:∀{xs:ϑ}{vs:ϕ}(n:Nat),aR Z M H xs vs->aR Z M H (xs.drop n) (vs.drop n)|_,_,0,q=>q|[],[],n+1,q=>q|[],_::_,_+1,q=>by unfold aR at q;exact q.elim|_::_,[],_+1,q=>by unfold aR at q;exact q.elim|_::_,_::_,n+1,q=>by unfold aR at q;exact aR.drop n q.2
theorem aR.take:∀{xs:ϑ}{vs:ϕ}(n:Nat),aR Z M H xs vs->aR Z M H (xs.take n) (vs.take n)|xs,vs,0,q=>by rw[fF,fF];unfold aR;trivial|[],[],n+1,q=>q|[],_::_,_+1,q=>by unfold aR at q;exact q.elim|_::_,[],_+1,q=>by unfold aR at q;exact q.elim|_::_,_::_,n+1,q=>by unfold aR at q;rw[dY,dY];unfold aR;exact(q.1,aR.take n q.2)
theorem aR.mw(q:aR (Y.z G) M H xs vs)(lo a:Option Int):aR (Y.z G) M H (qM xs lo a) (L2.mw vs lo a):=by rw[OX];unfold qM;rw[q.len];cases a with|none=>exact q.drop _|some i=>cases i with|ofNat k=>exact(q.take k).drop _|negSucc k=>exact(q.take _).drop _
end
def sP(m:Option Sm)(x:XP)(σ:Es)(h:Hs)(Q:Option Int->Hs->Prop):Prop:=match m with|none=>Q af h|some L=>L x σ h λX H=>match X with|[.p (.int i)]=>Q (O i) H|_=>False
def rr(x:Dv)(lo H:Option Int)(h:Hs)(Q:Dv->Hs->Prop):Prop:=match x with|.p (.tup X)=>Q (.p (.tup (qM X lo H))) h|.p (.str z)=>gd (gU z.length) (Q (.p (.str (ae9 z lo H))) h)|x=>match iH h x with|some X=>Q (.p (.lst (qM X lo H))) h|none=>False
def PR(A:Sm)(L U:Option Sm):Sm:=λX σ h Q=>A X σ h λs H=>match s with|[x]=>sP L X σ H λlo a=>sP U X σ a λi b=>rr x lo i b λd c=>Q [d] c|_=>False
def R'(K:Frag):V->Option Int->Option Int->Hp->VK->Prop:=λx lo h H Q=>Uz K x lo h H Q\/(∃z:Str,x=.str z/\z.length<=sizeLine/\Q (.str (ae9 z lo h)) H)\/O' K x lo h H Q
def ahA:IV X (R' X.K):=Gw.or (R4.or R3)
def Xc{Y:T0}{lo:Option Int}(r:bh (Y.z G) M H h)(i:cL (Y.z G) M H x v)(q:rr x lo b h Q)(out:∀d h' M' H' w,Ext M H M' H'->bh (Y.z G) M' H' h'->cL (Y.z G) M' H' d w->Q d h'->QV w H'):R' Y.K v lo b H QV:=by
 unfold rr at q;split at q;.have(a,s,E,s1,I):=pA i;refine .inl (a,s,E,s1,λp H' S sp=>?_);refine out _ h M H' _ (iE S) (mR r S) ?_ q;unfold cL bT;exact(p,_,rfl,sp,(I.mw lo b).ext r (iE S))
 .have(k,q):=bq q;exact .inr (.inl (_,eE i,dy k,out _ h M H _ Ext.refl r lE q))
 .split at q;.rename_i X e;have(a,s,E,s1,I):=fN r i e;exact .inr (.inr (a,s,E,jd.of s1,λp c=>out _ h M _ _ (Ext.add c) (r.add c) (kK r c (I.mw lo b)) q))
  .exact q.elim
structure KnO(Z:Tx)(E:XK)(τ:tSt)(H:Hp)(R:Option Int->Hp->Prop)(M:List Addr)(σ:Es)(h:Hs)(xc:XP)(Q:Option Int->Hs->Prop):Prop where
 rel:bh Z M H h
 env:cV Z M H σ τ
 out:∀o h' M' H',Ext M H M' H'->bh Z M' H' h'->Q o h'->R o H'
 exc:∀C h' M' H',Ext M H M' H'->bh Z M' H' h'->xc C h'->E (.ref (Z.ca C)) af H'
inductive IJ(Y:T0)(E:XK)(m:Option Sm)(τ:tSt)(H:Hp)(R:Option Int->Hp->Prop):Prop|mk(G M:List Addr)(σ:Es)(h:Hs)(xc:XP)(Q:_)(k:KnO (Y.z G) E τ H R M σ h xc Q)(q:sP m xc σ h Q):IJ Y E m τ H R
section
variable{t:Tb}{X:Cx}{E:XK}{e a b c:Expr}{lo hi:Option Expr}{b':List Expr}{A B T:Sm}{L U:Option Sm}{pos:Pos}
def _root_.L2.PO.imp{X:Cx}{e:Option Expr}{t t':TO}(h:PO X e t')(i:∀σ H Q,t σ H Q->t' σ H Q):PO X e t:=λp s σ H Q I q=>h p s σ H Q I (i σ H Q q)
def Mf:PO X af (IJ (yx t X) E af):=F5.imp λτ H R (G,M,σ,h,x,Q,k,q)=>k.out af h M H Ext.refl k.rel q
def Mg(g:PE X e (cA (yx t X) E A)):PO X (O e) (IJ (yx t X) E (O A)):=(F6 g).imp λτ H R (G,M,σ,h,x,Q,k,q)=>by
 refine(G,M,σ,h,x,_,(k.rel,k.env,λd l m n v e r i q=>?_,k.exc),q);split at q;.rename_i j f;injection f with f;subst f;exact(j,d9 i,k.out _ l m n e r q)
 .exact q.elim
def ab8(j:PE X e (cA (yx t X) E A))(l:PO X lo (IJ (yx t X) E L))(hu:PO X hi (IJ (yx t X) E U)):PE X (.Subscript e (.Slice lo hi af p) pos) (cA (yx t X) E (PR A L U)):=(A5 ahA j l hu).imp λτ H QV (G,M,σ,h,x,Q,k,q)=>by refine(G,M,σ,h,x,_,(k.rel,k.env,λd m n H1 v f r I o=>?_,k.exc),q);refine(G,n,σ,m,x,_,(r,k.env.ext k.rel f,λol s u H2 g R y=>?_,k.Pf f),o);refine(G,u,σ,s,x,_,(R,k.env.ext k.rel (f.trans g),λou h3 M3 H3 i z C=>?_,k.Pf (f.trans g)),y);exact Xc (Y:=yx t X) z ((I.ext r g).ext R i) C λD F K N w P S W Z=>k.out D F K N w (f.trans (g.trans (i.trans P))) S W Z
def LO:ON:=λds h Q=>match vK ds with|some x=>gd (gU x.length) (Q (.p (.tup x)) h)|none=>False
def LI:ON:=λds h Q=>match vK ds with|some x=>gd (gU x.length) (Q (.p (.lst x)) h)|none=>False
def LH:ON:=λds h Q=>match vK ds with|some x=>gd (gU x.length) (Q (.r h.length) (h++[.lst x]))|none=>False
def XN:ON:=λds h Q=>gd (gU ds.length) (Q (.r h.length) (h++[.du ds]))
theorem qY{Y:T0}{G M:List Addr}{H:Hp}:∀{ds:List Dv}{vs:ϕ}{xs:ϑ},vK ds=O xs->bY (Y.z G) M H ds vs->aR (Y.z G) M H xs vs
 |[],[],_,e,_=>by cases e;unfold aR;trivial|[],_::_,_,_,q=>q.elim|_::_,[],_,_,q=>q.elim|.r _::_,_::_,_,e,_=>by cases e|.p x::ds,v::vs,xs,e,q=>by
  unfold vK at e;split at e;.rename_i s y;cases e;unfold aR;exact(q.1,qY y q.2)
  .cases e
def Su(h:cA (yx t X) E (sN LO A) τ H QV):IC (gB (yx t X) E A) τ H QV:=by
 have(G,M,σ,h,x,Q,k,q):=h;refine(G,M,σ,h,x,_,(k.rel,k.env,λd i m l v j r I f=>?_,k.exc),q);change LO d i _ at f;unfold LO at f;split at f;.rename_i s ex;have(c,f):=bq f;have i2:=qY ex I;exact(by rw[<-i2.len];exact dy c,λp g=>k.out _ i m _ _ (j.trans (Ext.add g)) (r.add g) (uD r g i2) f)
 .exact f.elim
def Yv(h:PA X b' (gB (yx t X) E A)):PE X (.Tuple b' k1 pos) (cA (yx t X) E (sN LO A)):=(Yj h).imp λ_ _ _=>Su
def Si(h:cA (yx t X) E (sN LI A) τ H QV):Sh (gB (yx t X) E A) τ H QV:=by
 have(G,M,σ,h,x,Q,k,q):=h;refine(G,M,σ,h,x,_,(k.rel,k.env,λd i m l v j r I f=>?_,k.exc),q);change LI d i _ at f;unfold LI at f;split at f;.rename_i s ex;have(c,f):=bq f;have i2:=qY ex I;exact(by rw[<-i2.len];exact dy c,λp g=>k.out _ i m _ _ (j.trans (Ext.add g)) (r.add g) (kK r g i2) f)
 .exact f.elim
def Yq(h:PA X b' (gB (yx t X) E A)):PE X (.List b' pos) (cA (yx t X) E (sN LI A)):=(DK h).imp λ_ _ _=>Si
def AI{h:Hs}(e:M.length=h.length):cL Z (M++[p]) H (.r h.length) (.ref p):=(p,by rw[<-e,aM (ay _),dD];rfl,rfl)
def Sf(h:cA (yx t X) E (sN LH A) τ H QV):Sh (gB (yx t X) E A) τ H QV:=by
 have(G,M,σ,h,x,Q,k,q):=h;refine(G,M,σ,h,x,_,(k.rel,k.env,λd i m l v j r I f=>?_,k.exc),q);change LH d i _ at f;unfold LH at f;split at f;.rename_i s ex;have(c,f):=bq f;have i2:=qY ex I;refine(by rw[<-i2.len];exact dy c,λp g=>?_);exact k.out _ _ (m++[p]) _ _ (j.trans (Ext.push r g)) (r.push (o:=.lst s) g (v,bQ,i2.ext r (Ext.push r g))) (AI r.ln) f
 .exact f.elim
def Yp(h:PA X b' (gB (yx t X) E A)):PE X (.List b' pos) (cA (yx t X) E (sN LH A)):=(DK h).imp λ_ _ _=>Sf
def Se(h:cA (yx t X) E (sN XN A) τ H QV):Sh (gB (yx t X) E A) τ H QV:=by have(G,M,σ,h,x,Q,k,q):=h;refine(G,M,σ,h,x,_,(k.rel,k.env,λd l m n v j r i f=>?_,k.exc),q);have(c,f):=bq (show gd (gU d.length) _ from f);refine(by rw[<-i.len];exact dy c,λp g=>?_);exact k.out _ _ (m++[p]) _ _ (j.trans (Ext.push r g)) (r.push (o:=.du d) g (v,bQ,i.ext r (Ext.push r g))) (AI r.ln) f
def Yo(h:PA X b' (gB (yx t X) E A)):PE X (.List b' pos) (cA (yx t X) E (sN XN A)):=(DK h).imp λ_ _ _=>Se
end
section
variable{Y:T0}{X:Cx}{t:Tb}
def bY.lW(q:bY Z M H [d] vs):∃v,vs=[v]/\cL Z M H d v:=by cases vs with|nil=>exact q.elim|cons v r=>cases r with|nil=>exact(v,rfl,q.1)|cons _ _=>exact q.2.elim
def bY.two'(q:bY Z M H [d,e] vs):∃v u,vs=[v,u]/\cL Z M H d v/\cL Z M H e u:=by cases vs with|nil=>exact q.elim|cons v r=>have(u,rfl,i):=bY.lW q.2;exact(v,u,rfl,q.1,i)
def jL:ON:=λds h Q=>match ds with
 |[x]=>match Ef h x with|some s=>Q (.p (.int s.length)) h|none=>match x with|.p (.str z)=>gd (gU z.length) (Q (.p (.int z.length)) h)|.p (.scr s)=>Q (.p (.int s.length)) h|.p (.dct k _)=>Q (.p (.int k.length)) h|x=>match mM h x with|some ds=>Q (.p (.int ds.length)) h|none=>False
 |_=>False
def Ux(K:Frag):ϕ->Hp->VK->Prop:=λx H Q=>(∃p y,x=[.ref p]/\(jd K H p y\/fK K H p y)/\Q (.int y.length) H)\/(∃z,x=[.str z]/\z.length<=sizeLine/\Q (.int z.length) H)\/∃a b,x=[V.ref a]/\H a=O (.dK b)/\Q (.int b.length) H
def G9:dQ X (.builtin "len") (Ux X.K):=xW.or (xX.or Hc)
def Qi:sy Y (Ux Y.K) jL:=λG M h H x s Q j r b q out=>by
 unfold jL at q;split at q
 .have(v,rfl,i):=b.lW;split at q;.rename_i y e;have(a,ws,E,s1,I):=qj r i e;exact .inl (a,ws,by rw[E],s1,out _ h M H _ Ext.refl r (by rw[<-I.len];exact eM) q)
  .split at q;.have(k,q):=bq q;exact .inr (.inl (_,by rw[eE i],dy k,out _ h M H _ Ext.refl r eM q))
   .unfold cL bT at i;have(a,ws,E,s1,I):=i;exact .inl (a,ws,by rw[E],.inl (MY s1),out _ h M H _ Ext.refl r (by rw[<-I.len];exact eM) q)
   .unfold cL bT at i;have(a,B,E,_,s1,I,_):=i;exact .inr (.inr (a,B,by rw[E],s1,out _ h M H _ Ext.refl r (by rw[I.len,ae];exact eM) q))
   .split at q
    .rename_i ds e;unfold mM at e;split at e
     .split at e;.rename_i o;cases e;have(a,c,d):=i;have(ws,f,g):=r.at' c o;exact .inl (a,ws,by rw[d],.inl (jd.of f),out _ h M H _ Ext.refl r (by rw[<-g.len];exact eM) q)
      .cases e
     .cases e
    .exact q.elim
 .exact q.elim
noncomputable def HC(c:Nat):Pv->Option Bool|.str _=>O (aa6 c 0)|.int _=>O (aa6 c 1)|.bl _=>O (aa6 c 2||aa6 c 1)|.tup _=>O (aa6 c 3)|.lst _=>O (aa6 c 4)|.non=>O a'|.dct _ _=>O a'|_=>af
def yU:ON:=λds h Q=>match ds with|[x,.p (.ty c)]=>gd (aa4 c 4) (match x with
  |.p a=>match HC c a with|some b=>Q (.p (.bl b)) h|none=>False
  |.r i=>match h[i]? with|some (.lst _)=>Q (.p (.bl (aa6 c 4))) h|some (.du _)=>Q (.p (.bl (aa6 c 4))) h|_=>False)|_=>False
def I0(K:Frag)(H:Hp)(x:V)(n:String):Prop:=Jj H x=O n\/n="tuple"/\∃a s,x=.ref a/\fK K H a s
def RO(K:Frag):ϕ->Hp->VK->Prop:=λs H Q=>∃x c n,s=[x,.ty c]/\I0 K H x n/\c ∈["str","int","bool","tuple","list"]/\Q (.bl (uE n c)) H
def G8:dQ X (.builtin "isinstance") (RO X.K):=by
 intro p s σ H j U Q I r h;have(x,c,n,rfl,b,d,q):=h;rcases b with b|⟨rfl,a,y,rfl,sq⟩;.exact JT p s σ H _ U Q I r (x,c,n,rfl,b,d,q)
 .have(u,v,rfl,R,e):=r.two;obtain rfl:v=af4 c:=e;cases R;obtain⟨i,_,⟨o,f,g,_⟩,_⟩:=I.tuple sq;exact cK PySem.W.kitx_tuple I.nF (o,f,g) (K4 (.tail _ (.tail _ (.tail _ (.tail _ (.tail _ (.head _)))))) d) (λz=>nomatch z) λT=>(.bl _,H,I.tok T,rfl,q)
def H0{P:Nat->Prop}(H:P 0)(a:P 1)(b:P 2)(d:P 3)(e:P 4):∀{c:Nat},aa4 c 4=J->P c|0,_=>H|1,_=>a|2,_=>b|3,_=>d|4,_=>e|_+5,h=>(aL h).elim
def Nw{c:Nat}:aa4 c 4=J->jQ c ∈["str","int","bool","tuple","list"]:=H0 (P:=λc=>jQ c ∈["str","int","bool","tuple","list"]) (.head _) (.tail _ (.head _)) (.tail _ (.tail _ (.head _))) (.tail _ (.tail _ (.tail _ (.head _)))) (.tail _ (.tail _ (.tail _ (.tail _ (.head _)))))
def Qg:sy Y (RO Y.K) yU:=λG M h H s B Q QV r m q out=>by
 unfold yU at q;split at q
 .rename_i x c;have(v,u,rfl,i,j):=m.two';have w:u=.ty (jQ c):=by unfold cL bT at j;exact j
  subst w;have(k,q):=bq q;have fin:∀{n:String}{g:Nat->Bool},I0 Y.K H v n->Q (.p (.bl (g c))) h->uE n (jQ 0)=g 0->uE n (jQ 1)=g 1->uE n (jQ 2)=g 2->uE n (jQ 3)=g 3->uE n (jQ 4)=g 4->RO Y.K [v,.ty (jQ c)] H QV:=λ{n g}y q A b d f l=>(v,jQ c,n,rfl,y,Nw k,by rw[H0 (P:=λc=>uE n (jQ c)=g c) A b d f l k];exact out _ h M H _ Ext.refl r gO q);have L:Jj H v=O "list"->Q (.p (.bl (aa6 c 4))) h->RO Y.K [v,.ty (jQ c)] H QV:=λe q=>fin (n:="list") (g:=λc=>aa6 c 4) (.inl e) q rfl rfl rfl rfl rfl;cases x with
  |p a=>cases a with|str z=>exact fin (g:=λc=>aa6 c 0) (.inl (by rw[eE i];rfl)) q rfl rfl rfl rfl rfl|int z=>exact fin (g:=λc=>aa6 c 1) (.inl (by rw[d9 i];rfl)) q rfl rfl rfl rfl rfl|bl z=>exact fin (g:=λc=>aa6 c 2||aa6 c 1) (.inl (by rw[Jr i];rfl)) q rfl rfl rfl rfl rfl|non=>exact fin (n:="NoneType") (g:=λ_=>a') (.inl (by rw[Js i];rfl)) q rfl rfl rfl rfl rfl|tup s=>have(a,ws,E,s1,I):=pA i;exact fin (g:=λc=>aa6 c 3) (.inr (rfl,a,ws,E,s1)) q rfl rfl rfl rfl rfl|lst s=>unfold cL bT at i;have(a,ws,E,_,s1,I):=i;exact L (by rw[E];simp only[Jj,s1]) q|dct C U=>unfold cL bT at i;have(a,ws,E,_,s1,I):=i;exact fin (n:="dict") (g:=λ_=>a') (.inl (by rw[E];simp only[Jj,s1])) q rfl rfl rfl rfl rfl|_=>exact q.elim
  |r n=>
   change match h[n]? with|some (.lst _)=>Q (.p (.bl (aa6 c 4))) h|some (.du _)=>Q (.p (.bl (aa6 c 4))) h|_=>False at q;split at q;.rename_i o;have(a,b,d):=i;have(ws,f,l):=r.at' b o;exact L (by rw[d];simp only[Jj,f]) q
   .rename_i o;have(a,b,d):=i;have(ws,f,l):=r.at' b o;exact L (by rw[d];simp only[Jj,f]) q
   .exact q.elim
 .exact q.elim
noncomputable def tT:ϑ->Option (List Bool)
 |[]=>O []|.bl b::r=>match tT r with|some bs=>O (b::bs)|none=>af
 |_::_=>af
def wP(q:aR Z M H (x::xs) (v::vs)):cL Z M H (.p x) v/\aR Z M H xs vs:=by unfold aR at q;exact q
def k8{α:Type}{a:α}{p:Prop}(h:af=O a):p:=nomatch h
def VB{xs:ϑ}:∀{bs:List Bool}{vs:ϕ},tT xs=O bs->aR (Y.z G) M H xs vs->vs=bs.map V.bl:=by induction xs with
 |nil=>intro bs vs e q;cases e;cases vs with|nil=>rfl|cons _ _=>unfold aR at q;exact q.elim
 |cons x xs i=>intro bs vs e q;cases vs with|nil=>unfold aR at q;exact q.elim|cons v vs=>have q2:=wP q;have Q:=q2.1;replace q2:=q2.2;clear q;cases x with
   |bl b=>change(match tT xs with|some bs=>O (b::bs)|none=>af)=O bs at e;cases E:tT xs with|none=>rw[E]at e;exact k8 e|some y=>rw[E]at e;cases e;rw[Jr Q,i E q2];rfl
   |_=>exact k8 e
@[irreducible]def LC:ON:=λds h Q=>match ds with
 |[x]=>match iH h x with|some s=>ie (tT s) (λbs=>Q (.p (.bl (bs.all id))) h) False|none=>False
 |_=>False
def Qc:sy Y (λxs H Q=>∃(l:Addr)(bs:List Bool),xs=[.ref l]/\jd Y.K H l (bs.map V.bl)/\Q (.bl (bs.all id)) H) LC:=λG M h H xs s Q d r I q out=>by
 unfold LC ie at q;split at q
 .have(v,rfl,i):=I.lW;split at q
  .rename_i y e;split at q;.rename_i bs E;have(a,ws,b,s1,c):=fN r i e;rw[VB E c]at s1;exact(a,bs,by rw[b],jd.of s1,out _ h M H _ Ext.refl r gO q)
   .exact q.elim
  .exact q.elim
 .exact q.elim
def f9:ON:=λds h Q=>match ds with
 |[x]=>match Ef h x with|some s=>Q (.p (.tup s)) h|none=>False
 |_=>False
def KW:sy Y (λxs H Q=>∃p ys,xs=[.ref p]/\((jd Y.K H p ys/\∀l,H l=af->Q (.ref l) (dv H l (.tup ys)))\/fK Y.K H p ys/\Q (.ref p) H)) f9:=λG M h H xs s Q d r c q out=>by
 unfold f9 at q;split at q
 .have(v,rfl,i):=c.lW;split at q
  .rename_i ys e;have(a,ws,rfl,s1,I):=qj r i e;refine(a,ws,rfl,?_);rcases s1 with s1|s1;.exact .inl (s1,λp b=>out _ h M _ _ (Ext.add b) (r.add b) (uD r b I) q)
   .exact .inr (s1,out _ h M H _ Ext.refl r (by unfold cL bT;exact(a,ws,rfl,s1,I)) q)
  .exact q.elim
 .exact q.elim
def LK:ON:=λds h Q=>match ds with
 |[x]=>match Ef h x with|some s=>Q (.p (.lst s)) h|none=>False
 |_=>False
def KQ:sy Y (λxs H Q=>∃p ys,xs=[.ref p]/\(jd Y.K H p ys\/fK Y.K H p ys)/\∀l,H l=af->Q (.ref l) (dv H l (.lst ys))) LK:=λG M h H xs s Q d r I q out=>by
 unfold LK at q;split at q
 .have(v,rfl,i):=I.lW;split at q;.rename_i ys e;have(a,ws,rfl,s1,c):=qj r i e;exact(a,ws,rfl,s1,λp b=>out _ h M _ _ (Ext.add b) (r.add b) (kK r b c) q)
  .exact q.elim
 .exact q.elim
def LD:ON:=λds h Q=>match ds with|[.p (.int i)]=>Q (.p (.int i)) h|[.p (.bl b)]=>Q (.p (.int (b2 b))) h|_=>False
def KN:sy Y (λxs H Q=>(∃i,xs=[.int i]/\Q (.int i) H)\/∃k,xs=[.bl k]/\Q (.int (if k then 1 else 0)) H) LD:=λG M h H xs s Q a r I q out=>by
 unfold LD at q;split at q;.have(v,rfl,i):=I.lW;exact .inl (_,by rw[d9 i],out _ h M H _ Ext.refl r eM q)
 .have(v,rfl,i):=I.lW;rename_i b;exact .inr (b,by rw[Jr i],out _ h M H _ Ext.refl r (by cases b<;>exact eM) q)
 .exact q.elim
def LN:ON:=λds h Q=>match ds with|[.p (.str z)]=>Q (.p (.str z)) h|[.p (.int i)]=>gd (decide (i.natAbs.log2<1920)) (Q (.p (.str (toString i))) h)|_=>False
def KU:sy Y (λxs H Q=>(∃z,xs=[.str z]/\Q (.str z) H)\/∃i,xs=[.int i]/\i.natAbs.log2<1920/\Q (.str (toString i)) H) LN:=λG M h H xs s Q a r I q out=>by
 unfold LN at q;split at q;.have(v,rfl,i):=I.lW;exact .inl (_,by rw[eE i],out _ h M H _ Ext.refl r lE q)
 .have(v,rfl,i):=I.lW;have(k,q):=bq q;exact .inr (_,by rw[d9 i],aW k,out _ h M H _ Ext.refl r lE q)
 .exact q.elim
end
noncomputable def oW:Pv->Option cv|.str x=>O (.inr x)|.int i=>O (.inl i)|_=>af
def De:Pv->Pv->Bool|.str a,.str b=>aS a b|.int a,.int b=>jT a b|_,_=>a'
def iO(k:Pv):ϑ->ϑ->Option Pv
 |K::s,u::U=>match De K k with|true=>O u|false=>iO k s U
 |_,_=>af
def As(k:Pv):ϑ->Bool|[]=>a'|K::s=>De K k||As k s
def Ka(k v:Pv):ϑ->ϑ->ϑ|K::s,u::U=>(match De K k with|true=>v|false=>u)::Ka k v s U|_,U=>U
def rG(k v:Pv)(ks us:ϑ):ϑ:=match As k ks with|true=>Ka k v ks us|false=>us++[v]
def rF(k:Pv)(ks:ϑ):ϑ:=match As k ks with|true=>ks|false=>ks++[k]
section
variable{Y:T0}{X:Cx}{G M:List Addr}{H:Hp}
def Xn(e:oW k=O κ)(i:bT (Y.z G) M H k v):v=kV κ:=by
 cases k<;>first|(cases e;done)|skip
 .cases e;unfold bT at i;exact i
 .cases e;unfold bT at i;exact i
def Xo(i:bT (Y.z G) M H k (kV κ)):oW k=O κ:=by cases k with|str x=>unfold bT at i;cases κ<;>cases i;rfl|int x=>unfold bT at i;cases κ<;>cases i;rfl|non=>unfold bT at i;cases κ<;>cases i|bl _=>unfold bT at i;cases κ<;>cases i|ty _=>unfold bT at i;cases κ<;>cases i|_=>unfold bT at i;exfalso;cases κ<;>simp[kV]at i
def AO(h:oW a=O κ)(d:oW b=O c):De a b=decide (κ=c):=by
 cases a<;>first|(cases h;done)|skip
 all_goals(cases b<;>first|(cases d;done)|skip)
 all_goals(cases h;cases d)
 .rename_i x y;show jT x y=_;rw[uo];by_cases e:x=y;.rw[a9 e,a9 (by rw[e])]
  .rw[bg e,bg λz=>e (by cases z;rfl)]
 .rw[bg λz=>by cases z];rfl
 .rw[bg λz=>by cases z];rfl
 .rename_i x y;show aS x y=_;by_cases e:x=y;.rw[aQ.mpr e,a9 (by rw[e])]
  .rw[a8.mpr λz=>e (aQ.mp z),bg λz=>e (by cases z;rfl)]
def kE(Y:T0)(G M:List Addr)(H:Hp)(ks us:ϑ)(b:List (cv×V)):Prop:=aR (Y.z G) M H ks (b.map λp=>kV p.1)/\aR (Y.z G) M H us (b.map (·.2))
def kE.cons{ks us:ϑ}{p:cv×V}{bE:List (cv×V)}:kE Y G M H (k::ks) (u::us) (p::bE)↔(oW k=O p.1/\bT (Y.z G) M H u p.2)/\kE Y G M H ks us bE:=by
 unfold kE;rw[aH,aH];constructor;.rintro⟨a,b⟩;unfold aR at a b;exact((Xo a.1,b.1),a.2,b.2)
 .rintro⟨⟨a,b⟩,c,d⟩;unfold aR;refine((?_,c),b,d);cases k<;>first|(cases a;done)|skip
  .rename_i n;have:kV p.1=V.int n:=by injection a with a;rw[<-a];rfl
   unfold bT;exact this
  .rename_i n;have:kV p.1=V.str n:=by injection a with a;rw[<-a];rfl
   unfold bT;exact this
theorem kE.ind{P:ϑ->ϑ->List (cv×V)->Prop}(d:P [] [] [])(e:∀k u ks us p B,oW k=O p.1->bT (Y.z G) M H u p.2->kE Y G M H ks us B->P ks us B->P (k::ks) (u::us) (p::B)):∀{ks us:ϑ}{B:List (cv×V)},kE Y G M H ks us B->P ks us B|[],[],[],_=>d|k::ks,u::us,p::B,h=>by obtain⟨⟨a,b⟩,c⟩:=kE.cons.mp h;exact e k u ks us p B a b c (kE.ind d e c)|[],_::_,B,h=>by have:=h.1.len.trans (by rw[ae]);have:=h.2.len.trans (by rw[ae]);simp at*;lia|_::_,[],B,h=>by have:=h.1.len.trans (by rw[ae]);have:=h.2.len.trans (by rw[ae]);simp at*;lia|[],[],_::_,h=>by have:=h.1.len;simp at this|_::_,_::_,[],h=>by have:=h.1.len;simp at this
def Fb(h:oW k=O κ)(d:kE Y G M H ks us b):(∃p v,iO k ks us=O p/\oj b κ=O v/\bT (Y.z G) M H p v)\/iO k ks us=af/\oj b κ=af:=by
 refine kE.ind (P:=λks us b=>(∃p v,iO k ks us=O p/\oj b κ=O v/\bT (Y.z G) M H p v)\/iO k ks us=af/\oj b κ=af) (.inr (rfl,rfl)) (λK u ks us p b a c f i=>?_) d;have e:=AO a h;by_cases z:p.1=κ;.rw[a9 z]at e;refine .inl (u,p.2,by unfold iO;rw[e],vC z,c)
 .rw[bg z]at e;have E:iO k (K::ks) (u::us)=iO k ks us:=by show(match De K k with|true=>O u|false=>iO k ks us)=_;rw[e]
  rw[E,vB z];exact i
def Hj(a:oW k=O κ)(d:kE Y G M H ks us b)(e:iO k ks us=O p):∃v,oj b κ=O v/\bT (Y.z G) M H p v:=by
 rcases Fb a d with ⟨q,v,h,c,f⟩|⟨h,_⟩;.rw[e]at h;cases h;exact(v,c,f)
 .rw[e]at h;cases h
theorem kE.app(a:kE Y G M H ks us B)(b:kE Y G M H ks' us' A):kE Y G M H (ks++ks') (us++us') (B++A):=by unfold kE;rw[aq,aq];exact(a.1.app b.1,a.2.app b.2)
def kE.nil:kE Y G M H [] [] []:=by unfold kE;rw[b8,b8];unfold aR;exact(trivial,trivial)
def O9(c:oW k=O κ)(f:bT (Y.z G) M H w v)(d:kE Y G M H ks us b):kE Y G M H (rF k ks) (rG k w ks us) (uW b κ v):=by
 have h:(b.any λK=>decide (K.1=κ))=As k ks/\kE Y G M H ks (Ka k w ks us) (b.map λK=>if K.1=κ then(K.1,v)else K):=by
  refine kE.ind (P:=λks us b=>(b.any λK=>decide (K.1=κ))=As k ks/\kE Y G M H ks (Ka k w ks us) (b.map λK=>if K.1=κ then(K.1,v)else K)) (rfl,kE.nil) (λg u ks us p b a j l i=>?_) d;have e:=AO a c;refine(by rw[kR,i.1,<-e];rfl,?_);rw[aH];show kE Y G M H (g::ks) ((match De g k with|true=>w|false=>u)::Ka k w ks us) _;by_cases z:p.1=κ;.rw[bI z,e,a9 z];exact kE.cons.mpr ((a,f),i.2)
  .rw[bL z,e,bg z];exact kE.cons.mpr ((a,j),i.2)
 unfold rF rG uW;rw[h.1];cases m:As k ks with|true=>rw[bI rfl];exact h.2|false=>rw[bL aL];exact d.app (kE.cons.mpr ((c,f),kE.nil))
noncomputable def O8(h:Hs):Dv->Option (ϑ×ϑ)
 |.p (.dct k u)=>O (k,u)|.r i=>match h[i]? with|some (.dct k u)=>O (k,u)|_=>af
 |_=>af
def E9(r:bh (Y.z G) M H h)(i:cL (Y.z G) M H x v)(e:O8 h x=O (ks,us)):∃a bE,v=.ref a/\H a=O (.dK bE)/\kE Y G M H ks us bE:=by
 unfold O8 at e;split at e;.cases e;unfold cL bT at i;have(a,bE,b,_,c,d):=i;exact(a,bE,b,c,d)
 .split at e;.rename_i o;cases e;have(a,b,c):=i;have(bE,d,f):=r.at' b o;exact(a,bE,c,d,f)
  .cases e
 .cases e
def XJ:O2:=λx y h Q=>match y with
 |.p k=>match oW k with
  |some _=>match O8 h x with|some (K,u)=>ie (iO k K u) (λp=>Q (.p p) h) False|none=>False
  |none=>False
 |_=>False
def HP(neg:Bool):O2:=λy x h Q=>match y with
 |.p k=>match oW k with
  |some _=>match O8 h x with|some (K,u)=>Q (.p (.bl (N5 neg (iO k K u).isSome))) h|none=>False
  |none=>False
 |_=>False
variable{t:Tb}{E:XK}{e a b c:Expr}{A B C:Sm}{pos pos':Pos}
def Yl(hu:X.A.units+1<cLine)(l:PE X a (cA (yx t X) E A))(m:PE X b (cA (yx t X) E B))(s:Vf b):PE X (.Subscript a b pos) (cA (yx t X) E (s2 XJ A B)):=(Rc hu l m s).imp λτ H n h=>by
  refine vm (r:=λx y d Q=>∃a v,x=.ref a/\qC d a y (O v)/\Q v d) (λG M h H x y v u Q n r i j q out=>?_) h;unfold XJ ie at q;split at q
  .split at q
   .rename_i κ f;split at q
    .rename_i N U o;split at q;.rename_i p D;have(a,P,F,s1,I):=E9 r i o;have(w,K,L):=Hj f I D;have g:=qC.k (k:=κ) s1;rw[K,<-Xn f (show bT ((yx t X).z G) M H _ u from j)]at g;exact(a,w,F,g,out (.p p) h M H w Ext.refl r L q)
     .exact q.elim
    .exact q.elim
   .exact q.elim
  .exact q.elim
def J9:iD (yx t X) (λy x d Q=>∃a o,x=.ref a/\qC d a y o/\Q (.bl (neg !=o.isSome)) d) (HP neg):=λG M h H x y v u Q L r i j q out=>by
 unfold HP at q;simp only[Dr]at q;split at q
 .rename_i K;split at q
  .rename_i κ f;split at q
   .rename_i s U n;have(a,D,F,s1,I):=E9 r j n;have g:=qC.k (k:=κ) s1;rw[<-Xn f (show bT ((yx t X).z G) M H _ v from i)]at g;refine(a,_,F,g,out _ h M H _ Ext.refl r ?_ q);have e:(iO K s U).isSome=(oj D κ).isSome:=by rcases Fb f I with ⟨p,w,l,m,_⟩|⟨l,m⟩<;>rw[l,m]<;>rfl
    rw[e];exact gO
   .exact q.elim
  .exact q.elim
 .exact q.elim
def Q6(hu:X.A.units+1<cLine)(h:PE X a (cA (yx t X) E A))(d:PE X b (cA (yx t X) E B)):PC X .In a b (cA (yx t X) E (s2 (HP a') A B)):=λp s σ H Q I q=>by refine DI hu h d p s σ H Q I ?_;have z:=vm (J9 (neg:=a')) q;simp only[jF]at z;exact z
def DJ(hu:X.A.units+1<cLine)(h:PE X a (cA (yx t X) E A))(d:PE X b (cA (yx t X) E B)):PC X .NotIn a b (cA (yx t X) E (s2 (HP J) A B)):=λp s σ H Q I q=>by refine HX hu h d p s σ H Q I ?_;have z:=vm (J9 (neg:=J)) q;simp only[ph]at z;exact z
def ab7(h:PC X op a b (cA (yx t X) E A))(d:gi op b=a'):PE X (.Compare a [op] [b] pos) (cA (yx t X) E A):=Ye h d
def YA(h:PC X op a b (cA (yx t X) E A))(d:gi op b=a'):PT X (.Compare a [op] [b] pos) (jm (yx t X) E A):=(YK h d).imp λ_ _ _ q=>GH q
end
def we(A:Sm):Im:=λx σ h Q=>A x σ h λds H=>match ds with|[.p (.lst X)]=>Q X H|_=>False
def CD:O1:=λx h Q=>match x with|.p (.lst X)=>Q (.p (.lst X)) h|.p (.tup X)=>Q (.p (.lst X)) h|_=>False
noncomputable def ig(z:Str):ϑ:=z.cps.toList.map λc=>.str ⟨#[c]⟩
def D5:O1:=λx h Q=>match x with|.p (.str z)=>gd (gU z.length) (Q (.p (.lst (ig z))) h)|_=>False
def QU:ON:=λds h Q=>match ds with|[.p (.int n)]=>gd (gU n.toNat&&decide (-4611686018427387904<=n)) (Q (.p (.lst (lJ 0 n.toNat))) h)|_=>False
noncomputable def iT:ϑ->ϑ->ϑ|x::X,y::Y=>.tup [x,y]::iT X Y|_,_=>[]
def QW:ON:=λds h Q=>match ds with|[.p (.tup x),.p (.tup y)]=>Q (.p (.lst (iT x y))) h|_=>False
section
variable{t:Tb}{X:Cx}{E:XK}{e a b c:Expr}{b':List Expr}{A B T:Sm}{pos p:Pos}{Y:T0}{G M:List Addr}{H:Hp}{h:Hs}{tg:Expr}
def _root_.L2.PI.imp{X:Cx}{tg e:Expr}{t t':TI}(h:PI X tg e t')(i:∀σ H Q,t σ H Q->t' σ H Q):PI X tg e t:=λP s σ H Q I q=>h P s σ H Q I (i σ H Q q)
def agu(K:Frag)(tl:TE):TI:=λσ H R=>tl σ H λx d=>∃a,x=.ref a/\((∃s,jd K d a s)/\R (j0 K a) d\/(∃s,fK K d a s)/\R (ot K a) d)
def Mo(j:PE X l tl):PI X tg l (agu X.K tl):=by
 intro P s σ H R I h;refine dC (j P s σ H _ I h) λv s1 x=>?_;have(x,f,i,r,Q):=x;have(a,e,q):=Q;subst e;cases r;have F:∀b ∈[s1.heap.objs.size],mi X P f b:=λb k=>by
  have e:b=s1.heap.objs.size:=by simpa using k
  subst e;exact i.Kl (ay _) (i.di.fresh (ay _))
 rcases q with ⟨⟨m,g⟩,q⟩|⟨⟨m,g⟩,q⟩;.have(d,n,p,z):=i.list g;refine o7 p.isList ?_;exact(s1.heap.objs.size,[s1.heap.objs.size],_,_,f,rfl,i.kept (t':=s1.toks) λb o e=>aA _ e,IK a _,(_,a5 _ rfl,rfl,rfl),F,q)
 .have(d,n,p,z):=i.tuple g;refine zR (show s1.heap.IsTuple a d.toArray from p) ?_;exact(s1.heap.objs.size,[s1.heap.objs.size],_,_,f,rfl,i.kept (t':=s1.toks) λb o e=>aA _ e,Eu a _,(_,a5 _ rfl,rfl,rfl),F,q)
def Va(X:Cx)(H:Hp):Prop:=∃P σ s,Inv X P σ H s
def Va.len{a:Addr}(I:Va X H)(h:jd X.K H a vs\/fK X.K H a vs):vs.length<=sizeLine:=by
 have(_,_,_,I):=I;rcases h with h|h;.have(_,_,_,z):=I.list h;exact z
 .have(_,_,_,z):=I.tuple h;exact z
def F4(h:PI X tg e w):PI X tg e λσ H R=>w σ H λj d=>Va X d->R j d:=λP s σ H R I q=>dC (h P s σ H _ I q) λv s1 g=>dC g λk s2 (l,F,n,j,m,e,i,T,st,f,r)=>(l,F,n,j,m,e,i,T,st,f,r (_,_,_,i))
def Rl(o:PE X e (cA (yx t X) E A)):PI X tg e (zr (yx t X) E (we (s1 CD A))):=(F4 (Mo o)).imp λτ H R (G,M,σ,h,u,Q,k,q)=>by refine(G,M,σ,h,u,_,(k.rel,k.env,λd j m l v n f I g=>?_,k.exc),q);cases d with|r _=>exact g.elim|p d=>cases d with|lst x=>unfold cL bT at I;have(a,s,rfl,N,s1,i):=I;exact(a,rfl,.inl ((s,jd.of s1),λhd=>k.out x j m l _ n f (aaZ (Y:=yx t X) f N.1 (.inl s1) i) (by rw[i.len];exact hd.len (.inl (jd.of s1))) g))|tup x=>have(a,s,rfl,s1,i):=pA I;exact(a,rfl,.inr ((s,s1),λhd=>k.out x j m l _ n f (aa3 (Y:=yx t X) f s1 i) (by rw[i.len];exact hd.len (.inr s1)) g))|_=>exact g.elim
def aa1:Te Y G M H (sf z) (ig z):=λl m n o q e r=>by refine(λi x d=>?_,show(ig z).length=z.cps.size by unfold ig;rw[ae,bU]);unfold ig at d;rw[bN]at d;cases f:z.cps.toList[i]? with|none=>rw[f]at d;cases d|some c=>
  rw[f]at d;cases d;have K:z.cps[i]?=O c:=by rw[<-FS];exact f
  refine((eG.mp K).1,λw s j=>?_);have(j,C,g,k):=j;subst j;rw[K]at g;cases g;exact(Ext.refl,r,by subst k;unfold bT;rfl)
def Rm(g:PE X e (cA (yx t X) E A)):PI X (.Name y P) e (zr (yx t X) E (we (s1 D5 A))):=(YD g).imp λτ H R (G,M,σ,h,x,Q,k,q)=>by refine(G,M,σ,h,x,_,(k.rel,k.env,λd i m j v l n I f=>?_,k.exc),q);cases d with
 |r _=>exact f.elim|p d=>cases d with|str z=>
   have(c,f):=bq (show gd (gU z.length) _ from f);have o:(ig z).length<=sizeLine:=by unfold ig;rw[ae,bU];exact dy c
   exact(z,eE I,k.out _ i m j _ l n aa1 o f)|_=>exact f.elim
def Rk(i:Gl X "range")(m:X.mg "range"=af)(j:PA X [x] (gB (yx t X) E A))(D:b4 x):PI X tg (.Call (.Name "range" p) [x] [] pos) (zr (yx t X) E (we (sN QU A))):=(Ik i m j (c6 D)).imp λτ H R (G,M,σ,h,l,Q,k,q)=>by
  refine(G,M,σ,h,l,_,(k.rel,k.env,λd g o r v s u I f=>?_,k.exc),q);change QU d g _ at f;unfold QU at f;split at f
  .rename_i n;have(c,f):=bq f;rw[aO]at c;have(w,rfl,y):=I.lW;have hn:=dy c.1;have l3:sizeLine<2^62:=by ext
   refine(n,by rw[d9 y],by have:=aW c.2;lia,?_,k.out _ g o r _ s u aa0 (by unfold lJ;rw[ae,cP];exact hn) f);have:(n.toNat:Int)<2^62:=by have:n.toNat<2^62:=zP hn l3;exact_mod_cast this
   lia
  .exact f.elim
theorem BF:∀{xs ys:ϑ}{i:Nat}{z:Pv},(iT xs ys)[i]?=O z->∃x y,xs[i]?=O x/\ys[i]?=O y/\z=.tup [x,y]|[],_,_,_,e=>by simp[iT]at e|_::_,[],_,_,e=>by simp[iT]at e|x::_,y::_,0,_,e=>by cases e;exact(x,y,rfl,rfl,rfl)|_::_,_::_,i+1,_,e=>by have(x,y,d,f,g):=BF (i:=i) (by simpa[iT]using e);exact(x,y,by simpa using d,by simpa using f,g)
theorem vE:∀(xs ys:ϑ),(iT xs ys).length=min xs.length ys.length|[],_=>by simp[iT]|_::_,[]=>by simp[iT]|_::xs,_::ys=>by simp[iT,vE xs ys]
def KY{T:Addr}(r:bh (Y.z G) M H h)(d:H T=af)(i:bT (Y.z G) M H x v)(j:bT (Y.z G) M H y w):bT (Y.z G) M (dv H T (.tup [v,w])) (.tup [x,y]) (.ref T):=uD r d (show aR (Y.z G) M H ([x]++[y]) ([v]++[w])from(aR.one i).app (aR.one j))
def U0(r:bh (Y.z G) M H h)(s1:fK Y.K H d vs)(s2:fK Y.K H f ws)(k:aR (Y.z G) M H xs vs)(l:aR (Y.z G) M H ys ws):Te Y G M H (nr Y.K d f) (iT xs ys):=λN Q m U n e R=>by have s:fK Y.K m d vs:=(e.mv r).sqT s1;have S:fK Y.K m f ws:=(e.mv r).sqT s2;have I:=aR.mv (e.mv r) (aR.wk n k);have g:=aR.mv (e.mv r) (aR.wk n l);refine(λi z C=>?_,(vs,ws,s,S,by rw[vE,k.len,l.len];lia));have(x,y,D,F,rfl):=BF C;have(v,o,pv):=I.get D;have(w,q,P):=g.get F;refine((vs,ws,v,w,s,S,o,q),λu W T=>?_);have(T,j,hu,L):=T;have e2:=L vs ws v w s S o q;subst e2 hu;exact(Ext.add j,R.add j,KY R j pv P)
def Rn(l:Gl X "zip")(m:X.mg "zip"=af)(n:PA X [a,b] (gB (yx t X) E A))(g:b4 a)(i:b4 b):PI X (.Tuple es k0 j) (.Call (.Name "zip" p) [a,b] [] pos) (zr (yx t X) E (we (sN QW A))):=(F4 (YE l m n (by rw[c6 g,c6 i];rfl) (by rw[c6 i];rfl))).imp λτ H R (G,M,σ,h,x,Q,k,q)=>by
  refine(G,M,σ,h,x,_,(k.rel,k.env,λd g o s v y r z f=>?_,k.exc),q);change QW d g _ at f;unfold QW at f;split at f;.have(w,u,rfl,C,D):=z.two';have(a1,F,rfl,s1,I):=pA C;have(K,ws,rfl,s2,L):=pA D;refine(a1,K,rfl,(F,s1),(ws,s2),λhd=>k.out _ g o s _ y r (U0 (Y:=yx t X) r s1 s2 I L) ?_ f);rw[vE,I.len];exact aE (Nat.min_le_left ..) (hd.len (.inr s1))
  .exact f.elim
end
abbrev OM:=Dv->List Dv->Hs->(Dv->Hs->Prop)->Prop
def zS(Y:T0)(r:V->ϕ->Hp->VK->Prop)(o:OM):Prop:=∀G M h H x X v s Q q,bh (Y.z G) M H h->cL (Y.z G) M H x v->bY (Y.z G) M H X s->o x X h Q->(∀d b m a w,Ext M H m a->bh (Y.z G) m a b->cL (Y.z G) m a d w->Q d b->q w a)->r v s H q
def Dd(c:Nat)(h:Hs)(x:Dv):Bool:=match c with
 |0=>match x with|.p (.str _)=>J|_=>a'
 |4=>(iH h x).isSome||(mM h x).isSome|_=>a'
def Y3(c:Nat)(o:OM)(A R:Sm):Sm:=λX σ h Q=>A X σ h λs H=>match s with|[x]=>gd (Dd c H x) (R X σ H λds a=>o x ds a λd b=>Q [d] b)|_=>False
section
variable{t:Tb}{X:Cx}{E:XK}{e a b o:Expr}{b':List Expr}{A B C R T:Sm}{pos p ci dH:Pos}{Y:T0}{G M:List Addr}{H:Hp}{h:Hs}
def tG(r:bh (Y.z G) M H h)(i:cL (Y.z G) M H x v)(e:mM h x=O ds):∃n a vs,x=.r n/\M[n]?=O a/\v=.ref a/\H a=O (.lst vs)/\bY (Y.z G) M H ds vs:=by
 unfold mM at e;split at e
 .split at e;.rename_i d;cases e;have(a,c,f):=i;have(vs,g,j):=r.at' c d;exact(_,a,vs,rfl,c,f,g,j)
  .cases e
 .cases e
def T5(r:bh (Y.z G) M H h)(i:cL (Y.z G) M H x v)(e:Dd c h x):ij Y.K (jQ c) v H:=by
 unfold Dd at e;split at e
 .split at e;.rw[eE i];exact(rfl:"str"="str")
  .cases e
 .rw[cH]at e;rcases e with e|e;.have(f,ex):=cq.mp e;have(a,s,d,s1,I):=fN r i ex;rw[d];exact .inl (rfl,s,jd.of s1)
  .have(f,ex):=cq.mp e;have(n,a,s,_,_,d,s1,I):=tG r i ex;rw[d];exact .inl (rfl,s,jd.of s1)
 .cases e
def Zg{o:OM}(m:zS (yx t X) r o)(h:cA (yx t X) E (Y3 c o A R) τ H QV):Op X.K (jQ c) r (cA (yx t X) E A) (gB (yx t X) E R) τ H QV:=by have(G,M,σ,h,x,Q,k,q):=h;refine(G,M,σ,h,x,_,(k.rel,k.env,λd j n H1 v f g I i=>?_,k.exc),q);have(s,i):=bq (show gd (Dd c j d) _ from i);refine(T5 g I s,G,n,σ,j,x,_,(g,k.env.ext k.rel f,λds u y z D l F L N=>?_,k.Pf f),i);exact m G y u z d ds v D _ _ F (I.ext g l) L N λP S U W w Z r3 i3 q3=>k.out P S U W w (f.trans (l.trans Z)) r3 i3 q3
def Kg(d:(e::es).all b4)(l:(e::es).length<30):((en dH (dt (e::es) X.env)).all (λx=>!x.1)&&(backToKw dH (g_ [] X.env)).all (λx=>x.1.isSome)&&decide ((e::es).length+([]:List Keyword).length+(if([]:List Keyword).isEmpty then 0 else 1)<30))=true:=by
 have h1:=gS (env:=X.env) (pos:=dH) d;have c:(en dH (dt (e::es) X.env)).all (λx=>!x.1)=true:=by rw[ai];intro x f;rw[List.any_eq_false]at h1;have:=h1 x f;simpa using this
 rw[c,zC];simp only[aO];exact(rfl,a9 (by simpa using l))
def FY{id:String}(P:PlainAttrs (jQ c))(slot:Slot (jQ c) name id)(y:typeOf (.builtin id)=pure (.type "method_descriptor"))(f:Ve X id r)(m:zS (yx t X) r d)(g:PE X o (cA (yx t X) E A))(i:PA X (a::b') (gB (yx t X) E R))(u:gm o name X.env (eval o X.env)=eval o X.env)(D:(a::b').all b4)(l:(a::b').length<30)(j:(ci.endLine==dH.line)):PE X (.Call (.Attribute o name ci) (a::b') [] dH) (cA (yx t X) E (Y3 c d A R)):=by have hp:=D;rw[aG,aO]at hp;exact(Uq P slot y f g i u (Kg D l) j (c6 hp.1) (gS hp.2)).imp λ_ _ _=>Zg m
def Yr{id:String}(h:PE X (.Call (.Attribute o name ci) [] [] dH) (zn X.K (jQ c) r (cA (yx t X) E A)))(m:zS (yx t X) r g):PE X (.Call (.Attribute o name ci) [] [] dH) (cA (yx t X) E (Y3 c g A Ec)):=h.imp λτ H U (G,M,σ,h,x,Q,k,q)=>by refine(G,M,σ,h,x,_,(k.rel,k.env,λd i l n v s j I f=>?_,k.exc),q);have(u,f):=bq (show gd (Dd c i d) _ from f);exact(T5 j I u,m G l i n d [] v [] _ _ j I trivial f λD y z F w L N P S=>k.out D y z F w (s.trans L) N P S)
def jD:OM:=λx ds h Q=>match x,ds with
 |.r i,[d]=>match h[i]? with
  |some (.lst s)=>match d with|.p y=>gd (gU (s.length+1)) (Q (.p .non) (h.set i (.lst (s++[y]))))|.r _=>False
  |some (.du s)=>gd (gU (s.length+1)) (Q (.p .non) (h.set i (.du (s++[d]))))|_=>False
 |_,_=>False
theorem bY.app:∀{xs ys:List Dv}{vs ws:ϕ},bY Z M H xs vs->bY Z M H ys ws->bY Z M H (xs++ys) (vs++ws)|[],_,[],_,_,q=>q|[],_,_::_,_,h,_=>h.elim|_::_,_,[],_,h,_=>h.elim|_::_,_,_::_,_,h,q=>(h.1,bY.app h.2 q)
def bY.one(h:cL Z M H d v):bY Z M H [d] [v]:=(h,trivial)
def Qd:zS Y Ge jD:=λG M h H x F v I Q K r i D q out=>by
 unfold jD at q;split at q
 .rename_i n d;have(w,rfl,j):=D.lW;have(a,f,z):=i;have l:a∈M:=a7 f;split at q;.rename_i s m;cases d with|r _=>exact q.elim|p y=>have(c,q):=bq q;have(ws,u,g):=r.at' f m;have k:=dy c;refine(a,ws,w,z,rfl,u,by rw[g.len]at k;exact k,?_);refine out _ _ M _ .non (Ext.put l) (r.put (o:=.lst (s++[y])) f (_,bQ,?_)) tm q;exact(g.app (aR.one j)).ext r (Ext.put l)
  .rename_i s m;have(c,q):=bq q;have(ws,u,g):=r.at' f m;have k:=dy c;refine(a,ws,w,z,rfl,u,by rw[g.len]at k;exact k,?_);refine out _ _ M _ .non (Ext.put l) (r.put (o:=.du (s++[d])) f (_,bQ,?_)) tm q;exact(g.app (bY.one j)).ext r (Ext.put l)
  .exact q.elim
 .exact q.elim
noncomputable def ahx(xs:ϑ)(v:Pv):Int->Option ϑ
 |.ofNat n=>match aa4 (n+1) xs.length with|true=>O (xs.set n v)|false=>af
 |_=>af
def PY(A B C:Sm):Ss:=λN σ h=>A N.xc σ h λs d=>match s with
 |[.p v]=>B N.xc σ d λx f=>match x with
  |[.r i]=>C N.xc σ f λy c=>match y with
   |[.p (.int k)]=>match c[i]? with
    |some (.lst z)=>match ahx z v k with|some Z=>N.nx σ (c.set i (.lst Z))|none=>False
    |_=>False
   |_=>False
  |_=>False
 |_=>False
theorem aR.set(i:bT Z M H x v):∀{xs:ϑ}{vs:ϕ}(n:Nat),aR Z M H xs vs->aR Z M H (xs.set n x) (vs.set n v)|[],[],_,q=>q|[],_::_,_,q=>by unfold aR at q;exact q.elim|_::_,[],_,q=>by unfold aR at q;exact q.elim|_::_,_::_,0,q=>by unfold aR at q;rw[List.set_cons_zero,List.set_cons_zero];unfold aR;exact(i,q.2)|_::_,_::_,n+1,q=>by unfold aR at q;rw[List.set_cons_succ,List.set_cons_succ];unfold aR;exact(q.1,aR.set i n q.2)
def YN(h:eI (yx t X) E (PY A B C) D τ H):zp (cA (yx t X) E A) (Wl (cA (yx t X) E B) (cA (yx t X) E C) ME) D τ H:=by have(G,M,σ,h,N,k,q):=h;have ex:∀{F I},Ext M H F I->∀C f c H1,Ext F I c H1->bh ((yx t X).z G) c H1 f->N.xc C f->E (.ref (t.ca C)) af H1:=λe C f c H1 x r q=>k.exc C f c H1 (e.trans x) r q;refine(G,M,σ,h,N.xc,_,(k.rel,k.env,λd f c H1 v g K U L=>?_,k.exc),q);cases d with|r _=>exact L.elim|p x=>refine(G,c,σ,f,N.xc,_,(K,k.env.ext k.rel g,λd2 h2 M2 H2 v2 i s i2 P=>?_,ex g),L);cases d2 with|p _=>exact P.elim|r n=>
   refine(G,M2,σ,h2,N.xc,_,(s,k.env.ext k.rel (g.trans i),λd3 h3 M3 H3 v3 l u i3 Q=>?_,ex (g.trans i)),P);split at Q
   .rename_i kk W;injection W with W;subst W;split at Q
    .rename_i Z ho;split at Q;.rename_i zM j;have(a,w,g2):=i2.ext s l;have(ws,g3,S):=u.at' w ho;have y:a∈M3:=a7 w;cases kk with|negSucc m=>cases j|ofNat m=>
       change(match aa4 (m+1) Z.length with|true=>O (Z.set m x)|false=>af)=O zM at j;split at j
       .rename_i hb;cases j;have hm:m<Z.length:=bj hb;refine(a,ws,(m:Int),m,g2,d9 i3,g3,?_,?_);.unfold T4;rw[bI (Int.natCast_nonneg m),bI (by rw[<-S.len];lia)];rfl
        .have ix:=((show bT ((yx t X).z G) c H1 x v from U).ext K i).ext s l;refine k.nx σ _ M3 _ τ ((g.trans (i.trans l)).trans (Ext.put y)) (u.put (o:=.lst (Z.set m x)) w (_,bQ,?_)) (k.env.ext k.rel ((g.trans (i.trans l)).trans (Ext.put y))) Q;exact(S.set ix m).ext u (Ext.put y)
       .cases j
     .exact Q.elim
    .exact Q.elim
   .exact Q.elim
structure tS(K:Frag)(t:Tb)(c:Nat):Prop where
 cl:EC K (t.ca c)na:∀f∈t.fl c,kX K (t.ca c) f
 nd:(t.fl c).Nodup
noncomputable def Kh(c j:Nat)(h:Hs):Dv->Option Dv
 |.p (.obj d fs)=>match aa6 d c with
  |true=>match fs[j]? with|some x=>O (.p x)|none=>af
  |false=>af
 |.r i=>match h[i]? with
  |some (.ins d fs)=>match aa6 d c with|true=>fs[j]?|false=>af
  |_=>af
 |_=>af
def j9(c j:Nat):O1:=λx h Q=>match Kh c j h x with|some d=>Q d h|none=>False
theorem nK:∀{fv:List (Str×V)}{l:ϐ}{j:Nat}{v:V},l.Nodup->fv.map (·.1)=l.take fv.length->l[j]?=O f->(fv.map (·.2))[j]?=O v->fv.lookup f=O v|[],_,_,_,_,_,_,e=>by simp at e|(g,w)::fv,[],_,_,_,e,_,_=>by simp at e|(g,w)::fv,x::l,0,v,n,e,c,d=>by rw[aH,ag,dY]at e;injection e with i k;cases c;cases d;rw[fD,show(f==g)=J from nZ.mpr i.symm]|(g,w)::fv,x::l,j+1,v,n,e,c,d=>by rw[aH,ag,dY]at e;injection e with i k;rw[cj]at n;have m:f∈l:=a7 (by simpa using c);rw[fD,show(f==g)=a' from b3.mpr λz=>n.1 (by rw[<-i,<-z];exact m)];exact nK n.2 k (by simpa using c) (by simpa using d)
def Ym(i:tS X.K t c)(m:(t.fl c)[j]?=O f)(ha:PE X a (cA (yx t X) E A))(hb:gm a f X.env (eval a X.env)=eval a X.env):PE X (.Attribute a f pos) (cA (yx t X) E (s1 (j9 c j) A)):=(Yf ha hb).imp λτ H QV (G,M,σ,h,xc,Q,k,q)=>by
  refine(G,M,σ,h,xc,_,(k.rel,k.env,λd s W Z v e1 y z l=>?_,k.exc),q);change j9 c j d s _ at l;unfold j9 at l;split at l;.rename_i D g;cases d with
   |p d=>cases d with
    |obj u fs=>
     change(match aa6 u c with
      |true=>match fs[j]? with|some x=>O (Dv.p x)|none=>af
      |false=>af)=O D at g;split at g
     .rename_i L;split at g
      .rename_i x ex;cases g;obtain rfl:=ax L;unfold cL bT at z;have(a,N,F,rfl,_,s1,l1,I):=z;have(w,P,S):=I.get ex;have U:fs.length=F.length:=by have:=I.len;rw[ae]at this;exact this
       rw[U]at l1;exact(a,_,N,F,w,rfl,s1,i.cl,i.na f (a7 m),nK i.nd l1 m P,k.out (.p x) s W Z w e1 y S l)
      .cases g
     .cases g|_=>cases g
   |r n=>
    change(match s[n]? with
     |some (.ins u fs)=>match aa6 u c with|true=>fs[j]?|false=>af
     |_=>af)=O D at g;split at g
    .rename_i u fs ho;split at g
     .rename_i L;obtain rfl:=ax L;have(a,g0,rfl):=z;have(N,F,s1,_,l1,I):=y.at' g0 ho;have(w,P,S):=I.get g;have U:fs.length=F.length:=by have:=I.len;rw[ae]at this;exact this
      rw[U]at l1;exact(a,_,N,F,w,rfl,s1,i.cl,i.na f (a7 m),nK i.nd l1 m P,k.out D s W Z w e1 y S l)
     .cases g
    .cases g
  .exact l.elim
noncomputable def RW(j:Nat)(d:Dv)(fs:List Dv):Option (List Dv):=match aa6 j fs.length with|true=>O (fs++[d])|false=>match aa4 (j+1) fs.length with|true=>O (fs.set j d)|false=>af
def lY(c j i:Nat)(d:Dv)(h:Hs)(K:Hs->Prop):Prop:=match h[i]? with|some (.ins f fs)=>gd (aa6 f c&&aa4 (fs.length+1) 1000) (match RW j d fs with|some y=>K (h.set i (.ins c y))|none=>False)|_=>False
def UM(c j:Nat)(A B:Sm):Ss:=λN σ h=>A N.xc σ h λv f=>match v with
 |[d]=>B N.xc σ f λx g=>match x with|[.r i]=>lY c j i d g λk=>N.nx σ k|_=>False
 |_=>False
theorem za:∀{fv:List (Str×V)}{l:ϐ}{j:Nat},l.Nodup->fv.map (·.1)=l.take fv.length->l[j]?=O f->j<fv.length->(iJ f v fv).map (·.1)=fv.map (·.1)/\(iJ f v fv).map (·.2)=(fv.map (·.2)).set j v/\(iJ f v fv).length=fv.length|[],_,_,_,_,_,h=>by simp at h|(g,w)::fv,[],_,_,e,_,_=>by simp at e|(g,w)::fv,x::l,0,n,e,d,_=>by rw[aH,ag,dY]at e;injection e with i k;cases d;have:iJ f v ((g,w)::fv)=(g,v)::fv:=bI i;rw[this];exact(rfl,rfl,rfl)|(g,w)::fv,x::l,j+1,n,e,d,m=>by rw[aH,ag,dY]at e;injection e with i k;rw[cj]at n;have q:f∈l:=a7 (by simpa using d);have:iJ f v ((g,w)::fv)=(g,w)::iJ f v fv:=bL λz=>n.1 (by rw[<-i];show g∈l;rw[z];exact q);rw[this];have(a,b,c):=za (v:=v) (fv:=fv) n.2 k (by simpa using d) (by simpa using m);exact(by rw[aH,a];rfl,by rw[aH,b];rfl,by rw[ag,c];rfl)
theorem Ba:∀{fv:List (Str×V)}{l:ϐ},l.Nodup->fv.map (·.1)=l.take fv.length->l[fv.length]?=O f->iJ f v fv=fv++[(f,v)]
 |[],_,_,_,_=>rfl|(g,w)::fv,[],_,e,_=>by simp at e|(g,w)::fv,x::l,n,e,c=>by
  rw[aH,ag,dY]at e;injection e with d i;rw[cj]at n;have W:l[fv.length]?=O f:=by simpa using c
  have:iJ f v ((g,w)::fv)=(g,w)::iJ f v fv:=bL λz=>n.1 (by rw[<-d];show g∈l;rw[z];exact a7 W);rw[this,Ba n.2 i W];rfl
theorem bY.set(i:cL Z M H x v):∀{xs:List Dv}{vs:ϕ}(n:Nat),bY Z M H xs vs->bY Z M H (xs.set n x) (vs.set n v)|[],[],_,q=>q|[],_::_,_,q=>q.elim|_::_,[],_,q=>q.elim|_::_,_::_,0,q=>(i,q.2)|_::_,_::_,n+1,q=>(q.1,bY.set i n q.2)
def PB(m:tS X.K t c)(i:(t.fl c)[j]?=O f)(h:eI (yx t X) E (UM c j A B) D τ H):Ji X.K (cA (yx t X) E B) (cA (yx t X) E A) f D τ H:=by have(G,M,σ,h,N,k,q):=h;refine(G,M,σ,h,N.xc,_,(k.rel,k.env,λd P S H1 v u r1 i1 q1=>?_,k.exc),q);refine(G,S,σ,P,N.xc,_,(r1,k.env.ext k.rel u,λd2 h2 M2 H2 v2 U W i2 Q=>?_,λC P S H1 x r q=>k.exc C P S H1 (u.trans x) r q),q1);cases d2 with|p _=>exact Q.elim|r n=>
  change match h2[n]? with|some (.ins g fs)=>gd (aa6 g c&&aa4 (fs.length+1) 1000) (match RW j d fs with|some y=>N.nx σ (h2.set n (.ins c y))|none=>False)|_=>False at Q;split at Q
  .rename_i g fs ho;have(Z,Q):=bq Q;rw[aO]at Z;obtain rfl:=ax Z.1;have hl:=bj Z.2;split at Q
   .rename_i y s;have(a,g0,rfl):=i2;have ha:a∈M2:=a7 g0;have(w,l,s1,s2,l1,i3):=W.at' g0 ho;have L:fs.length=l.length:=by have:=i3.len;rw[ae]at this;exact this
    rw[L]at l1;have I:=i1.ext r1 U;refine(a,_,w,l,rfl,s1,m.cl,m.na f (a7 i),by lia,?_);have dxa:w≠a:=λz=>by rw[z,s1]at s2;cases s2
    have fin:∀F,F.map (·.1)=(t.fl g).take y.length->bY ((yx t X).z G) M2 H2 y (F.map (·.2))->D.nx τ (dv H2 a (.ins (t.ca g) w F)):=λF wa TM=>k.nx σ _ M2 _ τ ((u.trans U).trans (Ext.put ha)) (W.put (o:=.ins g y) g0 (w,F,bQ,by rw[bJ dxa];exact s2,wa,TM.ext W (Ext.put ha))) (k.env.ext k.rel ((u.trans U).trans (Ext.put ha))) Q;unfold RW at s;split at s
    .rename_i ej;cases s;have ej:=ax ej;subst ej;rw[L]at i;rw[Ba m.nd l1 i];refine fin _ ?_ ?_;.rw[aq,l1,aa,L];show List.take l.length (t.fl g)++[f]=List.take (l.length+1) (t.fl g);rw[List.take_succ,i];rfl
     .rw[aq];exact i3.app (bY.one I)
    .split at s
     .rename_i eb;cases s;have e_:j<l.length:=by rw[<-L];exact bj eb
      have(p1,p2,p3):=za (v:=v) m.nd l1 i e_;refine fin _ ?_ ?_;.rw[p1,l1,a6,L]
      .rw[p2];exact i3.set I j
     .cases s
   .exact Q.elim
  .exact Q.elim
def J5(c:Nat)(d:Hs)(Q:KP)(l:Hs):Prop:=match l with
 |[.ins f fs]=>match vK fs with|some P=>gd (aa6 f c) (Q [.p (.obj c P)] d)|none=>False
 |_=>False
def C8:Dv->Bool|.p .non=>J|_=>a'
def CW(c:Nat)(ct:Ct)(A:Sm):Sm:=λx σ h Q=>A x σ h λds f=>match vK ds with|some _=>ct (.r 0::ds) [.ins c []] (λd l=>gd (C8 d) (J5 c f Q l)) λ_ _=>False|none=>False
theorem MA{M M':List Addr}{H H':Hp}(f:∀{x v},bT Z M H x v->bT z M' H' x v):∀{ds:List Dv}{vs:ϕ}{xs:ϑ},vK ds=O xs->bY Z M H ds vs->bY z M' H' ds vs
 |[],[],_,_,_=>trivial|[],_::_,_,_,q=>q|_::_,[],_,_,q=>q|.r _::_,_::_,_,e,_=>by cases e|.p x::ds,v::vs,xs,e,q=>by
  unfold vK at e;split at e;.rename_i s y;exact(f q.1,MA f y q.2)
  .cases e
theorem Gb:∀{ds:List Dv}{xs:ϑ},vK ds=O xs->ds.length=xs.length
 |[],_,e=>by cases e;rfl|.r _::_,_,e=>by cases e|.p x::ds,xs,e=>by
  unfold vK at e;split at e;.rename_i s y;cases e;rw[ag,ag,Gb y]
  .cases e
def Ys(D:sv X.prog X.w X.K X.mg X.base k0 x (t.ca c) ps (iK (yx t X) ct))(hr:dR (k0+1) X.A)(hg:Gl X x)(I:PA X (a::b') (gB (yx t X) E A))(jh:(x==("__debug__":Str))=a')(d7:(a::b').all b4):PE X (.Call (.Name x p) (a::b') [] pos) (cA (yx t X) E (CW c ct A)):=(A4 D hr hg I jh d7).imp λτ H QV (G,M,σ,h,xc,Q,k,q)=>by
 refine(G,M,σ,h,xc,_,(k.rel,k.env,λd h1 L g v e1 u i1 P=>?_,k.exc),q);split at P
 .rename_i xs ex;intro x f N nd QN;have nx2:dv g f (.own x) x=none:=by rw[bJ (bX QN)];exact N
  have F:qE g (dv (dv g f (.own x)) x (.ins (t.ca c) f [])):=λb o e=>by rw[bJ (bV e N),bJ (bV e nd)];exact e
  have hx:dv (dv g f (.own x)) x (.ins (t.ca c) f []) x=O (.ins (t.ca c) f []):=bQ;have s:dv (dv g f (.own x)) x (.ins (t.ca c) f []) f=O (.own x):=by rw[bJ QN];exact bQ
  generalize dv (dv g f (.own x)) x (.ins (t.ca c) f [])=H2 at F hx s;have r2:=mR u F;rw[aI];refine(G++L,[x],[.ins c []],.r 0::d,_,_,(by simp,λb j=>?_,rfl,λb j=>?_,λi a o g1 g2=>?_),((x,rfl,rfl),?_),P,λd h' M' H' v U W i' qa=>?_,λc h' M' H' U W q'=>q'.elim);.rw[aV.mp j];have(n1,n2):=u.oO N;exact λz=>(bf.mp z).elim n2 n1
  .rcases bf.mp j with z|z;.exact r2.gs b z
   .have(o,e,_):=r2.there z;exact(o,e)
  .cases i with|zero=>cases g1;cases g2;exact(f,[],hx,s,rfl,trivial)|succ i=>simp at g1
  .refine MA (λ{y w}iy=>?_) ex i1;have Z:=bT.fr (G':=G++L) (M':=[x]) (λa I=>?_) iy;.exact bT.mv (M':=[x]) (H':=H2) (λb j vs z=>(by rw[aV.mp j]at z;rcases z with z|⟨_,z⟩<;>rw[N]at z<;>cases z),λb o _ e=>F b o e,λb j n=>absurd j n) Z
   .rcases I with z|z;.rw[aV.mp z];exact .inr (.inr N)
    .exact(bf.mp z).elim (λz=>.inr (.inl z)) .inl
  .have(cn,m):=bq qa;clear qa;have dn:d=.p .non:=by cases d with|r _=>cases cn|p d=>cases d<;>first|rfl|cases cn
   subst dn;refine(Js i',?_);unfold J5 at m;split at m
   .rename_i c' fs;split at m
    .rename_i qs eq;have(c2,qc):=bq m;obtain rfl:=ax c2;have(l,hl):=U.pre;have hM:M'=[x]:=by have:=W.ln;rw[hl]at this;cases l with|nil=>exact hl|cons _ _=>simp at this
     subst hM;have S:qE g H':=λb o e=>U.keep b o (λz=>by rw[aV.mp z,N]at e;cases e) (F b o e);have(ω,fv,s1,s2,l1,i3):=W.at' (i:=0) (a:=x) rfl rfl;have i4:=qY (Y:=yx t X) eq i3;refine k.out _ h1 L H' _ (e1.trans (iE S)) (mR u S) ?_ qc;have fg:=u.oO N;unfold cL bT;refine(x,ω,fv,rfl,fg,s1,by rw[<-Gb eq];exact l1,?_);exact aR.up (Y:=yx t X) (λa h1 h2=>(λz=>h2 (ba _ z),λz=>h2 (g6 _ z))) i4
    .exact m.elim
   .exact m.elim
 .exact P.elim
def Sa(P:cr)(w:cf)(K:Frag)(m:db)(base:Heap)(k:Nat)(E:XK)(x:TE)(t:TA):TE:=λσ H Q=>x σ H λv c=>∃(f:Addr)(F:dV)(s:ϐ)(sp:Sp),v=.ref f/\iB P w K m base (o8 P w) k f F s sp/\keepIn K (.ref f)=J/\Binds K F s []/\t σ c λd g=>sp d g Q E
def HY{t:TA}(j:PE X (.Name x p) c)(l:dR k X.A)(m:dZ (o8 X.prog X.w) X E)(n:PA X (e::es) t)(d:(e::es).all b4):PE X (.Call (.Name x p) (e::es) [] pos) (Sa X.prog X.w X.K X.mg X.base k E c t):=by intro P s σ H Q I h;rw[aG,aO]at d;refine fX (dC (j P s σ H _ I h) λv s1 y=>?_);have(y,u,i,r,f,U,W,sp,z,F,D,L,q):=y;subst z;cases r;refine nY (h₀:=X.base) i.ok.mod.T6 D (dC (n pos P s1 σ u _ i q) λZ s2 (vs,H2,g,N,S)=>(g.nF,?_)) (c6 d.1) (gS d.2);exact zd F l L .nil m g N (by rw[aI];exact S)
def MS(fn:Nat->Ct)(q:Ϙ)(ρ:Ϙ)(A R:Sm):Sm:=λx σ h Q=>A x σ h λs c=>match s with|[.p (.fn i)]=>gd (gH i q) (R x σ c λds f=>Xs ρ (fn i) ds f (λd g=>Q [d] g) x)|_=>False
def Md(D:∀i∈m,∃ps,oG X.prog X.w X.K X.mg X.base k (t.fA i) ps (iK (yx t X) (fn i)))(S:dR k X.A)(U:dZ (o8 X.prog X.w) X E)(W:PE X (.Name x p) (cA (yx t X) E A))(Z:PA X (a::b') (gB (yx t X) E R))(d7:(a::b').all b4):PE X (.Call (.Name x p) (a::b') [] pos) (cA (yx t X) E (MS fn m ρ A R)):=(HY W S U Z d7).imp λτ H QV (G,M,σ,h,L,Q,k,q)=>by refine(G,M,σ,h,L,_,(k.rel,k.env,λd h1 M1 H1 v j r1 N g=>?_,k.exc),q);cases d with|r _=>exact g.elim|p d=>cases d with|fn i=>have(c,g):=bq (show gd (gH i m) _ from g);have(ps,f,fd,F,hm,hk,hb):=D i (b9.mp c);unfold cL bT at N;have(a,l,rfl):=N;change X.mg (t.fA i)=O (.ref a)at l;rw[hm]at l;cases l;refine(f,fd,ps,_,rfl,F,hk,hb,G,M1,σ,h1,L,_,(r1,k.env.ext k.rel j,λds l M2 H2 vs P r2 i2 q2=>?_,k.Pf j),g);exact xq r2 i2 q2 (λd3 n s u w y z i3 I=>k.out d3 n s u w (j.trans (P.trans y)) z i3 I) λc n s u y z I=>k.exc c n s u (j.trans (P.trans y)) z I|_=>exact g.elim
noncomputable def jP(ks:ϐ):Pv:=.tup (ks.map .str)
theorem kL:∀{ks:ϐ},aR (Y.z G) M H (ks.map .str) (ks.map V.str)|[]=>by rw[b8,b8];unfold aR;trivial|k::ks=>by rw[aH,aH];unfold aR;exact(by unfold bT;rfl,kL)
def FP(c:Str->Option ϐ):O1:=λx h Q=>match x with|.p (.str z)=>ie (c z) (λk=>Q (.p (jP k)) h) (Q (.p .non) h)|_=>False
def QX(c:Str->Option ϐ):O1:=λx h Q=>match x with|.p (.str z)=>ie (c z) (λk=>Q (.p (jP k)) h) False|_=>False
def M9(h:b4 e):dt [e] env=[(a',eval e env)]:=by rw[c6 h];rfl
def Ri{ad:Addr}(T:BX X.w X.K ad c)(s:Gl X n)(u:X.mg n=O (.ref ad))(x:PE X e (cA (yx t X) E A))(y:(n==("__debug__":Str))=a')(D:b4 e)(P:(ci.endLine==dH.line)):PE X (.Call (.Attribute (.Name n p) "get" ci) [e] [] dH) (cA (yx t X) E (s1 (FP c) A)):=(Ii T s u x y rfl (Kg (by rw[aG,D];rfl) (show 1<30 by ext)) P (M9 D)).imp λτ H L (G,M,σ,h,F,Q,k,q)=>by
  refine(G,M,σ,h,F,_,(k.rel,k.env,λd g m j v l r I f=>?_,k.exc),q);change FP c d g _ at f;unfold FP ie at f;split at f
  .rename_i z;refine(z,eE I,?_);split at f;.rename_i N i;rw[i];exact λb sq=>k.out _ g m j _ l r (by unfold cL jP bT;exact(b,_,rfl,sq,kL)) f
   .rename_i i;rw[i];exact k.out _ g m j _ l r tm f
  .exact f.elim
def Yu{ad:Addr}(T:BX X.w X.K ad c)(i:Gl X n)(m:X.mg n=O (.ref ad))(j:PE X e (cA (yx t X) E A))(l:(n==("__debug__":Str))=a')(s:nc e):PE X (.Subscript (.Name n p) e pos) (cA (yx t X) E (s1 (QX c) A)):=(FX (Xf T) (nL (v:=.ref ad) i m rfl l) j s).imp λτ H N (G,M,σ,h,x,Q,k,q)=>by
  refine(G,M,σ,h,x,_,(k.rel,k.env,λd g r u v y D I f=>?_,k.exc),q);change QX c d g _ at f;unfold QX ie at f;split at f
  .rename_i z;split at f;.rename_i F L;exact(rfl,z,F,eE I,L,λb sq=>k.out _ g r u _ y D (by unfold cL jP bT;exact(b,_,rfl,sq,kL)) f)
   .exact f.elim
  .exact f.elim
noncomputable def kg:ϑ->Option ϐ
 |[]=>O []|.str x::r=>match kg r with|some s=>O (x::s)|none=>af
 |_::_=>af
def GB:∀{ws:ϐ}{vs:ϕ},kg xs=O ws->aR (Y.z G) M H xs vs->vs=ws.map V.str:=by induction xs with
 |nil=>intro ws vs e q;cases e;cases vs with|nil=>rfl|cons _ _=>unfold aR at q;exact q.elim
 |cons x xs i=>intro ws vs e q;cases vs with|nil=>unfold aR at q;exact q.elim|cons v vs=>have q2:=wP q;have Q:=q2.1;replace q2:=q2.2;clear q;cases x with
   |str z=>change(match kg xs with|some s=>O (z::s)|none=>af)=O ws at e;cases y:kg xs with|none=>rw[y]at e;exact k8 e|some s=>rw[y]at e;cases e;rw[eE Q,i y q2];rfl
   |_=>exact k8 e
def FO:O1:=λx h Q=>match iH h x with|some s=>ie (kg s) (λws=>gd (aa4 ((dE ws).length+1) 64) (Q (.p (.int (dE ws).length)) h)) False|none=>False
def Rh(m:X.calm)(n:Gl X "len")(s:X.mg "len"=af)(i:Gl X "set")(u:X.mg "set"=af)(w:PE X e (cA (yx t X) E A))(D:b4 e):PE X (.Call (.Name "len" p) [.Call (.Name "set" P) [e] [] g] [] pos) (cA (yx t X) E (s1 FO A)):=(Ur Hd n s JF (hX (Us (tY m) i u VE (hX w qX D) (by ext) (by ext) (by rw[aG,D];rfl)) qX rfl) (by ext) (by ext) rfl).imp λτ H L (G,M,σ,h,x,Q,k,q)=>by
  refine(G,M,σ,h,x,_,(k.rel,k.env,λd j y N v z r I f=>?_,k.exc),q);change FO d j _ at f;unfold FO ie at f;split at f
  .rename_i S ex;split at f;.rename_i ws F;have(c,f):=bq f;have(a,U,rfl,s1,K):=fN r I ex;rw[GB F K]at s1;refine(a,ws,rfl,jd.of s1,bj c,λb l=>?_);exact(b,dE ws,rfl,bQ,k.out _ j y _ _ (z.trans (Ext.add l)) (r.add l) eM f)
   .exact f.elim
  .exact f.elim
def LL:O2:=λx y h Q=>match x,y with
 |.p (.int i),.p (.int j)=>gd (xQ i j) (Q (.p (.int (i*j))) h)|x,.p (.int k)=>match iH h x with|some s=>gd (gU (s.length*k.toNat)&&decide (-2^63<=k)&&decide (k<2^63)) (Q (.p (.lst (aa5 k.toNat s).flatten)) h)|none=>False
 |_,_=>False
def Uy:R2:=λx y H Q=>rI Jq (λi j=>.int (i*j)) x y H Q\/AT x y H Q
def Q3:jZ X (binaryOp .Mult) Uy:=X2.or X4
theorem aR.rep(q:aR (Y.z G) M H xs vs):∀n:Nat,aR (Y.z G) M H (aa5 n xs).flatten (aa5 n vs).flatten|0=>by rw[xD,xD,GO,GO];unfold aR;trivial|n+1=>by rw[b0,b0,cx,cx];exact q.app (aR.rep q n)
def KR:iD Y Uy LL:=λG M h H x y v u Q g r i j q out=>by
 unfold LL at q;split at q;.have(k,q):=bq q;exact .inl (_,_,d9 i,d9 j,OE k,out _ h M H _ Ext.refl r eM q)
 .split at q;.rename_i l ex;have(c,q):=bq q;simp only[aO,dM]at c;have(a,s,f,s1,I):=fN r i ex;exact .inr (a,_,s,f,d9 j,s1,c.1.2,c.2,by rw[<-I.len];exact dy c.1.1,λp d=>out _ h M _ _ (Ext.add d) (r.add d) (kK r d (I.rep _)) q)
  .exact q.elim
 .exact q.elim
def rW:ϑ->Option (ϑ×ϑ)
 |[]=>O ([],[])|.tup [k,v]::r=>match oW k,rW r with|some _,O (K,s)=>O (k::K,v::s)|_,_=>af
 |_::_=>af
def yg:ϑ->ϑ->ϑ×ϑ->ϑ×ϑ|k::s,v::d,(K,c)=>yg s d (rF k K,rG k v K c)|_,_,r=>r
def XI:ON:=λds h Q=>match ds with
 |[x]=>match iH h x with|some s=>ie (rW s) (λp=>gd (aa4 p.1.length 100) (Q (.p (.dct (yg p.1 p.2 ([],[])).1 (yg p.1 p.2 ([],[])).2)) h)) False|none=>False
 |_=>False
def RC(e:rW (x::xs)=O (ks,us)):∃k w κ ks' us',oW k=O κ/\rW xs=O (ks',us')/\x=.tup [k,w]/\ks=k::ks'/\us=w::us':=by
 unfold rW at e;split at e;.rename_i c;cases c
 .rename_i k w r c;cases c;split at e;.rename_i κ ks' us' d f;cases e;exact(_,_,_,_,_,d,f,rfl,rfl,rfl)
  .cases e
 .cases e
def YI:∀{ks us:ϑ}{vs:ϕ},rW xs=O (ks,us)->aR (Y.z G) M H xs vs->∃bE:List (cv×V),kE Y G M H ks us bE/\Paired (λt(c:cv×V)=>∃b,t=V.ref b/\fK Y.K H b [kV c.1,c.2]) vs bE:=by induction xs with
 |nil=>intro ks us vs e q;cases e;cases vs with|nil=>exact([],kE.nil,.nil)|cons _ _=>unfold aR at q;exact q.elim
 |cons x xs I=>intro ks us vs e q;unfold aR at q;cases vs with|nil=>exact q.elim|cons v vs=>have(k,w,κ,g,u,f,r,rfl,rfl,rfl):=RC e;have(bE,d,pp):=I r q.2;have(b,ws,rfl,sq,i):=pA (show cL (Y.z G) M H (.p (.tup [k,w])) v from q.1);unfold aR at i;cases ws with|nil=>exact i.elim|cons U ws=>have i1:=i.1;replace i:=i.2;unfold aR at i;cases ws with|nil=>exact i.elim|cons u2 ws=>have i2:=i.1;replace i:=i.2;unfold aR at i;cases ws with|cons _ _=>exact i.elim|nil=>cases Xn f i1;exact((κ,u2)::bE,kE.cons.mpr ((f,i2),d),.cons (b,rfl,sq) pp)
theorem E8:∀{ks us ks' us':ϑ}{more f:List (cv×V)},kE Y G M H ks us more->kE Y G M H ks' us' f->kE Y G M H (yg ks us (ks',us')).1 (yg ks us (ks',us')).2 (lF f more)|[],[],_,_,[],_,_,d=>d|k::ks,u::us,ks',us',p::more,f,d,D=>by obtain⟨⟨a,b⟩,c⟩:=kE.cons.mp d;show kE Y G M H (yg ks us (rF k ks',rG k u ks' us')).1 (yg ks us (rF k ks',rG k u ks' us')).2 (lF (uW f p.1 p.2) more);exact E8 c (O9 a b D)|[],_::_,_,_,f,_,h,_=>by have:=h.1.len;have:=h.2.len;simp at*;lia|_::_,[],_,_,f,_,h,_=>by have:=h.1.len;have:=h.2.len;simp at*;lia|[],[],_,_,_::_,_,h,_=>by have:=h.1.len;simp at this|_::_,_::_,_,_,[],_,h,_=>by have:=h.1.len;simp at this
def Qe:sy Y (λxs H Q=>∃(l:Addr)(ts:ϕ)(f:List (cv×V)),xs=[.ref l]/\jd Y.K H l ts/\f.length<=100/\Paired (λt(k:cv×V)=>∃b,t=V.ref b/\fK Y.K H b [kV k.1,k.2]) ts f/\∀a,H a=af->Q (.ref a) (dv H a (.dK (lF [] f)))) XI:=λG M h H xs u Q w r I q out=>by
 unfold XI ie at q;split at q
 .have(v,rfl,i):=I.lW;split at q
  .rename_i xs ex;split at q
   .rename_i P j;have(s,U):=P;have(c,q):=bq q;have(a,ws,rfl,s1,m):=fN r i ex;have(f,d,pp):=YI j m;have n:f.length=s.length:=by have:=d.1.len;rw[ae]at this;exact this.symm
    refine(a,ws,f,rfl,jd.of s1,by rw[n];exact bj c,pp,λb g=>?_);have D:=E8 d kE.nil;refine out _ h M _ _ (Ext.add g) (r.add g) ?_ q;unfold cL bT;exact(b,_,rfl,r.oO g,bQ,D.1.ext r (Ext.add g),D.2.ext r (Ext.add g))
   .exact q.elim
  .exact q.elim
 .exact q.elim
end
end F
namespace L2
structure zU(w:cf)(K:Frag)(mg:db)(fA:Nat->Str)(a:Addr)(tab:Str->Option ϐ):Prop where
 ex:∃(es:Array ft)(n:Nat),K.lookup a=O (.type "dict",af,.dict es n,#[])/\KeysLit w.params es.toList/\∀x,match tab x with|some ks=>∃f,findBy ab5 es x=O (.ref f)/\mg (fA ks.length)=O (.ref f)|none=>findBy ab5 es x=af
 lo:(a==ga)=a'
section
variable{X:Cx}{a:Addr}{tab:Str->Option ϐ}{fA:Nat->Str}
def acy(m:db)(fA:Nat->Str)(a:Addr)(tab:Str->Option ϐ):R2:=λx y H Q=>x=.ref a/\∃k K,y=.str k/\tab k=O K/\∀f,m (fA K.length)=O (.ref f)->Q (.ref f) H
def Qv(T:zU X.w X.K X.mg fA a tab):ED X (acy X.mg fA a tab):=by intro e slice p s σ H x y v u Q I r R h c;have(rfl,k,g,rfl,d,q):=h;cases r;have(t,rfl):=R;have(E,m,lk,b,look):=T.ex;have hm:=iV (prog:=X.prog) (w:=X.w) I.nF lk b;have lx:=look k;rw[d]at lx;have(f,F,M):=lx;exact fW hm.typeIs iq.lookup (qB (knd:=strKind X.prog X.w) (kC X.prog X.w k t) hm F (rfl,(.ref f,H,I.tok _,rfl,q f M))) c
def XZ(T:zU X.w X.K X.mg fA a tab):jZ X (compareOp .In) λx y H Q=>y=.ref a/\∃k,x=.str k/\Q (.bl (tab k).isSome) H:=by intro p s σ H x y v u Q I r R h;have(rfl,k,rfl,q):=h;cases R;have(t,rfl):=r;have(e,m,lk,b,look):=T.ex;have hm:=iV (prog:=X.prog) (w:=X.w) I.nF lk b;refine wpAny_in_of (knd:=strKind X.prog X.w) (kC X.prog X.w k t) T.lo hm ?_;refine(.bl (tab k).isSome,H,I.tok _,?_,q);have lx:=look k;cases c:tab k with|some d=>rw[c]at lx;have(f,F,M):=lx;rw[F];rfl|none=>rw[c]at lx;rw[lx];rfl
end
section
variable{X:Cx}{pos p:Pos}{a b e:Expr}{es:List Expr}{t:TA}{tx:TE}{E:XK}{k:Nat}
def L0(x:PE X (.Subscript a b p) tx)(m:dR k X.A)(n:dZ (o8 X.prog X.w) X E)(o:PA X (e::es) t)(d:(e::es).all b4):PE X (.Call (.Subscript a b p) (e::es) [] pos) λσ H Q=>tx σ H λv c=>∃(f:Addr)(g:dV)(ps:ϐ)(sp:Sp),v=.ref f/\iB X.prog X.w X.K X.mg X.base (o8 X.prog X.w) k f g ps sp/\keepIn X.K (.ref f)=J/\Binds X.K g ps []/\t σ c λvs i=>sp vs i Q E:=by intro P s σ H Q I h;rw[aG,aO]at d;show bv _ _ (eval (.Subscript a b p) X.env>>=λf=>callWith pos f [] (en pos (dt (e::es) X.env)) (backToKw pos (g_ [] X.env))) _ _ s;refine aj (dC (x P s σ H _ I h) λv s1 y=>?_);have(y,c,j,r,f,g,ps,sp,u,F,z,B,q):=y;subst u;cases r;refine nY (h₀:=X.base) j.ok.mod.T6 z (dC (o pos P s1 σ c _ j q) λU s2 (vs,i,l,R,C)=>(l.nF,?_)) (c6 d.1) (gS d.2);exact zd F m B .nil n l R (by rw[aI];exact C)
def QH{n m:Str}{p ci pos:Pos}{env:Env}(h:(ci.endLine==pos.line)):eval (.Call (.Attribute (.Name n p) m ci) [] [] pos) env=(do
   let o<-eval (.Name n p) env
   standAt ci.atName let(f,first)<-fy [o] (getMethod o m do return(<-importBound (.Name n p) env).getD J)callWith pos f first (en pos (dt [] env)) (backToKw pos (g_ [] env))):=by
 have e:methodCallPos J (.Name n p) env ci pos=pure pos:=by unfold methodCallPos;rw[h];rfl
 show(do
   let o<-eval (.Name n p) env
   standAt ci.atName let(f,first)<-fy [o] (getMethod o m do return(<-importBound (.Name n p) env).getD J)let c<-methodCallPos J (.Name n p) env ci pos
   callWith c f first (en pos (dt [] env)) (backToKw pos (g_ [] env)))=_;rw[e];rfl
def L8(D:vS X.prog X.w X.K X.mg X.base (o8 X.prog X.w) k C m ps sp)(h:PE X (.Name n p) T)(c:EC X.K C)(H:dR k X.A)(x:dZ (o8 X.prog X.w) X E)(l:(ci.endLine==pos.line)):PE X (.Call (.Attribute (.Name n p) m ci) [] [] pos) (Nj C m sp [] E T Eo):=Ih D h c H x (QH l)
def Ie(D:sv X.prog X.w X.K X.mg X.base k x C ps sp)(h:dR (k+1) X.A)(H:Gl X x)(j:(x==("__debug__":Str))=a'):PE X (.Call (.Name x p) [] [] pos) (GG C sp [] E0 Eo):=by have(f,d,F,M,c,m):=D.ex;exact L6 M F h H m c .nil Up j
end
end L2
set_option genInjectivity false
namespace F
open L2
structure Gm where
 fn:Nat->Ct
 oq:Ϙ
 gl:Nat->Pv
 a_:Ϙ
 pd:Nat->Ct
 iF:Ϙ
 tab:Nat->Str->Option (ϐ)tok:Ϙ
structure Sx where
 N:ϐ
 sc:Scope
 fA:Nat->Str
 gnm:Nat->Str
 Zk:Nat->Str
 zI:Nat->Str
 fl:Nat->ϐ
 Oy:ϐ
 NW:Ϙ
 xok:Ϙ
 fr:Bool
def ZE(s:Scope)(x:Str):Bool:=match s.names.lookup x with|some .local=>J|some .cell=>J|some .free=>J|_=>a'
noncomputable def QE(s:Scope)(x:Str):Bool:=match s.names.lookup x with|some .local=>J|some .cell=>J|_=>a'
noncomputable def DG(s:Scope)(x:Str):Bool:=match s.names.lookup x with|some .local=>J|_=>a'
def Ws(s:Scope)(x:Str):Bool:=match s.names.lookup x with|some .globalImplicit=>J|_=>a'
def QY(x:Str):Bool:=aS x "__debug__"||aS x "__classdict__"||aS x "__name__"
def jf(x:Str):ϐ->Bool|[]=>a'|y::r=>aS x y||jf x r
def A0(x:Str):Nat->ϐ->Bool|0,y::_=>aS x y|n+1,_::r=>A0 x n r|_,[]=>a'
theorem jU:∀{l:ϐ},jf x l=J->x∈l
 |[],h=>by cases h|y::r,h=>by
  rcases(cH _ _).mp h with h|h;.rw[aQ.mp h];exact au
  .exact ao _ (jU h)
theorem lG:∀{n:Nat}{l:ϐ},A0 x n l=J->l[n]?=O x|0,y::_,h=>by rw[aQ.mp h];rfl|n+1,_::r,h=>by rw[dJ];exact lG (l:=r) h|0,[],h=>by cases h|_+1,[],h=>by cases h
noncomputable def og{α:Type}(o:Option α)(f:α->Bool):Bool:=match o with|some a=>f a|none=>a'
def cE(h:og o f):∃a,o=O a/\f a=true:=by cases o with|none=>cases h|some a=>exact(a,rfl,h)
def ah(h:(a&&b)):a/\b=true:=(aO _ _).mp h
def eF(h:(!a)):a=false:=by cases a<;>first|rfl|cases h
noncomputable def l1{α:Type}:List α->Option α|[a]=>O a|_=>af
def fk:∀{l:List α}{a:α},l1 l=O a->l=[a]|[],_,h=>by cases h|[_],_,h=>by cases h;rfl|_::_::_,_,h=>by cases h
noncomputable def l2{α:Type}:List α->Option (α×α)|[a,b]=>O (a,b)|_=>af
def Fz:∀{l:List α}{p:α×α},l2 l=O p->l=[p.1,p.2]|[],_,h=>by cases h|[_],_,h=>by cases h|[_,_],_,h=>by cases h;rfl|_::_::_::_,_,h=>by cases h
noncomputable def lc{α:Type}:List α->Option (α×List α)|a::r=>O (a,r)|[]=>af
def FC:∀{l:List α}{p:α×List α},lc l=O p->l=p.1::p.2|[],_,h=>by cases h|_::_,_,h=>by cases h;rfl
noncomputable def AJ{α:Type}:List α->Bool|[]=>J|_=>a'
def jz(h:AJ l):l=[]:=by cases l<;>first|rfl|cases h
noncomputable def r8(f:Str->Pos->Bool)(x:Expr):Bool:=aa6 x.ctorIdx 23&&match x with|.Name x p=>f x p|_=>a'
@[elab_as_elim]def iL{P:Expr->Prop}(h:r8 f x)(q:∀n p,f n p=J->P (.Name n p)):P x:=Expr.Name.elim (motive_1:=λx=>r8 f x=J->P x) x (ax (ah h).1) (λn p h=>q n p h) h
noncomputable def Zs(f:Expr->Operator->Expr->Pos->Bool)(x:Expr):Bool:=aa6 x.ctorIdx 2&&match x with|.BinOp a o b p=>f a o b p|_=>a'
@[elab_as_elim]def SJ{P:Expr->Prop}(h:Zs f x)(q:∀a o b p,f a o b p=J->P (.BinOp a o b p)):P x:=Expr.BinOp.elim (motive_1:=λx=>Zs f x=J->P x) x (ax (ah h).1) (λa o b p h=>q a o b p h) h
noncomputable def im(f:UnaryOp->Expr->Pos->Bool)(x:Expr):Bool:=aa6 x.ctorIdx 3&&match x with|.UnaryOp o a p=>f o a p|_=>a'
@[elab_as_elim]def Ey{P:Expr->Prop}(h:im f x)(q:∀o a p,f o a p=J->P (.UnaryOp o a p)):P x:=Expr.UnaryOp.elim (motive_1:=λx=>im f x=J->P x) x (ax (ah h).1) (λo a p h=>q o a p h) h
noncomputable def IM(f:Expr->List CmpOp->List Expr->Pos->Bool)(x:Expr):Bool:=aa6 x.ctorIdx 15&&match x with|.Compare a o b p=>f a o b p|_=>a'
@[elab_as_elim]def tO{P:Expr->Prop}(h:IM f x)(q:∀a o b p,f a o b p=J->P (.Compare a o b p)):P x:=Expr.Compare.elim (motive_1:=λx=>IM f x=J->P x) x (ax (ah h).1) (λa o b p h=>q a o b p h) h
noncomputable def GJ(f:BoolOp->List Expr->Pos->Bool)(x:Expr):Bool:=aa6 x.ctorIdx 0&&match x with|.BoolOp o e p=>f o e p|_=>a'
@[elab_as_elim]def BA{P:Expr->Prop}(h:GJ f x)(q:∀o es p,f o es p=J->P (.BoolOp o es p)):P x:=Expr.BoolOp.elim (motive_1:=λx=>GJ f x=J->P x) x (ax (ah h).1) (λo es p h=>q o es p h) h
noncomputable def Zv(f:Expr->Expr->Expr->Pos->Bool)(x:Expr):Bool:=aa6 x.ctorIdx 5&&match x with|.IfExp a b c p=>f a b c p|_=>a'
@[elab_as_elim]def SO{P:Expr->Prop}(h:Zv f x)(q:∀a b c p,f a b c p=J->P (.IfExp a b c p)):P x:=Expr.IfExp.elim (motive_1:=λx=>Zv f x=J->P x) x (ax (ah h).1) (λa b c p h=>q a b c p h) h
noncomputable def NF(f:List Expr->Nat->Pos->Bool)(x:Expr):Bool:=aa6 x.ctorIdx 25&&match x with|.Tuple e k p=>f e k p|_=>a'
@[elab_as_elim]def tQ{P:Expr->Prop}(h:NF f x)(q:∀es k p,f es k p=J->P (.Tuple es k p)):P x:=Expr.Tuple.elim (motive_1:=λx=>NF f x=J->P x) x (ax (ah h).1) (λes k p h=>q es k p h) h
noncomputable def Zw(f:List Expr->Pos->Bool)(x:Expr):Bool:=aa6 x.ctorIdx 24&&match x with|.List e p=>f e p|_=>a'
@[elab_as_elim]def zw{P:Expr->Prop}(h:Zw f x)(q:∀es p,f es p=J->P (.List es p)):P x:=Expr.List.elim (motive_1:=λx=>Zw f x=J->P x) x (ax (ah h).1) (λes p h=>q es p h) h
noncomputable def Ew(f:Expr->Expr->Pos->Bool)(x:Expr):Bool:=aa6 x.ctorIdx 21&&match x with|.Subscript a i p=>f a i p|_=>a'
@[elab_as_elim]def qo{P:Expr->Prop}(h:Ew f x)(q:∀a i p,f a i p=J->P (.Subscript a i p)):P x:=Expr.Subscript.elim (motive_1:=λx=>Ew f x=J->P x) x (ax (ah h).1) (λa i p h=>q a i p h) h
noncomputable def Zz(f:Option Expr->Option Expr->Option Expr->Pos->Bool)(x:Expr):Bool:=aa6 x.ctorIdx 26&&match x with|.Slice a b c p=>f a b c p|_=>a'
@[elab_as_elim]def SS{P:Expr->Prop}(h:Zz f x)(q:∀a b c p,f a b c p=J->P (.Slice a b c p)):P x:=Expr.Slice.elim (motive_1:=λx=>Zz f x=J->P x) x (ax (ah h).1) (λa b c p h=>q a b c p h) h
noncomputable def jY(F:Expr->List Expr->List Keyword->Pos->Bool)(x:Expr):Bool:=aa6 x.ctorIdx 16&&match x with|.Call f e k p=>F f e k p|_=>a'
@[elab_as_elim]def eR{P:Expr->Prop}(h:jY F x)(q:∀f es ks p,F f es ks p=J->P (.Call f es ks p)):P x:=Expr.Call.elim (motive_1:=λx=>jY F x=J->P x) x (ax (ah h).1) (λf es ks p h=>q f es ks p h) h
noncomputable def Bz(F:Expr->Str->Pos->Bool)(x:Expr):Bool:=aa6 x.ctorIdx 20&&match x with|.Attribute o f p=>F o f p|_=>a'
@[elab_as_elim]def nS{P:Expr->Prop}(h:Bz F x)(q:∀o f p,F o f p=J->P (.Attribute o f p)):P x:=Expr.Attribute.elim (motive_1:=λx=>Bz F x=J->P x) x (ax (ah h).1) (λo f p h=>q o f p h) h
noncomputable def GK(f:Expr->List Comprehension->Scope->Pos->Bool)(x:Expr):Bool:=aa6 x.ctorIdx 8&&match x with|.ListComp e gs s p=>f e gs s p|_=>a'
@[elab_as_elim]def NA{P:Expr->Prop}(h:GK f x)(q:∀e gs s p,f e gs s p=J->P (.ListComp e gs s p)):P x:=Expr.ListComp.elim (motive_1:=λx=>GK f x=J->P x) x (ax (ah h).1) (λe gs s p h=>q e gs s p h) h
noncomputable def NB(f:af6->Nat->Pos->Bool)(x:Expr):Bool:=aa6 x.ctorIdx 19&&match x with|.Constant c k p=>f c k p|_=>a'
@[elab_as_elim]def tP{P:Expr->Prop}(h:NB f x)(q:∀c k p,f c k p=J->P (.Constant c k p)):P x:=Expr.Constant.elim (motive_1:=λx=>NB f x=J->P x) x (ax (ah h).1) (λc k p h=>q c k p h) h
def se(S:Sx)(i:Nat):Expr->Bool:=r8 λx _=>A0 x i S.N&&(ZE S.sc x&&!QY x)
def C6(S:Sx)(n:Str):Expr->Bool:=r8 λx _=>aS x n&&(Ws S.sc x&&!QY x)
def R_:Pv->af6->Bool
 |.int i,c=>match c with|.int j=>decide (i=j)|_=>a'
 |.bl i,c=>match c with|.bool j=>i==j|_=>a'
 |.str i,c=>match c with|.str j=>aS i j|_=>a'
 |.non,c=>match c with|.none=>J|_=>a'
 |_,_=>a'
def VQ(p:Pv):Expr->Bool:=NB λc _ _=>R_ p c
noncomputable def mQ:Expr->Bool|.Set _ _ _=>a'|_=>J
def uQ:Expr->Bool|.Slice _ _ _ _=>a'|.Tuple _ _ _=>a'|_=>J
def FK:Expr->Bool|.Call _ [] _ _=>a'|_=>J
noncomputable def ZA:Expr->Bool|.BoolOp _ _ _=>a'|.UnaryOp _ _ _=>a'|.Compare _ _ _ _=>a'|.IfExp _ _ _ _=>a'|_=>J
def BW(w:cf)(K:Frag)(m:db)(f:Nat->Str)(i:Nat)(ad:Addr)(t:Str->Option ϐ):Prop:=match aa4 100 i with|false=>BX w K ad t|true=>zU w K m f ad t
def qD(P:cr)(w:cf)(K:Frag)(m:db)(base:Heap)(k:Nat)(nm:Str)(C:Nat->Addr)(c:Nat)(ps:ϐ)(sp:Sp):Prop:=match aa4 100 c with|false=>sv P w K m base k nm (C c) ps sp|true=>vS P w K m base (o8 P w) k (C (c/100-1)) nm ps sp
def Nq{K:Frag}{i:Nat}{ad:Addr}(h:aa4 100 i=a')(T:BW w K m f i ad tab):BX w K ad tab:=by unfold BW at T;rw[h]at T;exact T
def Np{K:Frag}{i:Nat}{ad:Addr}(h:aa4 100 i)(T:BW w K m f i ad tab):zU w K m f ad tab:=by unfold BW at T;rw[h]at T;exact T
def C0{K:Frag}{c:Nat}(h:aa4 100 c=a')(T:qD P w K m base k nm C c ps sp):sv P w K m base k nm (C c) ps sp:=by unfold qD at T;rw[h]at T;exact T
def WZ{K:Frag}{c:Nat}(h:aa4 100 c)(T:qD P w K m base k nm C c ps sp):vS P w K m base (o8 P w) k (C (c/100-1)) nm ps sp:=by unfold qD at T;rw[h]at T;exact T
theorem qD.mono{K:Frag}(T:qD P w K m base j nm C c ps sp)(h:j<=k):qD P w K m base k nm C c ps sp:=by
 unfold qD at*;split at T;.exact T.mono h
 .exact T.mono h
structure rq(Γ:Gm)(t:Tb)(k:Nat)(S:Sx)(X:Cx)(E:XK):Prop where
 hN:X.N=S.N
 hs:X.env.scope=S.sc
 hc:X.calm=J
 hp:dZ (o8 X.prog X.w) X E
 hr:dR (k+1) X.A
 bl:∀x∈S.Oy,X.mg x=af
 fA:S.fA=t.fA
 fn:∀i∈Γ.oq,∃ps,oG X.prog X.w X.K X.mg X.base (k+1) (t.fA i) ps (iK (yx t X) (Γ.fn i))gl:∀i∈Γ.a_,∃u v,X.mg (S.gnm i)=O u/\RelV v u/\∀G M H,bT ((yx t X).z G) M H (Γ.gl i) v
 tab:∀i∈Γ.tok,∃ad,X.mg (S.Zk i)=O (.ref ad)/\BW X.w X.K X.mg t.fA i ad (Γ.tab i)cls:∀c∈S.NW,tS X.K t c/\t.fl c=S.fl c
 pd:∀c∈Γ.iF,∃ps,qD X.prog X.w X.K X.mg X.base k (S.zI c) t.ca c ps (iK (yx t X) (Γ.pd c))fx:S.fr=J->Oh X/\jR X E
section
variable{Γ:Gm}{t:Tb}{k:Nat}{S:Sx}{X:Cx}{E:XK}
def rq.hu(o:rq Γ t k S X E):X.A.units+64<cLine:=o.hr.units
def rq.hu1(o:rq Γ t k S X E):X.A.units+1<cLine:=aaP o.hr
def LP(h:QY x=a'):(x==("__debug__":Str))=a'/\(x==("__classdict__":Str))=a'/\x≠"__name__":=by unfold QY at h;simp only[QD]at h;rw[nQ,nQ];exact(h.1.1,h.1.2,λz=>by rw[aQ.mpr z]at h;exact Bool.noConfusion h.2)
def ZF(h:ZE s x):ZX s x:=by
 unfold ZE at h;unfold ZX;split at h;.rename_i e;exact .inl e
 .rename_i e;exact .inr (.inl e)
 .rename_i e;exact .inr (.inr e)
 .cases h
def Dj(h:QE s x):L2.Loc s x:=by
 unfold QE at h;unfold L2.Loc;split at h;.rename_i e;exact .inl e
 .rename_i e;exact .inr e
 .cases h
def DH(h:DG s x):s.names.lookup x=O .local:=by
 unfold DG at h;split at h;.rename_i e;exact e
 .cases h
def Wt(o:rq Γ t k S X E)(h:Ws S.sc x):Gl X x:=by
 unfold Ws at h;unfold Gl;split at h;.rename_i e;show X.env.scope.names.lookup x=_;rw[o.hs];exact e
 .cases h
def gP(o:rq Γ t k S X E)(h:C6 S n x):∃pos,x=.Name n pos/\Gl X n/\(n==("__debug__":Str))=a'/\n≠"__name__":=by refine iL h λy p h=>?_;have(H,h):=ah h;have(a,b):=ah h;have e:y=n:=aQ.mp H;subst e;have z:=LP (eF b);exact(p,rfl,Wt o a,z.1,z.2.2)
def KZ(o:rq Γ t k S X E)(h:se S i x):PE X x (Sv i):=by refine iL h λy p h=>?_;have(H,h):=ah h;have(a,b):=ah h;have z:=LP (eF b);exact Ma (by rw[o.hN];exact lG H) (by rw[o.hs];exact ZF a) z.1 z.2.1
def JY(h:VQ p x):PE X x (cA (yx t X) E (sC p)):=by
 refine tP h λc j q h=>?_;cases p<;>first|(cases h;done)|skip
 case non=>cases c<;>first|(cases h;done)|exact DM Yg λ_ _ _=>by unfold bT;rfl
 case bl=>cases c<;>first|(cases h;done)|(rw[kB h];exact DM abY λ_ _ _=>by unfold bT;rfl)
 case int=>cases c<;>first|(cases h;done)|(rw[aW h];exact DM L5 λ_ _ _=>by unfold bT;rfl)
 case str=>cases c<;>first|(cases h;done)|(rw[aQ.mp h];exact DM DL λ_ _ _=>by unfold bT;rfl)
def tI(h:mQ b):gi op b=false:=by cases b<;>first|rfl|cases h
def Dc(h:uQ b):nc b:=by intro o i;cases b<;>first|rfl|cases h
def xO(h:FK a):gm a f env w=w:=by
 cases a<;>first|rfl|skip
 rename_i fn args K p;cases args with|nil=>cases h|cons _ _=>cases fn<;>rfl
def NH(h:ZA e)(H:PE X e (cA (yx t X) E A)):PT X e (jm (yx t X) E A):=by cases e<;>first|exact Rx H λ_=>rfl|cases h
end
variable(Γ:Gm)(t:Tb)
structure Em where
 m:Sm
 ck:Sx->Expr->Bool
 pe:∀{k S X E x},rq Γ t k S X E->ck S x->PE X x (cA (yx t X) E m)
structure Tm where
 m:Sm
 ck:Sx->Expr->Bool
 pt:∀{k S X E x},rq Γ t k S X E->ck S x->PT X x (jm (yx t X) E m)
structure Bm(op:BoolOp)where
 m:Sm
 ck:Sx->List Expr->Bool
 pe:∀{k S X E xs},rq Γ t k S X E->ck S xs->∀pos,PE X (.BoolOp op xs pos) (cA (yx t X) E m)
structure Wm(op:BoolOp)where
 m:Sm
 ck:Sx->List Expr->Bool
 pw:∀{k S X E xs},rq Γ t k S X E->ck S xs->∀pos,PW X (.BoolOp op xs pos) (jm (yx t X) E m)
structure Am where
 m:Sm
 ck:Sx->List Expr->Bool
 pa:∀{k S X E xs},rq Γ t k S X E->ck S xs->PA X xs (gB (yx t X) E m)/\xs.all b4=J
structure Jm where
 m:Sm
 ck:Sx->Expr->Expr->Bool
 pi:∀{k S X E tx x},rq Γ t k S X E->ck S tx x->PI X tx x (zr (yx t X) E (we m))
end F
namespace F
open L2
def LG(n:Bool):O1:=λx h Q=>match x with|.p a=>Q (.p (.bl (N5 n (KI a)))) h|.r _=>Q (.p (.bl n)) h
def N7(o1 o:O2)(A B C:Sm):Sm:=λX σ h Q=>A X σ h λs a=>match s with
 |[x]=>B X σ a λY c=>match Y with
  |[y]=>o1 x y c λd H=>match d with|.p (.bl b)=>br b (C X σ H λZ e=>match Z with|[z]=>o y z e λd f=>Q [d] f|_=>False) (Q [.p (.bl a')] H)|_=>False
  |_=>False
 |_=>False
structure Bo where
 o:O2
 op:Operator
 ok:∀t X,∃r,jZ X (binaryOp op) r/\iD (yx t X) r o
def cC:Bo:=(DC,.Add,λ_ _=>(_,Q0,Qb))
def vU:Bo:=(XS,.Sub,λ_ _=>(_,X5,Qo))
def B6:Bo:=(LL,.Mult,λ_ _=>(_,Q3,KR))
def Vv:Bo:=(h9,.FloorDiv,λ_ _=>(_,Q2,Qf))
def B5:Bo:=(hY,.Mod,λ_ _=>(_,X1,Qj))
structure Co where
 o:O2
 op:CmpOp
 ok:∀t X,X.A.units+64<cLine->∃r,jZ X (compareOp op) r/\iD (yx t X) r o
def hW:Co:=(Ou,.Eq,λ_ _ hu=>(_,XX hu,W5))
def G6:Co:=(PZ,.NotEq,λ_ _ hu=>(_,X3 hu,Xb))
def Tq:Co:=(wd,.Lt,λ_ _ _=>(_,TB,Xa))
def NV:Co:=(nu,.LtE,λ_ _ _=>(_,X0,W9))
def vW:Co:=(AC,.Gt,λ_ _ _=>(_,abR,W6))
def OD:Co:=(pc a',.In,λ_ _ _=>(_,XY,W7))
def SG{c:Nat}(h:aa4 c 4):d4 (jQ c)=O (.type (jQ c)):=by have H:c<=4:=bj h;match c,H with|0,_=>exact JH|1,_=>exact B7|2,_=>exact OB|3,_=>exact zY|4,_=>exact ET
section
variable{Γ:Gm}{t:Tb}
namespace Em
def v(i:Nat):Em Γ t:=(sV i,λS x=>se S i x,λo h=>Ot (KZ o h))
def c(p:Pv):Em Γ t:=(sC p,λ_ x=>VQ p x,λ_ h=>JY h)
abbrev i(n:Int):Em Γ t:=c (.int n)
abbrev s(z:Str):Em Γ t:=c (.str z)
instance P9{n:Nat}:OfNat (Em Γ t) n:=⟨.v n⟩
def ofV:(OfNat.ofNat n:Em Γ t)=.v n:=rfl
def g(i:Nat):Em Γ t:=(sC (Γ.gl i),λS x=>gH i Γ.a_&&C6 S (S.gnm i) x,λo h=>by have(H,h):=ah h;have(p,rfl,a,d,_):=gP o h;have(u,v,m,r,I):=o.gl i (b9.mp H);exact DM (nL a m r d) I)
def f(i:Nat):Em Γ t:=(sC (.fn i),λS x=>gH i Γ.oq&&C6 S (S.fA i) x,λo h=>by have(a,h):=ah h;have(p,rfl,g,d,_):=gP o h;have(P,f,b,F,H,k,c):=o.fn i (b9.mp a);rw[<-o.fA]at H;exact DM (nL (v:=.ref f) g H rfl d) λ_ _ _=>by unfold bT;rw[o.fA]at H;exact(f,H,rfl))
def ty(c:Nat):Em Γ t:=(sC (.ty c),λS x=>aa4 c 4&&(C6 S (jQ c) x&&jf (jQ c) S.Oy),λo h=>by have(H,h):=ah h;have(a,b):=ah h;have(p,rfl,g,d,n):=gP o a;exact DM (ab1 (o.bl _ (jU b)) (SG H) g n d) λ_ _ _=>by unfold bT;rfl)
def b2(p:Bo)(A B:Em Γ t):Em Γ t:=(s2 p.o A.m B.m,λS=>Zs λa o b _=>decide (o=p.op)&&(A.ck S a&&B.ck S b),λ{k S X E x}o h=>by refine SJ h λa op b q h=>?_;have(H,h):=ah h;have(c,d):=ah h;rw[aW H];have(r,R,e):=p.ok t X;exact ab6 R e (A.pe o c) (B.pe o d))
def neg(A:Em Γ t):Em Γ t:=(s1 XO A.m,λS=>im λo a _=>decide (o=.USub)&&A.ck S a,λo h=>by refine Ey h λop a q h=>?_;have(H,h):=ah h;rw[aW H];exact WD Zo Qk (A.pe o h))
end Em
def lv(S:Sx)(op:CmpOp)(A B:Em Γ t):Expr->Bool:=IM λa os bs _=>og (l1 os) λo=>og (l1 bs) λb=>decide (o=op)&&(mQ b&&(A.ck S a&&B.ck S b))
@[elab_as_elim]def Ce{B:Em Γ t}{P:Expr->Prop}(h:lv S op A B x)(k:∀a b p,gi op b=a'->A.ck S a->B.ck S b->P (.Compare a [op] [b] p)):P x:=by refine tO h λa os bs q h=>?_;have(o,e,h):=cE h;have(b,E,h):=cE h;have(H,h):=ah h;have(c,h):=ah h;have(d,f):=ah h;have e3:=aW H;subst e3;rw[fk e,fk E];exact k a b q (tI c) d f
def pV(n:Bool):CmpOp:=bif n then .IsNot else .Is
def sK(S:Sx)(n:Bool)(A:Em Γ t):Expr->Bool:=IM λa os bs _=>og (l1 os) λo=>og (l1 bs) λb=>decide (o=pV n)&&(NB (λc _ _=>R_ .non c) b&&A.ck S a)
def Ow(h:R_ .non c):c=.none:=by cases c<;>first|rfl|cases h
@[elab_as_elim]def Qs{A:Em Γ t}{P:Expr->Prop}(h:sK S n A x)(k:∀a j p q,A.ck S a=J->P (.Compare a [pV n] [.Constant .none j p] q)):P x:=by refine tO h λa os bs q h=>?_;have(o,e,h):=cE h;have(b,E,h):=cE h;have(d,h):=ah h;have(H,f):=ah h;rw[fk e,fk E,aW d];refine tP H λc j p H=>?_;rw[Ow H];exact k a j p q f
def W4(c:PE X x (cA (yx t X) E A)):PC X (pV N) x (.Constant .none j p) (cA (yx t X) E (s1 (LG N) A)):=by
 have K:∀{τ H b},cA (yx t X) E (s1 (LG N) A) τ H b->cA (yx t X) E A τ H λv H1=>b (.bl (N !=decide (v=.non))) H1:=by intro τ H b (G,M,σ,h,g,Q,k,q);refine(G,M,σ,h,g,_,(k.rel,k.env,λd h1 m H1 v f R i a=>?_,k.exc),q);cases d with|r n=>have(ad,_,rfl):=i;refine k.out _ h1 m H1 _ f R ?_ a;rw[bg (λz=>by cases z),Bool.bne_false];exact gO|p d=>
   have a:Q [.p (.bl (N5 N (KI d)))] h1:=a;rw[Dr]at a;refine k.out _ h1 m H1 _ f R ?_ a;have:KI d=decide (v=.non):=by
    cases d<;>unfold cL bT at i;case non=>rw[i];rfl
    case bl=>rw[i];rfl
    case int=>rw[i];rfl
    case str=>rw[i];rfl
    case ty=>rw[i];rfl
    case tup=>have(_,_,e,_):=i;rw[e];rfl
    case lst=>have(_,_,e,_):=i;rw[e];rfl
    case scr=>have(_,_,e,_):=i;rw[e];rfl
    case dct=>have(_,_,e,_):=i;rw[e];rfl
    case obj=>have(_,_,_,e,_):=i;rw[e];rfl
    case fn=>have(_,_,e):=i;rw[e];rfl
   rw[this];exact gO
 cases N with|true=>exact λP s σ H Q I q=>Q7 c P s σ H Q I (by have:=K q;simp only[ph]at this;exact this)|false=>exact λP s σ H Q I q=>Yb c P s σ H Q I (by have:=K q;simp only[jF]at this;exact this)
def δ(p:iD (yx t X) r o)(s:iD (yx t X) r' o')(h:cA (yx t X) E (N7 o o' A B C) τ H QV):Ng r r' (cA (yx t X) E A) (cA (yx t X) E B) (cA (yx t X) E C) τ H QV:=by
 have(G,M,σ,h,f,Q,k,q):=h;refine(G,M,σ,h,f,_,(k.rel,k.env,λx W u H1 D e g F K=>?_,k.exc),q);refine(G,u,σ,W,f,_,k.on e g λy T L N v a i I P=>?_,K);refine p G L T N x y D v _ _ i (F.ext g a) I P λd j m S w b R U c=>?_;split at c;.rename_i l;refine(l,Jr U,?_);cases l with|true=>rw[bI rfl];refine(G,m,σ,j,f,_,k.on (e.trans (a.trans b)) R λz Y Z H4 vz n r4 i4 q4=>?_,c);exact s G Z Y H4 y z v vz _ _ r4 ((I.ext i b).ext R n) i4 q4 λd5 h5 M5 H5 w5 e5 r5 i5 q5=>k.out d5 h5 M5 H5 w5 (e.trans (a.trans (b.trans (n.trans e5)))) r5 i5 q5|false=>rw[bL aL];exact k.out _ j m S _ (e.trans (a.trans b)) R gO c
 .exact c.elim
def No(S:Sx)(p q:CmpOp)(A B C:Em Γ t):Expr->Bool:=IM λa os bs _=>og (l2 os) λo=>og (l2 bs) λb=>decide (o.1=p)&&decide (o.2=q)&&(mQ b.2&&(A.ck S a&&(B.ck S b.1&&C.ck S b.2)))
@[elab_as_elim]def VM{C:Em Γ t}{P:Expr->Prop}(h:No S p q A B C x)(k:∀a b c ps,gi q c=a'->A.ck S a->B.ck S b->C.ck S c->P (.Compare a [p,q] [b,c] ps)):P x:=by refine tO h λa os bs ps h=>?_;have(o,e,h):=cE h;have(b,E,h):=cE h;have(f,h):=ah h;have(H,d):=ah f;have(g,h):=ah h;have(i,h):=ah h;have(j,l):=ah h;rw[Fz e,Fz E,aW H,aW d];exact k a b.1 b.2 ps (tI g) i j l
def DI(hu:X.A.units+1<cLine)(h:PE X x (cA (yx t X) E A))(H:PE X y (cA (yx t X) E B)):PC X (bif neg then .NotIn else .In) x y (cA (yx t X) E (s2 (HP neg) A B)):=by cases neg with|true=>exact DJ hu h H|false=>exact Q6 hu h H
namespace Em
def cmp(c:Co)(A B:Em Γ t):Em Γ t:=(s2 c.o A.m B.m,λS=>lv S c.op A B,λ{k S X E x}o h=>by refine Ce h λa b p H d e=>?_;have(r,R,f):=c.ok t X o.hu;exact Yk R f (A.pe o d) (B.pe o e) H)
def din(n:Bool)(A B:Em Γ t):Em Γ t:=(s2 (HP n) A.m B.m,λS=>lv S (bif n then .NotIn else .In) A B,λo h=>by refine Ce h λa b p H c d=>?_;exact ab7 (DI o.hu1 (A.pe o c) (B.pe o d)) H)
def ch(c d:Co)(A B C:Em Γ t):Em Γ t:=(N7 c.o d.o A.m B.m C.m,λS=>No S c.op d.op A B C,λ{k S X E x}o h=>by refine VM h λa b n p H e f g=>?_;have(r,R,i):=c.ok t X o.hu;have(q,j,l):=d.ok t X o.hu;exact(L3 R j (A.pe o e) (B.pe o f) (C.pe o g) H).imp λ_ _ _=>δ i l)
end Em
namespace Tm
def val(A:Em Γ t):Tm Γ t:=(A.m,λS x=>ZA x&&A.ck S x,λo h=>NH (ah h).1 (A.pe o (ah h).2))
def cmp(c:Co)(A B:Em Γ t):Tm Γ t:=(s2 c.o A.m B.m,λS=>lv S c.op A B,λ{k S X E x}o h=>by refine Ce h λa b p H d e=>?_;have(r,R,f):=c.ok t X o.hu;exact Rw R f (A.pe o d) (B.pe o e) H)
def isN(n:Bool)(A:Em Γ t):Tm Γ t:=(s1 (LG n) A.m,λS=>sK S n A,λo h=>by refine Qs h λa j p q H=>?_;exact YA (W4 (A.pe o H)) (tI rfl))
def not(A:Tm Γ t):Tm Γ t:=(RS A.m,λS=>im λo a _=>decide (o=.Not)&&A.ck S a,λo h=>by refine Ey h λop a q h=>?_;have(H,h):=ah h;rw[aW H];exact(YL (A.pt o h)).imp λ_ _ _=>Nl)
end Tm
namespace Wm
def a1(A:Tm Γ t):Wm Γ t .And:=(A.m,λS x=>og (l1 x) (A.ck S),λo h p=>by have(a,e,h):=cE h;rw[fk e];exact RK (A.pt o h))
def o1(A:Tm Γ t):Wm Γ t .Or:=(A.m,λS x=>og (l1 x) (A.ck S),λo h p=>by have(a,e,h):=cE h;rw[fk e];exact YQ (A.pt o h))
def j_(xs:List Expr)(f:Expr->List Expr->Bool):Bool:=og (lc xs) λp=>!AJ p.2&&f p.1 p.2
@[elab_as_elim]def uI{P:List Expr->Prop}(h:j_ xs f)(k:∀a b r,f a (b::r)=J->P (a::b::r)):P xs:=by obtain⟨⟨a,r⟩,e,h⟩:=cE h;have(H,h):=ah h;rw[FC e];cases r with|nil=>cases H|cons b r=>exact k a b r h
def ac(A:Tm Γ t)(B:Wm Γ t .And):Wm Γ t .And:=(RR A.m B.m,λS x=>j_ x λa r=>A.ck S a&&B.ck S r,λo h p=>by refine uI h λa b r h=>?_;exact(YO (A.pt o (ah h).1) (B.pw o (ah h).2 p)).imp λ_ _ _=>Nk)
def oc(A:Tm Γ t)(B:Wm Γ t .Or):Wm Γ t .Or:=(ji A.m B.m,λS x=>j_ x λa r=>A.ck S a&&B.ck S r,λo h p=>by refine uI h λa b r h=>?_;exact(acj (A.pt o (ah h).1) (B.pw o (ah h).2 p)).imp λ_ _ _=>Sk)
end Wm
def Tm.bo{op:BoolOp}(B:Wm Γ t op):Tm Γ t:=(B.m,λS=>GJ λo x _=>decide (o=op)&&B.ck S x,λo h=>by refine BA h λa x p h=>?_;have(H,h):=ah h;rw[aW H];exact(B.pw o h p).pt)
namespace Bm
def a1(A:Em Γ t):Bm Γ t .And:=(A.m,λS x=>og (l1 x) (A.ck S),λo h p=>by have(a,e,h):=cE h;rw[fk e];exact L9 (A.pe o h))
def o1(A:Em Γ t):Bm Γ t .Or:=(A.m,λS x=>og (l1 x) (A.ck S),λo h p=>by have(a,e,h):=cE h;rw[fk e];exact L9 (A.pe o h))
def ac(A:Em Γ t)(B:Bm Γ t .And):Bm Γ t .And:=(RR A.m B.m,λS x=>Wm.j_ x λa r=>A.ck S a&&B.ck S r,λo h p=>by refine Wm.uI h λa b r h=>?_;exact(Yc (A.pe o (ah h).1) (B.pe o (ah h).2 p)).imp λ_ _ _=>Sl)
def oc(A:Em Γ t)(B:Bm Γ t .Or):Bm Γ t .Or:=(ji A.m B.m,λS x=>Wm.j_ x λa r=>A.ck S a&&B.ck S r,λo h p=>by refine Wm.uI h λa b r h=>?_;exact(UV (A.pe o (ah h).1) (B.pe o (ah h).2 p)).imp λ_ _ _=>Zi)
end Bm
namespace Em
def bo{op:BoolOp}(B:Bm Γ t op):Em Γ t:=(B.m,λS=>GJ λo x _=>decide (o=op)&&B.ck S x,λo h=>by refine BA h λa x p h=>?_;have(H,h):=ah h;rw[aW H];exact B.pe o h p)
def not(A:Em Γ t):Em Γ t:=(RS A.m,λS=>im λo a _=>decide (o=.Not)&&A.ck S a,λo h=>by refine Ey h λop a q h=>?_;have(H,h):=ah h;rw[aW H];exact(Yh (A.pe o h)).imp λ_ _ _=>So)
def N2(T:Tm Γ t)(A B:Em Γ t):Em Γ t:=(Y1 T.m A.m B.m,λS=>Zv λa b c _=>T.ck S a&&(A.ck S b&&B.ck S c),λo h=>by refine SO h λa b c p h=>?_;have(H,h):=ah h;have(d,e):=ah h;exact Yn (T.pt o H) (A.pe o d) (B.pe o e))
end Em
namespace Am
def nil:Am Γ t:=(Ec,λ_ x=>AJ x,λ_ h=>by rw[jz h];exact(Rj,rfl))
def cons(A:Em Γ t)(B:Am Γ t):Am Γ t:=(UH A.m B.m,λS x=>og (lc x) λp=>b4 p.1&&(A.ck S p.1&&B.ck S p.2),λo h=>by obtain⟨⟨a,r⟩,e,h⟩:=cE h;have(H,h):=ah h;have(b,c):=ah h;rw[FC e];have(p,q):=B.pa o c;exact(Me (A.pe o b) p H,by rw[aG,H,q];rfl))
abbrev u(A:Em Γ t):Am Γ t:=cons A nil
abbrev u2(A B:Em Γ t):Am Γ t:=cons A (u B)
abbrev u3(A B C:Em Γ t):Am Γ t:=cons A (u2 B C)
abbrev u4(A B C D:Em Γ t):Am Γ t:=cons A (u3 B C D)
abbrev u5(A B C D E:Em Γ t):Am Γ t:=cons A (u4 B C D E)
end Am
end
end F
namespace F
open L2
def OC:d4 "dict"=O (.type "dict"):=by ext
structure Bi where
 o:ON
 nm:Str
 ok:∀{t X E A e es p pos},X.calm=J->Gl X nm->X.mg nm=af->PA X (e::es) (gB (yx t X) E A)->nm≠"__name__"->(nm==("__debug__":Str))=a'->(e::es).all b4->PE X (.Call (.Name nm p) (e::es) [] pos) (cA (yx t X) E (sN o A))
def da:Bi:=(jL,"len",λ_ h H a n j d=>Mb G9 Qi h H JF a n j d)
def j5:Bi:=(yU,"isinstance",λ_ h H a n j d=>Mb G8 Qg h H vV a n j d)
def Hn:Bi:=(LC,"all",λh H m a n j d=>Mb (Aa h) Qc H m VD a n j d)
def lz:Bi:=(f9,"tuple",λ_ h H a n j d=>xm vY KW h H zY a n j d)
def Wa:Bi:=(LK,"list",λ_ h H a n j d=>xm xY KQ h H ET a n j d)
def V9:Bi:=(LD,"int",λ_ h H a n j d=>xm G7 KN h H B7 a n j d)
def Wb:Bi:=(LN,"str",λ_ h H a n j d=>xm xZ KU h H JH a n j d)
def afH:Bi:=(XI,"dict",λh H m a n j d=>xm (qK h) Qe H m OC a n j d)
structure Mt where
 c:Nat
 o:OM
 nm:Str
 ok:∀{t X E A R ob a b' ci dH},PE X ob (cA (yx t X) E A)->PA X (a::b') (gB (yx t X) E R)->gm ob nm X.env (eval ob X.env)=eval ob X.env->(a::b').all b4->(a::b').length<30->(ci.endLine==dH.line)->PE X (.Call (.Attribute ob nm ci) (a::b') [] dH) (cA (yx t X) E (Y3 c o A R))
def fQ:Mt:=(4,jD,"append",λh H b p l n=>FY (c:=4) ZO PySem.F.slot_list_append PySem.F.type_list_append xg Qd h H b p l n)
structure M0 where
 c:Nat
 o:OM
 nm:Str
 ok:∀{t X E A ob ci dH},PE X ob (cA (yx t X) E A)->gm ob nm X.env (eval ob X.env)=eval ob X.env->(ci.endLine==dH.line)->PE X (.Call (.Attribute ob nm ci) [] [] dH) (cA (yx t X) E (Y3 c o A Ec))
section
variable{Γ:Gm}{t:Tb}
def ab3(h:PE X x (cA (yx t X) E A))(H:PE X y (cA (yx t X) E B))(s:nc y):PE X (.Subscript x y pos) (cA (yx t X) E (s2 uS A B)):=(FX Xd h H s).imp λ_ _ _=>vm W8
structure Pm(Γ:Gm)(t:Tb)where
 m:Option Sm
 ck:Sx->Option Expr->Bool
 po:∀{k S X E x},rq Γ t k S X E->ck S x->PO X x (IJ (yx t X) E m)
noncomputable def Pm.no:Pm Γ t:=(af,λ_ x=>x.isNone,λ{k S X E x}_ h=>by cases x with|none=>exact Mf|some x=>cases h)
def Pm.of(A:Em Γ t):Pm Γ t:=(O A.m,λS x=>og x (A.ck S),λo h=>by have(a,e,h):=cE h;rw[e];exact Mg (A.pe o h))
def HH:List Keyword->Bool|[]=>J|_=>a'
def iQ(h:HH l):l=[]:=by cases l<;>first|rfl|cases h
def Z6(S:Sx)(n:Str)(A:Am Γ t):Expr->Bool:=jY λf e k _=>HH k&&(C6 S n f&&(!AJ e&&A.ck S e))
@[elab_as_elim]def tZ{k S X E}{A:Am Γ t}{P:Expr->Prop}(o:rq Γ t k S X E)(h:Z6 S n A x)(q:∀p pos e es,Gl X n->(n==("__debug__":Str))=a'->n≠"__name__"->PA X (e::es) (gB (yx t X) E A.m)->(e::es).all b4->P (.Call (.Name n p) (e::es) [] pos)):P x:=by refine eR h λf es K pos h=>?_;have(H,h):=ah h;have(b,h):=ah h;have(c,h):=ah h;have(p,e,g,d,i):=gP o b;rw[iQ H,e];cases es with|nil=>cases c|cons a es=>have(j,l):=A.pa o h;exact q p pos a es g d i j l
def ri(S:Sx)(A:Am Γ t):Expr->Bool:=Zw λe _=>A.ck S e
def ry(S:Sx)(A B:Em Γ t):Expr->Bool:=Ew λa i _=>uQ i&&(A.ck S a&&B.ck S i)
@[elab_as_elim]def MW{B:Em Γ t}{P:Expr->Prop}(h:ry S A B x)(q:∀a i p,nc i->A.ck S a->B.ck S i->P (.Subscript a i p)):P x:=by refine qo h λa i p h=>?_;have(H,h):=ah h;have(b,c):=ah h;exact q a i p (Dc H) b c
def Ov(h:R_ (.int i) c):c=.int i:=by cases c<;>first|(rw[aW h];done)|cases h
def n7(S:Sx)(nm:Str)(o:Em Γ t)(f:List Expr->Bool):Expr->Bool:=jY λg e k q=>HH k&&(f e&&Bz (λb m p=>aS m nm&&(p.endLine==q.line&&(FK b&&o.ck S b))) g)
@[elab_as_elim]def Lj{o:Em Γ t}{P:Expr->Prop}(h:n7 S nm o f x)(q:∀b es ci d,f es=J->o.ck S b->FK b->(ci.endLine==d.line)->P (.Call (.Attribute b nm ci) es [] d)):P x:=by refine eR h λg es k r h=>?_;have(H,h):=ah h;have(a,h):=ah h;rw[iQ H];refine nS h λb m p h=>?_;have(c,h):=ah h;have(e,h):=ah h;have(i,j):=ah h;rw[aQ.mp c];exact q b es p r a j i e
namespace Em
def tup(A:Am Γ t):Em Γ t:=(sN LO A.m,λS=>NF λe _ _=>A.ck S e,λo h=>tQ h λ_ _ _ h=>Yv (A.pa o h).1)
def lst(A:Am Γ t):Em Γ t:=(sN LI A.m,λS=>ri S A,λo h=>zw h λ_ _ h=>Yq (A.pa o h).1)
def tH(A:Am Γ t):Em Γ t:=(sN LH A.m,λS=>ri S A,λo h=>zw h λ_ _ h=>Yp (A.pa o h).1)
def du(A:Am Γ t):Em Γ t:=(sN XN A.m,λS=>ri S A,λo h=>zw h λ_ _ h=>Yo (A.pa o h).1)
def ix(A B:Em Γ t):Em Γ t:=(s2 uS A.m B.m,λS=>ry S A B,λo h=>MW h λ_ _ _ H a b=>ab3 (A.pe o a) (B.pe o b) H)
def dix(A B:Em Γ t):Em Γ t:=(s2 XJ A.m B.m,λS=>ry S A B,λo h=>MW h λ_ _ _ H a b=>Yl o.hu1 (A.pe o a) (B.pe o b) H)
def sl(A:Em Γ t)(L U:Pm Γ t):Em Γ t:=(PR A.m L.m U.m,λS=>Ew λa i _=>A.ck S a&&Zz (λl u s _=>s.isNone&&(L.ck S l&&U.ck S u)) i,λo h=>by refine qo h λa i p h=>?_;have(H,h):=ah h;refine SS h λl u s q h=>?_;have(b,h):=ah h;have(c,d):=ah h;cases s with|none=>exact ab8 (A.pe o H) (L.po o c) (U.po o d)|some s=>cases b)
def bi(b:Bi)(A:Am Γ t):Em Γ t:=(sN b.o A.m,λS x=>jf b.nm S.Oy&&Z6 S b.nm A x,λo h=>tZ o (ah h).2 λ_ _ _ _ H d n p P=>b.ok o.hc H (o.bl _ (jU (ah h).1)) p n d P)
def abd(A:Em Γ t):Em Γ t:=(s1 FO A.m,λS=>jY λf E k _=>HH k&&(C6 S "len" f&&(jf "len" S.Oy&&(jf "set" S.Oy&&og (l1 E) (jY λg X l _=>HH l&&(C6 S "set" g&&og (l1 X) λe=>b4 e&&A.ck S e))))),λo h=>by refine eR h λf E k p h=>?_;have(a,h):=ah h;have(b,h):=ah h;have(c,h):=ah h;have(d,h):=ah h;have(x,i,h):=cE h;have(P,j,n,y,z):=gP o b;rw[iQ a,fk i,j];refine eR h λg X l q h=>?_;have(r,h):=ah h;have(s,h):=ah h;have(x,u,h):=cE h;have(B,v,H,w,W):=gP o s;rw[iQ r,fk u,v];exact Rh o.hc n (o.bl _ (jU c)) H (o.bl _ (jU d)) (A.pe o (ah h).2) (ah h).1)
def mt(m:Mt)(b:Em Γ t)(A:Am Γ t):Em Γ t:=(Y3 m.c m.o b.m A.m,λS=>n7 S m.nm b λe=>Nat.blt e.length 30&&(!AJ e&&A.ck S e),λo h=>Lj h λk e s D H d f i=>by have(G,g):=ah H;have(j,g):=ah g;cases e with|nil=>cases j|cons a e=>have(p,P):=A.pa o g;exact m.ok (b.pe o d) p (xO f) P (bj G) i)
def m0(m:M0)(a:Em Γ t):Em Γ t:=(Y3 m.c m.o a.m Ec,λS=>n7 S m.nm a AJ,λo h=>Lj h λf E A D H b d e=>by rw[jz H];exact m.ok (a.pe o b) (xO d) e)
def cl(i:Nat)(ρ:Ϙ)(A:Am Γ t):Em Γ t:=(MQ ρ (Γ.fn i) A.m,λS x=>gH i Γ.oq&&Z6 S (S.fA i) A x,λ{k S X E x}o h=>by have(s,D):=o.fn i (b9.mp (ah h).1);rw[<-o.fA]at D;exact tZ o (ah h).2 λ_ _ _ _ H d n p P=>Rg D o.hr o.hp H p d P)
def clv(ρ:Ϙ)(i:Nat)(A:Am Γ t):Em Γ t:=(MS Γ.fn Γ.oq ρ (sV i) A.m,λS=>jY λf e k _=>HH k&&(se S i f&&(!AJ e&&A.ck S e)),λo h=>by refine eR h λf e k p h=>?_;have(b,h):=ah h;have(H,h):=ah h;have(c,h):=ah h;rw[iQ b];cases e with|nil=>cases c|cons a e=>have(P,l):=A.pa o h;have z:=KZ o H;revert z;refine iL H λx q _=>λz=>?_;exact Md o.fn o.hr o.hp (Ot z) P l)
def tg(i:Nat)(A:Em Γ t):Em Γ t:=(s1 (FP (Γ.tab i)) A.m,λS=>jY λg E k q=>HH k&&(!Nat.ble 100 i&&gH i Γ.tok&&Bz (λf m p=>C6 S (S.Zk i) f&&(aS m "get"&&(p.endLine==q.line&&og (l1 E) λe=>b4 e&&A.ck S e))) g),λo h=>by refine eR h λg E k q h=>?_;have(a,h):=ah h;have(H,h):=ah h;rw[iQ a];refine nS h λf m p h=>?_;have(b,h):=ah h;have(c,h):=ah h;have(d,h):=ah h;have(e,j,h):=cE h;have(P,l,n,r,u):=gP o b;have(ad,s,T):=o.tab i (b9.mp (ah H).2);replace T:=Nq (eF (ah H).1) T;rw[aQ.mp c,fk j,l];exact Ri T n s (A.pe o (ah h).2) r (ah h).1 d)
def ti(i:Nat)(A:Em Γ t):Em Γ t:=(s1 (QX (Γ.tab i)) A.m,λS=>Ew λf e _=>!Nat.ble 100 i&&gH i Γ.tok&&(C6 S (S.Zk i) f&&(uQ e&&A.ck S e)),λo h=>by refine qo h λf e p h=>?_;have(H,h):=ah h;have(a,h):=ah h;have(b,h):=ah h;have(P,E,g,d,n):=gP o a;have(ad,c,T):=o.tab i (b9.mp (ah H).2);replace T:=Nq (eF (ah H).1) T;rw[E];exact Yu T g c (A.pe o h) d (Dc b))
def fld(c j:Nat)(A:Em Γ t):Em Γ t:=(s1 (j9 c j) A.m,λS=>Bz λa f _=>gH c S.NW&&(A0 f j (S.fl c)&&(FK a&&A.ck S a)),λo h=>by refine nS h λa f p h=>?_;have(H,h):=ah h;have(b,h):=ah h;have(d,h):=ah h;have(C,e):=o.cls c (b9.mp H);exact Ym C (by rw[e];exact lG b) (A.pe o h) (xO d))
def new(c:Nat)(A:Am Γ t):Em Γ t:=(CW c (Γ.pd c) A.m,λS x=>!Nat.ble 100 c&&gH c Γ.iF&&Z6 S (S.zI c) A x,λ{k S X E x}o h=>by have(s,D):=o.pd c (b9.mp (ah (ah h).1).2);replace D:=C0 (eF (ah (ah h).1).1) D;exact tZ o (ah h).2 λ_ _ _ _ H d n p P=>Ys D o.hr H p d P)
end Em
namespace Jm
def s(A:Em Γ t):Jm Γ t:=(s1 CD A.m,λS _ x=>A.ck S x,λo h=>Rl (A.pe o h))
def c(A:Em Γ t):Jm Γ t:=(s1 D5 A.m,λS T x=>r8 (λ_ _=>A.ck S x) T,λo h=>by refine iL h λn p h=>?_;exact Rm (A.pe o h))
def r(A:Am Γ t):Jm Γ t:=(sN QU A.m,λS _ x=>jf "range" S.Oy&&jY (λf E k _=>HH k&&(C6 S "range" f&&og (l1 E) λ_=>A.ck S E)) x,λo h=>by have(H,h):=ah h;refine eR h λf E k q h=>?_;have(b,h):=ah h;have(c,h):=ah h;have(e,a,h):=cE h;have(p,d,g,i,n):=gP o c;rw[fk a]at h;rw[iQ b,fk a,d];have(p,q):=A.pa o h;rw[aG,aO]at q;exact Rk g (o.bl _ (jU H)) p q.1)
def PX(S:Sx)(A:Am Γ t)(T x:Expr):Bool:=NF (λ_ _ _=>jf "zip" S.Oy&&jY (λf e k _=>HH k&&(C6 S "zip" f&&og (l2 e) λ_=>A.ck S e)) x) T
@[elab_as_elim]def ZM{k S X E}{A:Am Γ t}{P:Expr->Expr->Prop}{c:Expr}(o:rq Γ t k S X E)(h:PX S A c x)(q:∀es k0 T p pos a b,Gl X "zip"->X.mg "zip"=af->PA X [a,b] (gB (yx t X) E A.m)->b4 a->b4 b->P (.Tuple es k0 T) (.Call (.Name "zip" p) [a,b] [] pos)):P c x:=by refine tQ h λes k0 T h=>?_;have(H,h):=ah h;refine eR h λf s K pos h=>?_;have(g,h):=ah h;have(i,h):=ah h;have(e,d,h):=cE h;have(p,j,n,u,v):=gP o i;rw[Fz d]at h;rw[iQ g,Fz d,j];have(r,l):=A.pa o h;rw[aG,aG,aO,aO]at l;exact q es k0 T p pos e.1 e.2 n (o.bl _ (jU H)) r l.1 l.2.1
def z(A:Am Γ t):Jm Γ t:=(sN QW A.m,λS T x=>PX S A T x,λo h=>ZM o h λ_ _ _ _ _ _ _ H a p b c=>Rn H a p b c)
end Jm
end
end F
namespace F
open L2
def _root_.L2.pE.imp{X:Cx}{e:List Expr}{t t':TT}(h:pE X e t')(i:∀σ H Q,t σ H Q->t' σ H Q):pE X e t:=λp s σ H Q I q=>h p s σ H Q I (i σ H Q q)
structure Fm(Γ:Gm)(t:Tb)where
 m:Sm
 ck:Sx->List Expr->Bool
 pf:∀{k S X E xs},rq Γ t k S X E->ck S xs->pE X xs (jm (yx t X) E m)
noncomputable def Bk(S s:Scope):Scope:={s with names:=s.names.map λ(n,k)=>if k==.free&&S.kind==.function&&S.names.lookup n==O .cell then(n,.cell)else(n,k)}
noncomputable def ag1(x:Expr):Option Str:=match x with|.Name n _=>O n|_=>af
def Er(x:Expr):ϐ:=match x with|.Name n _=>[n]|.Tuple e _ _=>e.filterMap ag1|_=>[]
def Je:ϐ->Bool|[]=>J|x::r=>!jf x r&&Je r
theorem pU:∀{l:ϐ},x∈l->jf x l=J
 |[],h=>by cases h|y::r,h=>by
  unfold jf;rcases aK.mp h with h|h;.rw[aQ.mpr h];rfl
  .rw[pU h,l6]
theorem mO:∀{l:ϐ},Je l=J->l.Nodup|[],_=>fE|x::r,h=>by refine cj.mpr (λz=>?_,mO (ah h).2);have:=eF (ah h).1;rw[pU z]at this;cases this
def k_(S:Sx)(x:Str):Bool:=QE S.sc x&&(S.fr||DG S.sc x)
def kt(S:Sx)(i:Nat):Expr->Bool:=r8 λx _=>A0 x i S.N&&k_ S x
def Zl(S:Sx):Ϙ->List Expr->Bool|[],[]=>J|i::I,e::E=>kt S i e&&Zl S I E|_,_=>a'
def q_(S:Sx):Tg->Expr->Bool|.one i=>kt S i|.many I=>NF λe _ _=>Zl S I e
def Ut(a:X.N=S.N)(s:X.env.scope=S.sc)(d:X.N.Nodup)(f:∀y,k_ S y=J->X.fn y\/X.env.scope.names.lookup y=O .local)(h:kt S i x):PG X x (mG i)/\∀env,gc [x] env=[(a',assign x env)]:=by refine iL h λn p h=>?_;have(b,H):=ah h;exact(Ry d (by rw[a];exact lG b) (by rw[s];exact Dj (ah H).1) (f n H),λ_=>rfl)
def G2(h:b4 x):gc (x::es) env=(a',assign x env)::gc es env:=by cases x<;>first|rfl|cases h
def Nt(h:kt S i x):b4 x=true:=iL h λ_ _ _=>rfl
theorem Mj(H:X.N=S.N)(s:X.env.scope=S.sc)(n:X.N.Nodup)(f:∀y,k_ S y=J->X.fn y\/X.env.scope.names.lookup y=O .local):∀{is:Ϙ}{es:List Expr},Zl S is es=J->Vh X es (Kp is)/\(gc es X.env).length=is.length/\(gc es X.env).findIdx? (·.1)=af|[],[],_=>(Rz,rfl,rfl)|[],_::_,h=>by cases h|_::_,[],h=>by cases h|i::is,e::es,h=>by have(d,g):=ah h;have(a,b,c):=Mj H s n f g;have z:=G2 (es:=es) (env:=X.env) (Nt d);refine(Mn (Ut H s n f d).1 a (by rw[z];rfl),by rw[z,ag,ag,b],?_);rw[z,List.findIdx?_cons,c];rfl
def A6(d:X.calm)(H:X.N=S.N)(s:X.env.scope=S.sc)(n:X.N.Nodup)(f:∀y,k_ S y=J->X.fn y\/X.env.scope.names.lookup y=O .local)(h:q_ S tg x):PG X x (Z9 X.K tg):=by cases tg with|one i=>exact(Ut H s n f h).1|many I=>refine tQ h λe k p h=>?_;have(a,b,c):=Mj H s n f h;exact YC d a b c
def sX(h:mQ e):g5 e env x=pure x:=by cases e<;>first|rfl|cases h
section
variable{Γ:Gm}{t:Tb}
def Fm.no:Fm Γ t:=(sC (.bl J),λ_ x=>AJ x,λo h=>by rw[jz h];refine Mq.imp λτ H B G=>?_;have(G,M,σ,h,X,Q,k,q):=G;have(b,e,z):=k.out _ h M H Ext.refl k.rel q;cases e;exact z)
def Fm.one(T:Tm Γ t):Fm Γ t:=(T.m,λS x=>og (l1 x) (T.ck S),λo h=>by have(a,e,h):=cE h;rw[fk e];exact Mr (T.pt o h))
noncomputable def sA(s:Ϙ)(N:ϐ):ϐ:=s.map λj=>N[j]?.getD ""
def OV(h:s.all (λj=>Nat.blt j N.length)):s.map (λj=>N[j]?)=(sA s N).map some:=by unfold sA;rw[bK];refine lZ λj H=>?_;have l:j<N.length:=bj (ai.mp h j H);rw[Function.comp_apply,aN l];rfl
def yA(N:ϐ)(S s:Scope):Bool:=decide (s.kind=.function)&&(Je N&&(s.names.all (λy=>y.2 !=.cell)&&(s.names.all (λy=>y.2 !=.local||DG s y.1)&&s.names.all λy=>y.2 !=.free||decide (S.names.lookup y.1=O .cell)&&!DG (Bk S s) y.1)))
def kY{α:Type}{f:α->Bool}{l:List α}(h:l.all f):∀y∈l,f y=true:=ai.mp h
def RU(d:X.env.scope=s)(h:yA N s scope):eS X N scope:=by
 have(g,h):=ah h;have(i,h):=ah h;have(j,h):=ah h;have(k,f):=ah h;have n:∀{a b:NameKind}{c:Bool},(a !=b||c)=J->a=b->c=true:=λ{a b c}z e=>by
  subst e;rcases(cH _ _).mp z with z|z;.rw[bne_self_eq_false]at z;cases z
  .exact z
 refine Cj s d (aW g) (mO i) (λy H z=>?_) (λy H z=>DH (n (kY k y H) z)) (λy H z=>aW (ah (n (kY f y H) z)).1) λy H z=>?_;.have:=kY j y H;rw[z]at this;cases this
 .have q:=eF (ah (n (kY f y H) z)).2;unfold DG at q;intro w;rw[show(Bk s scope).names.lookup y.1=O .local from w]at q;cases q
def Y'(a:Ϙ)(S:Sx)(s:Scope):Bool:=a.all (λj=>Nat.blt j S.N.length)&&(sA a S.N).all λy=>s.names.any λz=>aS z.1 y&&z.2==.free
def OO(h:Y' a S s):a.map (λj=>S.N[j]?)=(sA a S.N).map O/\∀y∈sA a S.N,(y,ac0)∈s.names:=by have(H,b):=ah h;refine(OV H,λy c=>?_);have(z,d,q):=List.any_eq_true.mp (kY b y c);have(Z,e):=z;have(Q,f):=ah q;have E:Z=y:=aQ.mp Q;have g:e=.free:=kB f;subst E g;exact d
def UQ(S:Sx)(n:ϐ)(s:Scope):Sx:={S with N:=n,sc:=Bk S.sc s,fr:=a'}
def o_(o:rq Γ t k S X E)(N:ϐ)(b:Scope)(fp:List Addr)(c:be)(d:Hp):rq Γ t k (UQ S N b) (fi X N b fp c d) λ_ _ _=>False where
 hN:=rfl;hs:=by show relabel b X.env=Bk S.sc b;rw[<-o.hs];rfl
 hc:=o.hc;hp:=λp σ H s e f I h=>by have(a,C,g,_,_,q):=h;exact q.elim
 hr:=o.hr;bl:=o.bl;fA:=o.fA;fn:=o.fn;gl:=o.gl;tab:=o.tab;cls:=o.cls;pd:=o.pd;fx:=λh=>by cases h
def yV(o:rq Γ t k S X E)(N:ϐ)(s:Scope)(fp:List Addr)(a:be)(H:Hp):rq Γ t k (UQ S N s) (dh X N s fp a H E) E where
 hN:=rfl;hs:=by show relabel s X.env=Bk S.sc s;rw[<-o.hs];rfl
 hc:=o.hc;hp:=Ci;hr:=o.hr;bl:=o.bl;fA:=o.fA;fn:=o.fn;gl:=o.gl;tab:=o.tab;cls:=o.cls;pd:=o.pd;fx:=λh=>by cases h
def He(S:Sx)(n:Nat)(s:Ϙ)(tg:Tg)(j:Sx->Expr->Expr->Bool)(F:Fm Γ t)(A:Sx->Expr->Bool):Expr->Bool:=GK λe gs c _=>og (l1 gs) λg=>decide (g.is_async=0)&&(mQ g.iter&&(aa6 (Er g.target).length n&&(Sy n tg&&(Y' s S c&&(yA (Er g.target++sA s S.N) S.sc c&&(q_ (UQ S (Er g.target++sA s S.N) c) tg g.target&&(j S g.target g.iter&&(F.ck (UQ S (Er g.target++sA s S.N) c) g.ifs&&A (UQ S (Er g.target++sA s S.N) c) e))))))))
@[elab_as_elim]def pM{F:Fm Γ t}{P:Expr->Prop}(o:rq Γ t k S X E)(h:He S n a tg j F A x)(q:∀b T ix i e s p,eS X b s->(∀σ:tSt,σ.length=X.N.length->mh X b s σ (pJ n a σ))->j S T ix->Sy n tg->(∀{c d},rq Γ t k (UQ S b s) c d->PG c T (Z9 c.K tg))->F.ck (UQ S b s) i->A (UQ S b s) e->(∀v,g5 ix X.env v=pure v)->P (.ListComp e [(T,ix,i,0)] s p)):P x:=by
 refine NA h λe gs s p h=>?_;obtain⟨⟨T,ix,i,l⟩,m,h⟩:=cE h;rw[fk m];have(r,h):=ah h;have(u,h):=ah h;have(w,h):=ah h;have(z,h):=ah h;have(B,h):=ah h;have(f,h):=ah h;have(C,h):=ah h;have(G,h):=ah h;have(I,H):=ah h;have e0:l=0:=aW r;subst e0;have g:(Er T).length=n:=ax w;have(L,M):=OO B;have D:(Er T++sA a S.N).drop n=sA a S.N:=by rw[<-g,List.drop_left]
 exact q _ T ix i e s p (RU o.hs f) (WU n a (by rw[aa,g];unfold sA;rw[ae]) (by rw[D,o.hN];exact L) (by rw[D];exact M)) G z (λ{c d}oc=>A6 oc.hc oc.hN oc.hs (by rw[oc.hN];exact mO (ah (ah f).2).1) (λy Q=>.inr (by rw[oc.hs];exact DH (ah Q).2)) C) I H λ_=>sX u
def Em.comp(n:Nat)(a:Ϙ)(tg:Tg)(j:Jm Γ t)(F:Fm Γ t)(A:Em Γ t):Em Γ t:=(Gh n a tg (we j.m) F.m A.m a',λS x=>S.fr&&He S n a tg j.ck F A.ck x,λo h=>pM o (ah h).2 λN T ix i e u p b c d g k l q r=>(uU (o.fx (ah h).1).1 (o.fx (ah h).1).2 b o.hc c (j.pi o d) (λf s H=>k (yV o _ _ f s H)) (λf s H=>F.pf (yV o _ _ f s H) l) (λf s H=>A.pe (yV o _ _ f s H) q) r).imp λ_ _ _=>ya (λ_ _ z=>by cases z) g)
def Zx(f:Option Expr->Pos->Bool)(x:Stmt):Bool:=aa6 x.ctorIdx 3&&match x with|.Return e p=>f e p|_=>a'
@[elab_as_elim]def SQ{P:Stmt->Prop}(h:Zx f x)(q:∀e p,f e p=J->P (.Return e p)):P x:=Stmt.Return.elim (motive_2:=λx=>Zx f x=J->P x) x (ax (ah h).1) (λe p h=>q e p h) h
def IL(f:List Expr->Expr->Pos->Bool)(x:Stmt):Bool:=aa6 x.ctorIdx 5&&match x with|.Assign T e p=>f T e p|_=>a'
@[elab_as_elim]def tN{P:Stmt->Prop}(h:IL f x)(q:∀ts e p,f ts e p=J->P (.Assign ts e p)):P x:=Stmt.Assign.elim (motive_2:=λx=>IL f x=J->P x) x (ax (ah h).1) (λts e p h=>q ts e p h) h
noncomputable def NC(f:Expr->Expr->List Stmt->List Stmt->Pos->Bool)(x:Stmt):Bool:=aa6 x.ctorIdx 9&&match x with|.For a b c d p=>f a b c d p|_=>a'
@[elab_as_elim]def zv{P:Stmt->Prop}(h:NC f x)(q:∀a b c d p,f a b c d p=J->P (.For a b c d p)):P x:=Stmt.For.elim (motive_2:=λx=>NC f x=J->P x) x (ax (ah h).1) (λa b c d p h=>q a b c d p h) h
def SU(f:Expr->List Stmt->List Stmt->Pos->Bool)(x:Stmt):Bool:=aa6 x.ctorIdx 11&&match x with|.While a b c p=>f a b c p|_=>a'
@[elab_as_elim]def GL{P:Stmt->Prop}(h:SU f x)(q:∀a b c p,f a b c p=J->P (.While a b c p)):P x:=Stmt.While.elim (motive_2:=λx=>SU f x=J->P x) x (ax (ah h).1) (λa b c p h=>q a b c p h) h
noncomputable def Zu(f:Expr->List Stmt->List Stmt->Pos->Bool)(x:Stmt):Bool:=aa6 x.ctorIdx 12&&match x with|.If a b c p=>f a b c p|_=>a'
@[elab_as_elim]def SN{P:Stmt->Prop}(h:Zu f x)(q:∀a b c p,f a b c p=J->P (.If a b c p)):P x:=Stmt.If.elim (motive_2:=λx=>Zu f x=J->P x) x (ax (ah h).1) (λa b c p h=>q a b c p h) h
def Zy(f:Option Expr->Option Expr->Pos->Bool)(x:Stmt):Bool:=aa6 x.ctorIdx 16&&match x with|.Raise a b p=>f a b p|_=>a'
@[elab_as_elim]def SR{P:Stmt->Prop}(h:Zy f x)(q:∀a b p,f a b p=J->P (.Raise a b p)):P x:=Stmt.Raise.elim (motive_2:=λx=>Zy f x=J->P x) x (ax (ah h).1) (λa b p h=>q a b p h) h
def Zt(f:Expr->Pos->Bool)(x:Stmt):Bool:=aa6 x.ctorIdx 24&&match x with|.Expr a p=>f a p|_=>a'
@[elab_as_elim]def SM{P:Stmt->Prop}(h:Zt f x)(q:∀a p,f a p=J->P (.Expr a p)):P x:=Stmt.Expr.elim (motive_2:=λx=>Zt f x=J->P x) x (ax (ah h).1) (λa p h=>q a p h) h
def Zr(f:Expr->Operator->Expr->Pos->Bool)(x:Stmt):Bool:=aa6 x.ctorIdx 7&&match x with|.AugAssign a o b p=>f a o b p|_=>a'
@[elab_as_elim]def SI{P:Stmt->Prop}(h:Zr f x)(q:∀a o b p,f a o b p=J->P (.AugAssign a o b p)):P x:=Stmt.AugAssign.elim (motive_2:=λx=>Zr f x=J->P x) x (ax (ah h).1) (λa o b p h=>q a o b p h) h
structure Oks(Γ:Gm)(t:Tb)(k:Nat)(S:Sx)(X:Cx)(E:XK):Prop where
 x:rq Γ t k S X E
 nd:X.N.Nodup
 hf:∀y,k_ S y=J->X.fn y\/X.env.scope.names.lookup y=O .local
 po:PassesOwn (ce X.prog X.w) X.A X.env X.xe
 kd:X.env.scope.kind=.function
 exc:∀c∈S.xok,X.mg (S.zI c)=O (.ref (t.ca c))/\pB X.K (t.ca c)
structure Mm(Γ:Gm)(t:Tb)where
 m:Ss
 ck:Sx->Stmt->Bool
 ps:∀{k S X E st},Oks Γ t k S X E->ck S st->PS X st (eI (yx t X) E m)
structure Ms(Γ:Gm)(t:Tb)where
 m:Ss
 ck:Sx->List Stmt->Bool
 ps:∀{k S X E st},Oks Γ t k S X E->ck S st->oH X st (eI (yx t X) E m)
noncomputable def Wi(h:Hs)(k:Nat):Dv->Option Dv|.p x=>O (.p x)|.r i=>match aa4 k i with|false=>O (.r i)|true=>match h[i]? with|some (.lst X)=>O (.p (.lst X))|some (.dct K u)=>O (.p (.dct K u))|_=>af
noncomputable def pu(e:Expr):Bool:=match e with|.ListComp _ _ _ _=>a'|.SetComp _ _ _ _=>a'|.DictComp _ _ _ _ _=>a'|_=>J
def Ua(h:pu e):gt e o l env=pure false:=by cases e<;>first|rfl|cases h
def Zf:gt e (O (.Subscript a i p)) l env=pure false:=by cases e<;>rfl
def Vt:gt e (O (.Attribute a f p)) l env=pure false:=by cases e<;>rfl
noncomputable def xP(e:Expr):Bool:=match e with|.Tuple _ _ _=>a'|.ListComp _ _ _ _=>a'|.SetComp _ _ _ _=>a'|.DictComp _ _ _ _ _=>a'|_=>J
def Ug(h:xP e):swapsWithSole [.Tuple es j p] e l env=pure a'/\swappedStores [.Tuple es j p] e env=pure none:=by cases e<;>first|exact(rfl,rfl)|cases h
def Wj(r:bh Z M H h)(i:cL Z M H d v)(e:Wi h k d=O x):cL Z (M.take k) H x v:=by
 unfold Wi at e;split at e;.cases e;exact bT.mv (Mv.cut r k) i
 .rename_i n;split at e;.rename_i b;cases e;refine i.cut r (a9 ?_);exact Nat.lt_of_not_le λz=>by rw[kr z]at b;cases b
  .rename_i b;have(a,c,rfl):=i;have N:a∉M.take k/\a∉Z.G:=by
    refine(λz=>?_,r.dj a (a7 c));have(j,f):=vN z;have g:j<k:=by have:=(ak.mp f).1;rw[bW]at this;lia
    rw[iM g]at f;have(l1,E):=ak.mp c;have(l2,p):=ak.mp f;have:=(kA r.nd).mp (E.trans p.symm);have:=bj b;lia
   split at e;.rename_i o;cases e;have(s,l,m):=r.ob n a _ c o;unfold cL bT;exact(a,s,rfl,N,l,aR.mv (Mv.cut r k) m)
   .rename_i o;cases e;have(B,l,m,q):=r.ob n a _ c o;unfold cL bT;exact(a,B,rfl,N,l,aR.mv (Mv.cut r k) m,aR.mv (Mv.cut r k) q)
   .cases e
def Y8(S:Sx)(i:Nat)(f:Str->Pos->Expr->Bool):Stmt->Bool:=IL λT e _=>og (l1 T) (r8 λx p=>A0 x i S.N&&(k_ S x&&f x p e))
@[elab_as_elim]def Gu{k S X E}{P:Stmt->Prop}{st:Stmt}(o:Oks Γ t k S X E)(h:Y8 S i f st)(q:∀x p e pos,X.N[i]?=O x->L2.Loc X.env.scope x->X.fn x\/X.env.scope.names.lookup x=O .local->f x p e->P (.Assign [.Name x p] e pos)):P st:=by refine tN h λT e pos h=>?_;have(c,a,h):=cE h;rw[fk a];refine iL h λx p h=>?_;have(b,h):=ah h;have(H,h):=ah h;exact q x p e pos (by rw[o.x.hN];exact lG b) (by rw[o.x.hs];exact Dj (ah H).1) (o.hf x H) h
def oa(f:Expr->Expr->Expr->Bool):Stmt->Bool:=IL λT e _=>og (l1 T) (Ew λa i _=>f a i e)
@[elab_as_elim]def Na{P:Stmt->Prop}{st:Stmt}(h:oa f st)(q:∀a i p e pos,f a i e=J->P (.Assign [.Subscript a i p] e pos)):P st:=by refine tN h λT e pos h=>?_;have(x,E,h):=cE h;rw[fk E];refine qo h λa i p h=>?_;exact q a i p e pos h
def EI(h:uQ i):∀v,assign (.Subscript o i p) env v=(do
   let a<-fy [v] (eval o env)let I<-fy [v,a] (eval i env)standAt p
   fy [v,a,I] (setItem a I v)release [v,a,I] []):=by intro v;cases i<;>first|rfl|cases h
def GC:swapsWithSole [.Subscript a i p] e l env=pure false:=Zf (a:=a) (i:=i) (p:=p) (l:=l) (env:=env)
def Nc:swappedStores [.Subscript a i p] e env=pure none:=by cases e<;>rfl
namespace Mm
def ex(A:Em Γ t):Mm Γ t:=(vu A.m,λS=>Zt λe _=>pu e&&A.ck S e,λo h=>SM h λe p h=>Yy (A.pe o.x (ah h).2) (Ua (ah h).1))
def ret(A:Em Γ t):Mm Γ t:=(tz A.m,λS=>Zx λe _=>og e (A.ck S),λo h=>by refine SQ h λe p h=>?_;have(a,E,h):=cE h;rw[E];exact Rt (A.pe o.x h))
def set(i:Nat)(A:Em Γ t):Mm Γ t:=(RT i A.m,λS=>Y8 S i λ_ _ e=>pu e&&A.ck S e,λo h=>Gu o h λx p e P a b c H=>Ru (λT d=>Mz o.nd a b d (Ua (ah H).1) c) (A.pe o.x (ah H).2))
def unp(is:Ϙ)(A:Em Γ t):Mm Γ t:=(ID is A.m,λS=>IL λT e _=>xP e&&(A.ck S e&&og (l1 T) (q_ S (.many is))),λo h=>by refine tN h λT e pos h=>?_;have(H,h):=ah h;have(a,h):=ah h;have(c,E,h):=cE h;rw[fk E];have g:=A6 o.x.hc o.x.hN o.x.hs o.nd o.hf h;revert g;refine tQ h λs j p _ g=>?_;exact Rv (λd b=>DO b g (Ug (l:=pos.line) H).1 (Ug (l:=0) H).2 rfl) (A.pe o.x a))
def put(A B C:Em Γ t):Mm Γ t:=(PY A.m B.m C.m,λS=>oa λa i e=>uQ i&&(A.ck S e&&(B.ck S a&&C.ck S i)),λo h=>by refine Na h λa i p e pos h=>?_;have(H,h):=ah h;have(b,h):=ah h;have(c,d):=ah h;exact(DO (A.pe o.x b) (Ml (B.pe o.x c) (C.pe o.x d) Bs (EI H)) (GC (l:=pos.line)) Nc rfl).imp λ_ _ _=>YN)
def oN(c j:Nat)(A B:Em Γ t):Mm Γ t:=(UM c j A.m B.m,λS=>IL λT e _=>og (l1 T) (Bz λa f _=>gH c S.NW&&(A0 f j (S.fl c)&&(A.ck S e&&B.ck S a))),λo h=>by refine tN h λT e pos h=>?_;have(k,E,h):=cE h;rw[fk E];refine nS h λa f p h=>?_;have(H,h):=ah h;have(b,h):=ah h;have(d,g):=ah h;have(C,i):=o.x.cls c (b9.mp H);exact(YJ (B.pe o.x g) (A.pe o.x d) (Vt (l:=pos.line))).imp λ_ _ _=>PB C (by rw[i];exact lG b))
def raise(c:Nat)(A:Em Γ t):Mm Γ t:=(MU c A.m,λS=>Zy λe b _=>b.isNone&&(S.fr&&(gH c S.xok&&og e (jY λf E k _=>HH k&&(C6 S (S.zI c) f&&og (l1 E) λe0=>b4 e0&&A.ck S e0)))),λo h=>by refine SR h λe b P h=>?_;have(H,h):=ah h;have(a,h):=ah h;have(d,h):=ah h;have(y,i,g):=cE h;rw[i];cases b with|some _=>cases H|none=>refine eR g λf E k C h=>?_;have(j,h):=ah h;have(l,h):=ah h;have(e0,n,h):=cE h;have(p,q,r,s,z):=gP o.x l;rw[iQ j,fk n,q];have(fr,u):=o.x.fx a;have(v,K):=o.exc c (b9.mp d);exact Ij (λT w=>My fr u o.x.hc r v K w (ah h).1 s) (A.pe o.x (ah h).2))
def iff(T:Tm Γ t)(A B:Ms Γ t):Mm Γ t:=(PV T.m A.m B.m,λS=>Zu λc a b _=>T.ck S c&&(A.ck S a&&B.ck S b),λo h=>by refine SN h λc a b p h=>?_;have(H,h):=ah h;have(d,e):=ah h;exact Yz (T.pt o.x H) (A.ps o d) (B.ps o e))
def fo(tg:Tg)(j:Jm Γ t)(B:Ms Γ t):Mm Γ t:=(wf tg (we j.m) B.m,λS=>NC λT ix b e _=>AJ e&&(mQ ix&&(q_ S tg T&&(j.ck S T ix&&B.ck S b))),λo h=>by refine zv h λT ix b e p h=>?_;have(H,h):=ah h;have(a,h):=ah h;have(c,h):=ah h;have(d,f):=ah h;rw[jz H];exact(DP o.po o.x.hc (j.pi o.x d) (A6 o.x.hc o.x.hN o.x.hs o.nd o.hf c) (B.ps o f) λ_=>sX a).imp λ_ _ _=>Wh)
def bk:Mm Γ t:=(oD,λ_ st=>aa6 st.ctorIdx 26,λ{k S X E st}o h=>by exact Stmt.Break.elim (motive_2:=λst=>PS X st (eI (yx t X) E oD)) st (ax h) λp=>Yw)
def ct:Mm Γ t:=(ru,λ_ st=>aa6 st.ctorIdx 27,λ{k S X E st}o h=>by exact Stmt.Continue.elim (motive_2:=λst=>PS X st (eI (yx t X) E ru)) st (ax h) λp=>Yx)
end Mm
namespace Ms
def nil:Ms Γ t:=(E',λ_ l=>AJ l,λo h=>by rw[jz h];exact Rq)
def one(A:Mm Γ t):Ms Γ t:=(A.m,λS l=>og (l1 l) (A.ck S),λo h=>by have(a,e,h):=cE h;rw[fk e];exact Rr (A.ps o h))
abbrev re(A:Em Γ t):Ms Γ t:=one (.ret A)
def seq(A:Mm Γ t)(B:Ms Γ t):Ms Γ t:=(Y4 A.m B.m,λS l=>og (lc l) λp=>A.ck S p.1&&B.ck S p.2,λo h=>by obtain⟨⟨a,r⟩,e,h⟩:=cE h;rw[FC e];exact Mh (A.ps o (ah h).1) (B.ps o (ah h).2))
def cut(A:Mm Γ t)(B:Ms Γ t):Ms Γ t:=(UI A.m B.m,λS l=>og (lc l) λp=>A.ck S p.1&&B.ck S p.2,λo h=>by obtain⟨⟨a,r⟩,e,h⟩:=cE h;rw[FC e];exact Ro (A.ps o (ah h).1) (B.ps o (ah h).2))
end Ms
end
end F
namespace F
open L2
section
variable{Γ:Gm}{t:Tb}
def Y9(h:eI (yx t X) E (RT i A) D τ H):zp (cA (yx t X) E A) (mG i) D τ H:=by have(G,M,σ,h,N,k,q):=h;exact(G,M,σ,h,N.xc,_,(k.rel,k.env,λd a m b v e r i q=>k.nx _ a m b _ e r ((k.env.ext k.rel e).set i) q,k.exc),q)
def swB(x:Str)(p:Pos):Expr->Bool:=GK λ_ _ s c=>p.line==c.line&&!s.names.any λ(n,k)=>n==x&&(k==.local||k==.cell)
def Xh{env:Env}(h:env.scope.kind=.function):(env.blockKind==ScopeKind.function)=true:=by unfold Env.blockKind;rw[h];rfl
def Mm.setC(i n:Nat)(l:Ϙ)(tg:Tg)(j:Jm Γ t)(F:Fm Γ t)(A:Em Γ t):Mm Γ t:=(RT i (Gh n l tg (we j.m) F.m A.m a'),λS=>Y8 S i λx p e=>DG S.sc x&&(swB x p e&&He S n l tg j.ck F A.ck e),λ{k S X E st}o h=>by
 refine Gu o h λx p e P u v w y=>?_;have(B,g):=ah y;have(G,D):=ah g;revert G;refine pM o.x D λR U ix I e r C W T a b K L M N G=>?_;refine(RD o.nd u v W o.x.hc T (j.pi o.x a) (λf s H=>K (o_ o.x _ _ f s H)) (λf s H=>F.pf (o_ o.x _ _ f s H) L) (λf s H=>A.pe (o_ o.x _ _ f s H) M) N ?_ w).imp λ_ _ _ q=>ya (λ_ _ z=>by cases z) b (Y9 q);have(c,d):=ah (show(p.line==C.line&&!r.names.any λ(n,k)=>n==x&&(k==.local||k==.cell))=J from G);show pure (X.env.blockKind==.function&&X.env.kindOf x==O .local&&p.line==C.line&&!r.names.any λ(n,k)=>n==x&&(k==.local||k==.cell))=pure J;have Q:X.env.kindOf x=O .local:=by show X.env.scope.names.lookup x=_;rw[o.x.hs];exact DH B
 rw[Xh o.kd,Q,c,d];rfl)
structure Gk(Γ:Gm)(t:Tb)(k:Nat)(S:Sx)(P:cr)(w:cf)(K:Frag)(mg:db)(base:Heap):Prop where
 bl:∀x∈S.Oy,mg x=af
 fA:S.fA=t.fA
 fn:∀i∈Γ.oq,∃ps,oG P w K mg base (k+1) (t.fA i) ps (iK (K,mg,t) (Γ.fn i))gl:∀i∈Γ.a_,∃u v,mg (S.gnm i)=O u/\RelV v u/\∀G M H,bT (((K,mg,t):T0).z G) M H (Γ.gl i) v
 tab:∀i∈Γ.tok,∃ad,mg (S.Zk i)=O (.ref ad)/\BW w K mg t.fA i ad (Γ.tab i)cls:∀c∈S.NW,tS K t c/\t.fl c=S.fl c
 pd:∀c∈Γ.iF,∃ps,qD P w K mg base k (S.zI c) t.ca c ps (iK (K,mg,t) (Γ.pd c))exc:∀c∈S.xok,mg (S.zI c)=O (.ref (t.ca c))/\pB K (t.ca c)
def jp(z:Bool)(k:Nat)(Q:Dv->Hs->Prop)(d:Dv)(h:Hs):Prop:=match z with|false=>Q d h|true=>match Wi h k d with|some x=>gd (bH k (h.take k)) (Q x (h.take k))|none=>False
def o3(z:Bool)(k:Nat)(x:XP):XP:=λc h=>match z with|false=>x c h|true=>gd (bH k (h.take k)) (x c (h.take k))
def eA(z:Bool)(k:Nat)(Q:Dv->Hs->Prop)(x:XP):En:=(λ_ h=>jp z k Q (.p .non) h,jp z k Q,λ_ _=>False,λ_ _=>False,o3 z k x)
noncomputable def jN(n:Nat)(ds:List Dv):Es:=ds.map O++aa5 (n-ds.length) af
def zj(N:ϐ)(i:bY Z M H ds vs):cV Z M H (jN N.length ds) (L2.start N vs):=by
 refine(by unfold jN L2.start;rw[aa,aa,ae,ae,bR,bR,i.len],λj d h=>?_);unfold jN at h;unfold L2.start;by_cases a:j<ds.length;.rw[aZ (by rw[ae];exact a),bN]at h;rw[aZ (by rw[ae,<-i.len];exact a),bN];cases e:ds[j]? with|none=>rw[e]at h;cases h|some D=>rw[e]at h;cases h;have(v,b,c):=i.get e;exact(v,by rw[b];rfl,c)
 .rw[aM (by rw[ae];lia),fB]at h;split at h<;>cases h
def UG{a:VK}(R:bh Z M H h)(out:∀d h' M' H' v,Ext M H M' H'->bh Z M' H' h'->cL Z M' H' d v->Q d h'->a v H')(e:Ext M H M' H')(r:bh Z M' H' h')(i:cL Z M' H' d v)(q:jp z h.length Q d h'):a v H':=by
 unfold jp at q;split at q;.exact out d h' M' H' v e r i q
 .split at q;.rename_i x b;have(c,q):=bq q;exact out x _ _ H' v (e.cut (by rw[R.ln];exact ay _)) (r.cut _ c) (Wj r i b) q
  .exact q.elim
def T2{EV:Hp->Prop}(R:bh Z M H h)(out:∀h' M' H',Ext M H M' H'->bh Z M' H' h'->x c h'->EV H')(e:Ext M H M' H')(r:bh Z M' H' h')(q:o3 z h.length x c h'):EV H':=by
 unfold o3 at q;split at q;.exact out h' M' H' e r q
 .have(C,q):=bq q;exact out _ _ _ (e.cut (by rw[R.ln];exact ay _)) (r.cut _ C) q
noncomputable def Sx.at(S:Sx)(N:ϐ)(sc:Scope)(fr:Bool):Sx:={S with N:=N,sc:=sc,fr:=fr}
def yj(r:bh ((yx t X).z G) M H h)(v:cV ((yx t X).z G) M H σ τ)(out:∀d h' M' H' v,Ext M H M' H'->bh ((yx t X).z G) M' H' h'->cL ((yx t X).z G) M' H' d v->Q d h'->a v H')(b:∀c h' M' H',Ext M H M' H'->bh ((yx t X).z G) M' H' h'->x c h'->E (.ref (t.ca c)) af H'):Vc ((yx t X).z G) E τ H {nx:=λ_ H'=>a .non H',rt:=a} M σ h (eA z h.length Q x):=(r,v,λf h' M' H' g e R j q=>UG r out e R tm q,λd h' M' H' v e R i q=>UG r out e R i q,λ_ _ _ _ _ _ _ _ q=>q.elim,λ_ _ _ _ _ _ _ _ q=>q.elim,λc h' M' H' e R q=>T2 (EV:=λH'=>E (.ref (t.ca c)) af H') r (b c) e R q)
variable{P:cr}{w:cf}{K:Frag}{mg:db}{base:Heap}{x:Str}{st:Stmt}{ps N:ϐ}{k:Nat}{C:Ct}{S:Sx}
def Gk.okx{fr:Bool}(g:Gk Γ t k S X.prog X.w X.K X.mg X.base)(h:X.N=N)(H:X.env.scope=s)(c:X.calm)(p:dZ (o8 X.prog X.w) X E)(r:dR (k+1) X.A)(f:fr->Oh X/\jR X E):rq Γ t k (S.at N s fr) X E:=(h,H,c,p,r,g.bl,g.fA,g.fn,g.gl,g.tab,g.cls,g.pd,f)
def Ms.afy(B:Ms Γ t)(z:Bool)(b:Src K mg x st ps)(F:eD N ps (aT st))(g:Gk Γ t k S P w K mg base)(u:B.ck (S.at N (aT st) J) (bZ st)=J)(a:∀ds h Q X,C ds h Q X->ds.length=ps.length/\B.m (eA z h.length Q X) (jN N.length ds) h):oG P w K mg base (k+2) x ps (iK (K,mg,t) C):=by refine b.okX F (λv H Q E (G,M,h,ds,q,X,r,i,c,_,_)=>by rw[<-i.len];exact(a _ _ _ _ c).1) λf j A o s H v Q E d (G,M,h,ds,q,X,r,i,c,out,e)=>?_;refine(_,B.ps (Γ:=Γ) (t:=t) (k:=k) (S:=S.at N (aT st) J) (E:=E) (Gk.okx g rfl rfl rfl (jR.pass yn yW) d λ_=>(yn,yW),F.nd,λy _=>.inl rfl,PassesOwn.leaving,F.kind,g.exc) u,?_);exact(G,M,_,h,_,yj r (zj N i) out e,(a _ _ _ _ c).2)
def Ms.afw(B:Ms Γ t)(z:Bool)(j:qF K (t.ca a) l st ps)(n:mg x=O (.ref (t.ca a)))(F:eD N ps (aT st))(g:Gk Γ t k S P w K mg base)(u:B.ck (S.at N (aT st) a') (bZ st)=J)(d:∀ds h Q b,C ds h Q b->ds.length=ps.length/\B.m (eA z h.length Q λ_ _=>False) (jN N.length ds) h):sv P w K mg base (k+2) x (t.ca a) ps (iK (K,mg,t) C):=by refine j.ok n F (λv H Q E (G,M,h,ds,D,b,r,i,c,_,_)=>by rw[<-i.len];exact(d _ _ _ _ c).1) λf L A o s H v Q E R (G,M,h,ds,D,b,r,i,c,out,T)=>?_;refine(_,B.ps (Γ:=Γ) (t:=t) (k:=k) (S:=S.at N (aT st) a') (E:=λ_ _ _=>False) (Gk.okx (X:=(qN GW P w K mg base N l (aT st) f L A o s H E).XG) g rfl rfl rfl (λp σ H s e U I (_,_,_,_,_,q)=>q.elim) R (λh=>by cases h),F.nd,λy _=>.inl rfl,PassesOwn.never,F.kind,g.exc) u,?_);exact(G,M,_,h,_,yj r (zj N i) out λ_ _ _ _ _ _ q=>q.elim,(d _ _ _ _ c).2)
def Ms.afx(B:Ms Γ t)(z:Bool)(d:qG K a x q st ps)(F:eD N ps (aT st))(g:Gk Γ t k S P w K mg base)(u:B.ck (S.at N (aT st) J) (bZ st)=J)(b:∀ds h Q X,C ds h Q X->ds.length=ps.length/\B.m (eA z h.length Q X) (jN N.length ds) h):vS P w K mg base (o8 P w) (k+2) a x ps (iK (K,mg,t) C):=by refine d.okX F (λv H Q E (G,M,h,ds,j,X,r,i,c,_,_)=>by rw[<-i.len];exact(b _ _ _ _ c).1) λf n A o s H v Q E l (G,M,h,ds,j,X,r,i,c,out,e)=>?_;refine(_,B.ps (Γ:=Γ) (t:=t) (k:=k) (S:=S.at N (aT st) J) (E:=E) (Gk.okx g rfl rfl rfl (jR.pass yn yW) l λ_=>(yn,yW),F.nd,λy _=>.inl rfl,PassesOwn.leaving,F.kind,g.exc) u,?_);exact(G,M,_,h,_,yj r (zj N i) out e,(b _ _ _ _ c).2)
end
structure Wd where
 P:cr
 w:cf
 K:Frag
 mg:db
 base:Heap
structure Lw where
 S:Sx
 ca:Nat->Addr
 gl:Nat->Pv
 a_:Ϙ
 tab:Nat->Str->Option (ϐ)tok:Ϙ
 pd:Nat->Ct
noncomputable abbrev Lw.t(L:Lw):Tb:=(L.S.fA,L.ca,L.S.fl)
noncomputable abbrev Lw.g(L:Lw)(fn:Nat->Ct)(o i:Ϙ):Gm:=(fn,o,L.gl,L.a_,L.pd,i,L.tab,L.tok)
abbrev Lw.y(L:Lw)(W:Wd):T0:=(W.K,W.mg,L.t)
structure Lk(L:Lw)(W:Wd):Prop where
 bl:∀x∈L.S.Oy,W.mg x=af
 gl:∀i∈L.a_,∃u v,W.mg (L.S.gnm i)=O u/\RelV v u/\∀G M H,bT ((L.y W).z G) M H (L.gl i) v
 tab:∀i∈L.tok,∃ad,W.mg (L.S.Zk i)=O (.ref ad)/\BW W.w W.K W.mg L.S.fA i ad (L.tab i)cls:∀c∈L.S.NW,tS W.K L.t c
 exc:∀c∈L.S.xok,W.mg (L.S.zI c)=O (.ref (L.ca c))/\pB W.K (L.ca c)
def Dt(L:Lw)(W:Wd)(i k:Nat)(C:Ct):Prop:=∃p,oG W.P W.w W.K W.mg W.base k (L.S.fA i) p (iK (L.y W) C)
def Di(L:Lw)(W:Wd)(c k:Nat):Prop:=∃p,qD W.P W.w W.K W.mg W.base k (L.S.zI c) L.ca c p (iK (L.y W) (L.pd c))
def BI(L:Lw)(W:Wd)(fn:Nat->Ct)(k:Nat):Ϙ->Prop|[]=>True|i::r=>Dt L W i k (fn i)/\BI L W fn k r
def BJ(L:Lw)(W:Wd)(k:Nat):Ϙ->Prop|[]=>True|i::r=>Di L W i k/\BJ L W k r
section
variable{L:Lw}{W:Wd}{i j k c:Nat}{C C':Ct}
theorem BI.at:∀{l:Ϙ},BI L W fn k l->∀i∈l,Dt L W i k (fn i)|[],_,i,h=>by cases h|j::r,f,i,h=>(aK.mp h).elim (λz=>by rw[z];exact f.1) λz=>BI.at f.2 i z
theorem BJ.at:∀{l:Ϙ},BJ L W k l->∀i∈l,Di L W i k|[],_,i,h=>by cases h|j::r,f,i,h=>(aK.mp h).elim (λz=>by rw[z];exact f.1) λz=>BJ.at f.2 i z
def Dt.up(D:Dt L W i j C)(h:aa4 j k):Dt L W i k C:=let (p,d):=D;(p,d.mono (bj h))
def Dt.le(D:Dt L W i j C)(h:j<=k):Dt L W i k C:=let (p,d):=D;(p,d.mono h)
def Di.le(D:Di L W i j)(h:j<=k):Di L W i k:=let (p,d):=D;(p,d.mono h)
theorem Dt.imp(D:Dt L W i k C)(h:∀ds h Q x,C' ds h Q x->C ds h Q x):Dt L W i k C':=let (p,d):=D;(p,d.imp λv H Q E (G,M,a,ds,q,x,r,i,c,o,b)=>(G,M,a,ds,q,x,r,i,h _ _ _ _ c,o,b))
def Lk.gk(B:Lk L W)(h:BI L W fn (k+1) o)(H:BJ L W k I):Gk (L.g fn o I) L.t k L.S W.P W.w W.K W.mg W.base:=(B.bl,rfl,h.at,B.gl,B.tab,λc a=>(B.cls c a,rfl),H.at,B.exc)
def Lk.d{st:Stmt}(N ps:ϐ)(z:Bool)(B:Lk L W)(b:Ms (L.g fn o I) L.t)(s:Src W.K W.mg (L.S.fA i) st ps)(F:eD N ps (aT st))(u:b.ck (L.S.at N (aT st) J) (bZ st)=J)(H:BI L W fn (k+1) o)(a:BJ L W k I)(e:∀ds h Q x,C ds h Q x->ds.length=ps.length/\b.m (eA z h.length Q x) (jN N.length ds) h):Dt L W i (k+2) C:=(ps,b.afy z s F (B.gk H a) u e)
def Lk.mk1{st:Stmt}(N ps:ϐ)(z:Bool)(B:Lk L W)(b:Ms (L.g fn o I) L.t)(s:qF W.K (L.ca c) q st ps)(H:W.mg (L.S.zI c)=O (.ref (L.ca c)))(F:eD N ps (aT st))(a:aa4 100 c=a')(u:b.ck (L.S.at N (aT st) a') (bZ st)=J)(f:BI L W fn (k+1) o)(d:BJ L W k I)(e:∀ds h Q x,L.pd c ds h Q x->ds.length=ps.length/\b.m (eA z h.length Q λ_ _=>False) (jN N.length ds) h):Di L W c (k+2):=(ps,by unfold qD;rw[a];exact b.afw z s H F (B.gk f d) u e)
def Lk.agX{st:Stmt}(N ps:ϐ)(z:Bool)(B:Lk L W)(b:Ms (L.g fn o I) L.t)(s:qG W.K (L.ca (c/100-1)) (L.S.zI c) q st ps)(F:eD N ps (aT st))(H:aa4 100 c)(u:b.ck (L.S.at N (aT st) J) (bZ st)=J)(f:BI L W fn (k+1) o)(a:BJ L W k I)(d:∀ds h Q x,L.pd c ds h Q x->ds.length=ps.length/\b.m (eA z h.length Q x) (jN N.length ds) h):Di L W c (k+2):=(ps,by unfold qD;rw[H];exact b.afx z s F (B.gk f a) u d)
end
end F
namespace F
open L2
def E5(H:bH k (h.take k))(q:R (h.take k)):OW k R h:=aw H q
def mV{α:Type}(h:List α):h.take h.length=h:=eo (ay _)
def kJ{α:Type}{xs:List α}{x:α}(h:xs[i]?=O x):xs=xs.take i++x::xs.drop (i+1):=by have(H,e):=ak.mp h;rw[<-e,fT,gE]
def kD{α:Type}{xs:List α}{x:α}(h:xs[i]?=O x):xs.take (i+1)=xs.take i++[x]:=by have(H,e):=ak.mp h;rw[<-e,List.take_append_getElem]
def nz{h:Hs}{xs:ϑ}{e:Pv->Option Es}{T A:Es->Hs->KP->Prop}{Q:ϑ->Hs->Prop}(g:Pv->Bool)(f:Pv->Pv)(j:bH h.length h)(step:∀y∈xs,match e y with|some a=>(∀R:KP,R [.p (.bl (g y))] h->T a h R)/\(g y=J->∀R:KP,R [.p (f y)] h->A a h R)|none=>False)(q:Q ((xs.filter g).map f) h):Cf h xs e T A Q:=by
 unfold Cf;refine(λi c b=>b=h/\c=((xs.take i).filter g).map f,(rfl,by rw[fF];rfl),?_,?_);.rintro i y c b d ⟨rfl,rfl⟩;have z:=step y (a7 d);cases k:e y with|none=>rw[k]at z;exact z|some a=>
   rw[k]at z;refine z.1 _ ?_;dsimp only;refine bB (λH=>z.2 H _ ?_) λH=>?_;.exact E5 (by rw[mV];exact j) (mV _,by rw[kD d,b7,aq,cD H];rfl)
   .exact E5 (by rw[mV];exact j) (mV _,by rw[kD d,b7,jn (by rw[H];exact aL)];simp)
 .rintro c b ⟨rfl,rfl⟩;rw[mV];exact q
def eX{H:Hs}{xs:ϑ}{e:Pv->Option Es}{A:Es->Hs->KP->Prop}{Q:ϑ->Hs->Prop}(f:Pv->Pv)(c:bH H.length H)(step:∀y∈xs,match e y with|some a=>∀R:KP,R [.p (f y)] H->A a H R|none=>False)(q:Q (xs.map f) H):Cf H xs e (λ_ h R=>R [.p (.bl J)] h) A Q:=by refine nz (λ_=>J) f c (λy d=>?_) (by rw[wE.mpr λ_ _=>rfl];exact q);have z:=step y d;cases b:e y with|none=>rw[b]at z;exact z|some a=>rw[b]at z;exact(λR q=>q,λ_=>z)
def eW{k:Nat}{xs:ϑ}{a:Pv->Es->Option Es}{b:Ss}{N:En}{σ:Es}{h:Hs}(c:ϑ->ϑ->Es->Hs->Prop)(f:c [] xs σ h)(step:∀pre x post σ' h',xs=pre++x::post->c pre (x::post) σ' h'->match a x σ' with|some d=>b (N.lp (JZ k (c (pre++[x]) post)) (JZ k N.nx)) d h'|none=>False)(fin:∀σ' h',c xs [] σ' h'->N.nx σ' h'):Px k xs a b N σ h:=by
 unfold Px;refine(λi σ' h'=>c (xs.take i) (xs.drop i) σ' h',by dsimp only;rw[fF,jG];exact f,λi x σ' h' H j=>?_,λσ' h' j=>fin σ' h' (by dsimp only at j;rw[cY,ky]at j;exact j));have(l,e):=ak.mp H;have E:xs.drop i=x::xs.drop (i+1):=by rw[<-e,fT]
 have g:c (xs.take i) (x::xs.drop (i+1)) σ' h':=E▸j;have z:=step _ x _ σ' h' (kJ H) g;rw[<-kD H]at z;exact z
section
variable{Q:Dv->Hs->Prop}{h:Hs}{a b:Bool}{X:Prop}
def j3(q:Q (.p (.bl (a&&b))) h)(k:a->Q (.p (.bl b)) h->X):br a X (Q (.p (.bl a')) h):=by cases a with|true=>exact k rfl q|false=>exact q
def W_(q:Q (.p (.bl (a||b))) h)(k:a=a'->Q (.p (.bl b)) h->X):br a (Q (.p (.bl J)) h) X:=by cases a with|true=>exact q|false=>exact k rfl q
def mm(q:Q (.p (.bl (a&&b))) h)(k:a->Q (.p (.bl b)) h->X):br (!a) (Q (.p (.bl a')) h) X:=by cases a with|true=>exact k rfl q|false=>exact q
def pG{x y:Bool}{Y:Prop}(q:Q (.p (.bl (match a with|true=>x|false=>y))) h)(k:a->Q (.p (.bl x)) h->X)(K:a=a'->Q (.p (.bl y)) h->Y):br a X Y:=by cases a with|true=>exact k rfl q|false=>exact K rfl q
def Oz(q:Q (.p (.bl (!(a&&b)&&c))) h)(k:Q (.p (.bl c)) h->X):br a (br b (Q (.p (.bl a')) h) X) X:=by cases a with
 |true=>cases b with|true=>exact q|false=>exact k q
 |false=>exact k q
theorem ER:∀{xs:ϑ},tT (xs.map λy=>.bl (g y))=O (xs.map g)|[]=>rfl|x::r=>by rw[aH,aH];unfold tT;rw[ER (xs:=r)]
def qI{xs:ϑ}(q:Q (.p (.bl (xs.all g))) h):LC [.p (.lst (xs.map λy=>.bl (g y)))] h Q:=by unfold LC;refine bC (x:=xs.map g) ER ?_;show Q (.p (.bl ((xs.map g).all id))) h;rw[eh];exact q
end
noncomputable def dw:Pv->Bool|.str _=>J|_=>a'
noncomputable def isInt:Pv->Bool|.int _=>J|_=>a'
def AK:Pv->Bool|.lst _=>J|_=>a'
def pY:Pv->Bool|.tup _=>J|_=>a'
noncomputable def d8:Pv->Str|.str z=>z|_=>""
def sE:Pv->Int|.int i=>i|_=>0
def qT:Pv->ϑ|.lst x=>x|_=>[]
def rk:Pv->ϑ|.tup x=>x|_=>[]
def ym:Pv->Bool|.lst x=>fP x|_=>a'
def i_(i:Int):Pv->Bool|.int j=>jT j i|_=>a'
section
variable{P:Pv->Prop}{a:Pv}
@[elab_as_elim]def lM(h:dw a)(k:∀z,P (.str z)):P a:=by cases a<;>first|exact k _|cases h
@[elab_as_elim]def KD(h:isInt a)(k:∀z,P (.int z)):P a:=by cases a<;>first|exact k _|cases h
@[elab_as_elim]def abj(h:AK a)(k:∀z,P (.lst z)):P a:=by cases a<;>first|exact k _|cases h
@[elab_as_elim]def adb(h:pY a)(k:∀z,P (.tup z)):P a:=by cases a<;>first|exact k _|cases h
@[elab_as_elim]def Pp(h:ym a)(k:∀z,fP z=J->P (.lst z)):P a:=by cases a<;>first|exact k _ h|cases h
@[elab_as_elim]def C7(h:i_ i a)(k:P (.int i)):P a:=by cases a<;>first|(rw[cB.mp h];exact k)|cases h
theorem nU:∀{xs ys:ϑ}{z:Pv},z∈iT xs ys->∃x y,x∈xs/\y∈ys/\z=.tup [x,y]
 |[],_,_,h=>by cases h|_::_,[],_,h=>by cases h|x::xs,y::ys,z,h=>by
  rcases aK.mp h with h|h;.exact(x,y,au,au,h)
  .have(a,b,H,c,d):=nU h;exact(a,b,ao _ H,ao _ c,d)
end
def xi{p:Prop}(h:a'):p:=Bool.noConfusion h
def dG(z:(a&&(b&&c))):a/\b/\c=true:=((ah z).1,ah (ah z).2)
def iN(z:(a&&(b&&(c&&d)))):a/\b/\c/\d=true:=((ah z).1,dG (ah z).2)
def Vp(z:(a&&(b&&(c&&(d&&e))))):a/\b/\c/\d/\e=true:=((ah z).1,iN (ah z).2)
def WS(z:(a&&(b&&(c&&(d&&(e&&f)))))):a/\b/\c/\d/\e/\f=true:=((ah z).1,Vp (ah z).2)
def afa(z:(a&&(b&&(c&&(d&&(e&&(f&&g))))))):a/\b/\c/\d/\e/\f/\g=true:=((ah z).1,WS (ah z).2)
def WI(z:(a&&(b&&(c&&(d&&(e&&(f&&(g&&h)))))))):a/\b/\c/\d/\e/\f/\g/\h=true:=((ah z).1,afa (ah z).2)
abbrev rC(ds:List Dv)(k:Nat->List Dv->Prop):Prop:=match ds with|.r i::r=>k i r|_=>False
abbrev pC(ds:List Dv)(k:Pv->List Dv->Prop):Prop:=match ds with|.p x::r=>k x r|_=>False
abbrev iC(ds:List Dv)(k:Int->List Dv->Prop):Prop:=match ds with|.p (.int x)::r=>k x r|_=>False
abbrev lC(ds:List Dv)(k:ϑ->List Dv->Prop):Prop:=match ds with|.p (.lst x)::r=>k x r|_=>False
abbrev aC(h:Hs)(k:ϑ->Hs->Prop):Prop:=match h with|.lst x::r=>k x r|_=>False
abbrev mC(h:Hs)(k:Int->Hs->Prop):Prop:=match h with|.lst [.int x]::r=>k x r|_=>False
abbrev nC{α:Type}(l:List α)(A:Prop):Prop:=match l with|[]=>A|_=>False
section
variable{ds:List Dv}{h:Hs}{G:List Dv->Prop}{F:Hs->Prop}
@[elab_as_elim]def sJ(c:rC ds k)(g:∀i r,k i r->G (.r i::r)):G ds:=by rcases ds with _|⟨_|_,_⟩<;>first|exact g _ _ c|exact c.elim
@[elab_as_elim]def iI(c:pC ds k)(g:∀i r,k i r->G (.p i::r)):G ds:=by rcases ds with _|⟨_|_,_⟩<;>first|exact g _ _ c|exact c.elim
@[elab_as_elim]def uB(c:iC ds k)(g:∀i r,k i r->G (.p (.int i)::r)):G ds:=by rcases ds with _|⟨x|_,_⟩<;>first|exact c.elim|(cases x<;>first|exact g _ _ c|exact c.elim)
@[elab_as_elim]def Qy(c:lC ds k)(g:∀i r,k i r->G (.p (.lst i)::r)):G ds:=by rcases ds with _|⟨x|_,_⟩<;>first|exact c.elim|(cases x<;>first|exact g _ _ c|exact c.elim)
@[elab_as_elim]def ae6(c:aC h k)(g:∀i r,k i r->F (.lst i::r)):F h:=by
 rcases h with _|⟨x,_⟩;.exact c.elim
 .cases x<;>first|exact g _ _ c|exact c.elim
@[elab_as_elim]def wo(c:mC h k)(g:∀i r,k i r->F (.lst [.int i]::r)):F h:=by
 rcases h with _|⟨x,_⟩;.exact c.elim
 .cases x with
  |lst X=>rcases X with _|⟨y,_|_⟩<;>first|exact c.elim|(cases y<;>first|exact g _ _ c|exact c.elim)
  |_=>exact c.elim
@[elab_as_elim]def fh{G:List α->Prop}(c:nC l A)(g:A->G []):G l:=by cases l<;>first|exact g c|exact c.elim
end
def Tt(p:Pv->Bool)(R:Pv->(Pv->Prop)->(Nat->Prop)->Prop):Ct:=λds h Q x=>pC ds λa r=>nC r (nC h (gd (p a) (R a (λy=>Q (.p y) []) λc=>x c [])))
abbrev mu(p:Pv->Bool)(R:Pv->(Pv->Prop)->Prop):Ct:=Tt p λa K _=>R a K
abbrev JJ(p:Pv->Bool)(f:Pv->Pv):Ct:=Tt p λa K _=>K (f a)
def zJ{b:Ss}(H:∀a(Q:Dv->Hs->Prop)(x:XP),p a=J->R a (λy=>Q (.p y) []) (λc=>x c [])->b (eA J 0 Q x) (jN n [.p a]) []):∀ds h Q x,Tt p R ds h Q x->ds.length=1/\b (eA J h.length Q x) (jN n ds) h:=by intro ds h Q x c;unfold Tt at c;exact iI c λX _ c=>fh c λc=>fh c λc=>(rfl,H X Q x (bq c).1 (bq c).2)
def S'(p:Pv->Pv->Bool)(R:Pv->Pv->(Pv->Prop)->(Nat->Prop)->Prop):Ct:=λds h Q x=>pC ds λa r=>pC r λb r=>nC r (nC h (gd (p a b) (R a b (λy=>Q (.p y) []) λc=>x c [])))
abbrev WO(p:Pv->Pv->Bool)(R:Pv->Pv->(Pv->Prop)->Prop):Ct:=S' p λa b K _=>R a b K
def oe{b:Ss}(H:∀a B(Q:Dv->Hs->Prop)(x:XP),p a B=J->R a B (λy=>Q (.p y) []) (λc=>x c [])->b (eA J 0 Q x) (jN n [.p a,.p B]) []):∀ds h Q x,S' p R ds h Q x->ds.length=2/\b (eA J h.length Q x) (jN n ds) h:=by intro ds h Q x c;unfold S' at c;exact iI c λX _ c=>iI c λd _ c=>fh c λc=>fh c λc=>(rfl,H X d Q x (bq c).1 (bq c).2)
def rL(p:Pv->Pv->Pv->Bool)(R:Pv->Pv->Pv->(Pv->Prop)->(Nat->Prop)->Prop):Ct:=λds h Q x=>pC ds λa r=>pC r λb r=>pC r λc r=>nC r (nC h (gd (p a b c) (R a b c (λy=>Q (.p y) []) λc=>x c [])))
abbrev X_(p:Pv->Pv->Pv->Bool)(f:Pv->Pv->Pv->Pv):Ct:=rL p λa b c K _=>K (f a b c)
def ia{b:Ss}(H:∀a B c(Q:Dv->Hs->Prop)(x:XP),p a B c=J->R a B c (λy=>Q (.p y) []) (λc=>x c [])->b (eA J 0 Q x) (jN n [.p a,.p B,.p c]) []):∀ds h Q x,rL p R ds h Q x->ds.length=3/\b (eA J h.length Q x) (jN n ds) h:=by intro ds h Q x c;unfold rL at c;exact iI c λX _ c=>iI c λd _ c=>iI c λe _ c=>fh c λc=>fh c λc=>(rfl,H X d e Q x (bq c).1 (bq c).2)
def lO(p:Pv->Pv->Pv->Pv->Bool)(R:Pv->Pv->Pv->Pv->(Pv->Prop)->(Nat->Prop)->Prop):Ct:=λds h Q x=>pC ds λa r=>pC r λb r=>pC r λc r=>pC r λd r=>nC r (nC h (gd (p a b c d) (R a b c d (λy=>Q (.p y) []) λc=>x c [])))
abbrev AH(p:Pv->Pv->Pv->Pv->Bool)(f:Pv->Pv->Pv->Pv->Pv):Ct:=lO p λa b c d K _=>K (f a b c d)
def nT{b:Ss}(H:∀a B c d(Q:Dv->Hs->Prop)(x:XP),p a B c d=J->R a B c d (λy=>Q (.p y) []) (λc=>x c [])->b (eA J 0 Q x) (jN n [.p a,.p B,.p c,.p d]) []):∀ds h Q x,lO p R ds h Q x->ds.length=4/\b (eA J h.length Q x) (jN n ds) h:=by intro ds h Q x c;unfold lO at c;exact iI c λX _ c=>iI c λe _ c=>iI c λf _ c=>iI c λg _ c=>fh c λc=>fh c λc=>(rfl,H X e f g Q x (bq c).1 (bq c).2)
def rx(p:Pv->Pv->Pv->Pv->Pv->Bool)(R:Pv->Pv->Pv->Pv->Pv->(Pv->Prop)->(Nat->Prop)->Prop):Ct:=λds h Q x=>pC ds λa r=>pC r λb r=>pC r λc r=>pC r λd r=>pC r λe r=>nC r (nC h (gd (p a b c d e) (R a b c d e (λy=>Q (.p y) []) λc=>x c [])))
abbrev cA5(p:Pv->Pv->Pv->Pv->Pv->Bool)(f:Pv->Pv->Pv->Pv->Pv->Pv):Ct:=rx p λa b c d e K _=>K (f a b c d e)
def hX5{b:Ss}(H:∀a B c d e(Q:Dv->Hs->Prop)(x:XP),p a B c d e=J->R a B c d e (λy=>Q (.p y) []) (λc=>x c [])->b (eA J 0 Q x) (jN n [.p a,.p B,.p c,.p d,.p e]) []):∀ds h Q x,rx p R ds h Q x->ds.length=5/\b (eA J h.length Q x) (jN n ds) h:=by intro ds h Q x c;unfold rx at c;exact iI c λX _ c=>iI c λf _ c=>iI c λg _ c=>iI c λi _ c=>iI c λj _ c=>fh c λc=>fh c λc=>(rfl,H X f g i j Q x (bq c).1 (bq c).2)
def Tr:Ct:=λ_ _ _ _=>False
theorem Dt.no{st:Stmt}{ps:ϐ}(r:Src W.K W.mg (L.S.fA i) st ps):Dt L W i k Tr:=by have(f,F,a,h,b):=r.ex;have no:∀v H Q E,¬iK (L.y W) Tr v H Q E:=λv H Q E (_,_,_,_,_,_,_,_,c,_,_)=>c;exact(ps,f,F,(λv H Q E q=>absurd q (no v H Q E),λA o s H args u v Q E _ _ _ _ q=>absurd q (no v H Q E)),h,a.kp,b)
def Ki:List (Nat×Ct)->Nat->Ct|[],_=>Tr|(j,c)::r,i=>match aa6 i j with|true=>c|false=>Ki r i
def All(L:Lw)(W:Wd)(k:Nat):List (Nat×Ct)->Prop|[]=>True|(i,c)::r=>Dt L W i k c/\All L W k r
theorem All.at:∀{l:List (Nat×Ct)},All L W k l->∀i∈l.map (·.1),Dt L W i k (Ki l i)|[],_,i,h=>by cases h|(j,c)::r,f,i,h=>by cases e:aa6 i j with
  |true=>
   have E:Ki ((j,c)::r) i=c:=by show(match aa6 i j with|true=>c|false=>Ki r i)=c;rw[e]
   rw[E,ax e];exact f.1|false=>
   have E:Ki ((j,c)::r) i=Ki r i:=by show(match aa6 i j with|true=>c|false=>Ki r i)=_;rw[e]
   rw[E];refine All.at f.2 i ((aK.mp h).resolve_left λz=>?_);rw[show i=j from z,fU]at e;cases e
theorem BI.of:∀{l:Ϙ},(∀i∈l,Dt L W i k (fn i))->BI L W fn k l|[],_=>trivial|_::_,h=>(h _ au,BI.of λi H=>h i (ao _ H))
abbrev Lw.G(L:Lw)(l:List (Nat×Ct))(i:Ϙ):Gm:=L.g (Ki l) (l.map (·.1)) i
def vj:ϐ->ϐ->Bool|[],[]=>J|x::r,y::q=>aS x y&&vj r q|_,_=>a'
theorem rh:∀{l m:ϐ},vj l m=J->l=m|[],[],_=>rfl|[],_::_,h=>by cases h|_::_,[],h=>by cases h|x::r,y::q,h=>by rw[aQ.mp (ah h).1,rh (ah h).2]
def Km(N ps:ϐ)(s:Scope):Bool:=s.kind==.function&&(!s.isCoroutine&&(!s.isGenerator&&(Je N&&(vj (N.take ps.length) ps&&(ps.all (QE s)&&s.names.all λy=>y.2 !=.free)))))
def oP(h:Km N ps sc):eD N ps sc:=by have(H,h):=ah h;have(a,h):=ah h;have(b,h):=ah h;have(c,h):=ah h;have(d,h):=ah h;have(e,f):=ah h;exact(kB H,eF a,eF b,mO c,rh d,λx g=>Dj (kY e x g),λy i z=>by have:=kY f y i;rw[z]at this;cases this)
noncomputable def Jd(s:Scope):ϐ:=(s.names.filter λp=>match p.2 with|.local=>J|.cell=>J|_=>a').map (·.1)
def Lk.eN0{st:Stmt}(N:ϐ)(z:Bool)(l:List (Nat×Ct))(I:Ϙ)(B:Lk L W)(b:Ms (L.G l I) L.t)(s:Src W.K W.mg (L.S.fA i) st ps)(u:(Km N ps (aT st)&&b.ck (L.S.at N (aT st) J) (bZ st))=J)(H:All L W (k+1) l)(a:BJ L W k I)(c:∀ds h Q x,C ds h Q x->ds.length=ps.length/\b.m (eA z h.length Q x) (jN N.length ds) h):Dt L W i (k+2) C:=B.d N ps z b s (oP (ah u).1) (ah u).2 (BI.of H.at) a c
def Lk.e0{st:Stmt}(n:Nat)(z:Bool)(l:List (Nat×Ct))(I:Ϙ)(B:Lk L W)(b:Ms (L.G l I) L.t)(s:Src W.K W.mg (L.S.fA i) st ps)(u:(aa6 (Jd (aT st)).length n&&(Km (Jd (aT st)) ps (aT st)&&b.ck (L.S.at (Jd (aT st)) (aT st) J) (bZ st)))=J)(H:All L W (k+1) l)(a:BJ L W k I)(c:∀ds h Q x,C ds h Q x->ds.length=ps.length/\b.m (eA z h.length Q x) (jN n ds) h):Dt L W i (k+2) C:=by have h:=ax (ah u).1;subst h;exact B.eN0 _ z l I b s (ah u).2 H a c
def Lk.agy{st:Stmt}(N ps:ϐ)(z:Bool)(l:List (Nat×Ct))(i:Ϙ)(B:Lk L W)(b:Ms (L.G l i) L.t)(s:qF W.K (L.ca c) q st ps)(H:W.mg (L.S.zI c)=O (.ref (L.ca c)))(u:(!Nat.ble 100 c&&(Km N ps (aT st)&&b.ck (L.S.at N (aT st) a') (bZ st)))=J)(f:All L W (k+1) l)(a:BJ L W k i)(C:∀ds h Q x,L.pd c ds h Q x->ds.length=ps.length/\b.m (eA z h.length Q λ_ _=>False) (jN N.length ds) h):Di L W c (k+2):=B.mk1 N ps z b s H (oP (ah (ah u).2).1) (eF (ah u).1) (ah (ah u).2).2 (BI.of f.at) a C
def Lk.agW{st:Stmt}(n:Nat)(z:Bool)(l:List (Nat×Ct))(i:Ϙ)(B:Lk L W)(b:Ms (L.G l i) L.t)(s:qG W.K (L.ca (c/100-1)) (L.S.zI c) q st ps)(u:(aa4 100 c&&(aa6 (Jd (aT st)).length n&&(Km (Jd (aT st)) ps (aT st)&&b.ck (L.S.at (Jd (aT st)) (aT st) J) (bZ st))))=J)(H:All L W (k+1) l)(a:BJ L W k i)(C:∀ds h Q x,L.pd c ds h Q x->ds.length=ps.length/\b.m (eA z h.length Q x) (jN n ds) h):Di L W c (k+2):=by have e:=ax (ah (ah u).2).1;subst e;exact B.agX _ ps z b s (oP (ah (ah (ah u).2).2).1) (ah u).1 (ah (ah (ah u).2).2).2 (BI.of H.at) a C
end F
namespace F
open L2
def MT(C:Ct)(A:Sm):Sm:=λx σ h Q=>A x σ h λds H=>C ds H (λd a=>Q [d] a) x
abbrev Pw:=Hs->List Dv->Prop
abbrev Ig:=XP->Es->Hs->(Pw->Hs->Prop)->Prop
def JG(Y:T0)(G M:List Addr)(H:Hp)(j:It)(P:Pw):Prop:=∀g m h c X,(∀b∈g,b∈G\/H b=af)->Ext M H m h->bh (Y.z g) m h c->P c X->(∀(i:Nat)x,X[i]?=O x->j.go i h/\∀v a,j.yld i h v a->Ext m h m a/\bh (Y.z g) m a c/\cL (Y.z g) m a x v)/\j.stop X.length h
structure KnG(Y:T0)(G:List Addr)(E:XK)(τ:tSt)(H:Hp)(R:It->Hp->Prop)(M:List Addr)(σ:Es)(h:Hs)(xc:XP)(Q:Pw->Hs->Prop):Prop where
 rel:bh (Y.z G) M H h
 env:cV (Y.z G) M H σ τ
 out:∀P h' M' H' a,Ext M H M' H'->bh (Y.z G) M' H' h'->JG Y G M' H' a P->Q P h'->R a H'
 exc:∀C h' M' H',Ext M H M' H'->bh (Y.z G) M' H' h'->xc C h'->E (.ref (Y.t.ca C)) af H'
inductive Ep(Y:T0)(E:XK)(m:Ig)(τ:tSt)(H:Hp)(R:It->Hp->Prop):Prop|mk(G M:List Addr)(σ:Es)(h:Hs)(xc:XP)(Q:_)(k:KnG Y G E τ H R M σ h xc Q)(q:m xc σ h Q):Ep Y E m τ H R
@[irreducible]def Pq(j:Nat)(P:Pw)(b:Ss)(N:En)(σ:Es)(h:Hs):Prop:=∃(X:List Dv)(W:Nat->Es->Hs->Prop),W 0 σ h/\(∀i a H,W i a H->P H X)/\(∀(i:Nat)x a H,X[i]?=O x->W i a H->b (N.lp (W (i+1)) N.nx) (a.set j (O x)) H)/\∀a H,W X.length a H->N.nx a H
def UK(j:Nat)(I:Ig)(b:Ss):Ss:=λN σ h=>I N.xc σ h λP H=>Pq j P b N σ H
def Gp(T:Sm)(b:Ss):Ss:=λN σ h=>∃W:Nat->Es->Hs->Prop,(∃m,W m σ h)/\∀m a H,W m a H->T N.xc a H λx e=>match x with|[.p (.bl c)]=>br c (b (N.lp (λd f=>∃M,M<m/\W M d f) N.nx) a e) (N.nx a e)|_=>False
def ζ(z:Bool)(acc:List Dv)(h:Hs)(Q:KP):Prop:=match z with
 |true=>match vK acc with|some x=>Q [.p (.lst x)] h|none=>False
 |false=>Q [.r h.length] (h++[.du acc])
@[irreducible]def OS(c:Hs)(P:Pw)(e:Dv->Es)(T A:Es->Hs->KP->Prop)(z:Bool)(Q:KP):Prop:=∃(x:List Dv)(W:Nat->List Dv->Hs->Prop),gU x.length=J/\W 0 [] c/\(∀i a h,W i a h->P h x)/\(∀(i:Nat)y a h,x[i]?=O y->W i a h->T (e y) h λbs H=>match bs with|[.p (.bl b)]=>br b (A (e y) H λY d=>match Y with|[y]=>W (i+1) (a++[y]) d|_=>False) (W (i+1) a H)|_=>False)/\∀a h,W x.length a h->ζ z a h Q
def Eb(n:Nat)(s:Ϙ)(j:Nat)(I:Ig)(T A:Sm)(z x:Bool):Sm:=λX σ h Q=>I X σ h λP H=>OS H P (λy=>(gC n s σ).set j (O y)) (T λc h=>x=J/\X c h) (A λc h=>x=J/\X c h) z Q
section
variable{t:Tb}{X:Cx}{E:XK}{st:Stmt}{A T:Sm}{I:Ig}{b:Ss}{C:Ct}{Y:T0}{G M:List Addr}{H:Hp}{h:Hs}
def II(h:cA (yx t X) E (MT C A) τ H l):gB (yx t X) E A τ H λvs n=>iK (yx t X) C vs n l E:=by have(G,M,σ,s,x,Q,k,q):=h;exact(G,M,σ,s,x,_,(k.rel,k.env,λd o p z v e R i u=>(G,p,o,d,_,x,R,i,u,λD a m f w g r y j=>k.out D a m f w (e.trans g) r y j,λc a m f g r j=>k.exc c a m f (e.trans g) r j),k.exc),q)
def IR(I:Im):Ig:=λx σ h Q=>I x σ h λy a=>Q (λ_ s=>s=y.map .p) a
def Te.jg(j:Te Y G M H c ys):JG Y G M H c λ_ xs=>xs=ys.map .p:=λl m n o xs q e r p=>by subst p;have(a,b):=j l m n o q e r;refine(λi x d=>?_,by rw[ae];exact b);rw[bN]at d;cases f:ys[i]? with|none=>rw[f]at d;cases d|some y=>rw[f]at d;cases d;have(g,k):=a i y f;exact(g,λv s u=>k v s u)
def aaS{I:Im}(h:Ep (yx t X) E (IR I) τ H R):zr (yx t X) E I τ H R:=by have(G,M,σ,h,x,Q,k,q):=h;exact(G,M,σ,h,x,_,(k.rel,k.env,λs c m d a e r j _ q=>k.out _ c m d a e r j.jg q,k.exc),q)
def nG(l:Nat):Pw:=λh x=>mM h (.r l)=O x
def P5(A:Sm):Ig:=λx σ h Q=>A x σ h λds a=>match ds with|[.r l]=>gd (mM a (.r l)).isSome (Q (nG l) a)|_=>False
def aa2(j:M[l]?=O a):JG Y G M H (j0 Y.K a) (nG l):=λu m z B D F e r p=>by have c:m[l]?=O a:=e.at j;have(n,L,s,k,d,N,s1,f):=tG (Y:=Y) (x:=.r l) (v:=.ref a) r (a,c,rfl) p;cases k;rw[c]at d;cases d;refine(λi x o=>?_,(s,.inl (.inl s1),by rw[f.len];exact ay _));have(v,g,q):=f.get o;refine((s,v,.inl (.inl s1),g),λw P (d,y)=>?_);subst d;have hw:=y s (.inl (.inl s1));rw[g]at hw;cases hw;exact(Ext.refl,r,q)
def RA(j:PE X e (cA (yx t X) E A)):PI X tg e (Ep (yx t X) E (P5 A)):=(Mo j).imp λτ H R (G,M,σ,h,x,Q,k,q)=>by refine(G,M,σ,h,x,_,(k.rel,k.env,λd g m o v s i u f=>?_,k.exc),q);cases d with|p _=>exact f.elim|r l=>have(c,f):=bq (show gd (mM g (.r l)).isSome _ from f);have(B,ex):=cq.mp c;have(n,a,w,e0,y,z,s1,D):=tG i u ex;cases e0;exact(a,z,.inl ((w,jd.of s1),k.out (nG l) g m o _ s i (aa2 (Y:=yx t X) y) f))
def Py(h:eI (yx t X) E (UK j I b) D τ H):Sd (Ep (yx t X) E I) (mG j) (eI (yx t X) E b) D τ H:=by
 have(G,M,σ,h0,N,k,q):=h;refine(G,M,σ,h0,N.xc,_,(k.rel,k.env,λP h1 S H1 a F r1 jo q=>?_,k.exc),q);unfold Pq at q;have(x,W,w0,hP,K,fin):=q;refine(λi m r B=>m=x.length-i/\i<=x.length/\∃e c h',Ext S H1 e B/\bh ((yx t X).z G) e B h'/\cV ((yx t X).z G) e B c r/\W i c h',(_,rfl,bA _,S,σ,h1,Ext.refl,r1,k.env.ext k.rel F,w0),?_);rintro i _ r B ⟨rfl,hi,e,c,h',e2,r2,v2,w⟩;have(ja,jb):=jo G e B h' x (λ_ z=>.inl z) e2 r2 (hP _ _ _ w);by_cases nB:i<x.length;.have(g,y):=ja i x[i] (aN nB);refine .inr (g,λL U=>∃s,s<x.length-i/\s=x.length-(i+1)/\i+1<=x.length/\∃e c h',Ext S H1 e U/\bh ((yx t X).z G) e U h'/\cV ((yx t X).z G) e U c L/\W (i+1) c h',λL U (s,hm,z)=>(s,hm,z),λv mj yl=>?_);have(e3,r3,ip):=y v mj yl;have q:=K i x[i] c h' (aN nB) w;have Z:=e2.trans e3;have nx:∀f p n l o,Ext e mj n l->bh ((yx t X).z G) n l p->cV ((yx t X).z G) n l f o->W (i+1) f p->∃s,s<x.length-i/\s=x.length-(i+1)/\i+1<=x.length/\∃e c h',Ext S H1 e l/\bh ((yx t X).z G) e l h'/\cV ((yx t X).z G) e l c o/\W (i+1) c h':=λf p n l o u R v5 Q=>(_,by lia,rfl,by lia,n,f,p,Z.trans u,R,v5,Q);exact(G,e,_,h',N.lp (W (i+1)) N.nx,(r3,(v2.ext r2 e3).set ip,nx,λd p n l v u R i5 Q=>k.rt d p n l v (F.trans (Z.trans u)) R i5 Q,λf p n l o u R v5 Q=>k.nx f p n l o (F.trans (Z.trans u)) R v5 Q,nx,λC p n l u R Q=>k.exc C p n l (F.trans (Z.trans u)) R Q),q)
 .have hx:i=x.length:=by lia
  subst hx;exact .inl (jb,k.nx c h' e B r (F.trans e2) r2 v2 (fin c h' w))
def xu(h:eI (yx t X) E (Gp T b) D τ H):Nn (jm (yx t X) E T) (eI (yx t X) E b) D τ H:=by
 obtain⟨G,M,σ,h0,N,k,W,⟨m0,w0⟩,s⟩:=h;refine(λm o B=>∃e a h',Ext M H e B/\bh ((yx t X).z G) e B h'/\cV ((yx t X).z G) e B a o/\W m a h',(m0,M,σ,h0,Ext.refl,k.rel,k.env,w0),?_);rintro m o B ⟨e,a,h',e2,S,U,w⟩;refine(G,e,a,h',N.xc,_,(S,U,λd F u K Z r1 L=>?_,λC F u K x r q=>k.exc C F u K (e2.trans x) r q),s m a h' w);split at L;.rename_i c hc;injection hc with hc;refine(c,hc,?_);have e3:=e2.trans Z;cases c with|true=>rw[bI rfl];refine(λy P=>∃f,f<m/\∃e a h',Ext M H e P/\bh ((yx t X).z G) e P h'/\cV ((yx t X).z G) e P a y/\W f a h',λy P z=>z,?_);have nx:∀g n j i l,Ext u K j i->bh ((yx t X).z G) j i n->cV ((yx t X).z G) j i g l->(∃f,f<m/\W f g n)->∃f,f<m/\∃e a h',Ext M H e i/\bh ((yx t X).z G) e i h'/\cV ((yx t X).z G) e i a l/\W f a h':=λg n j i l p R v5 (f,hm,q6)=>(f,hm,j,g,n,e3.trans p,R,v5,q6);exact(G,u,a,F,N.lp (λσ2 h2=>∃f,f<m/\W f σ2 h2) N.nx,(r1,U.ext S Z,nx,λd n j i v p R i5 Q=>k.rt d n j i v (e3.trans p) R i5 Q,λg n j i l p R v5 Q=>k.nx g n j i l (e3.trans p) R v5 Q,nx,λC n j i p R Q=>k.exc C n j i (e3.trans p) R Q),L)|false=>rw[bL aL];exact k.nx a F u K o e3 r1 (U.ext S Z) L
 .exact L.elim
end
section
variable{Y:T0}{G M:List Addr}{H:Hp}{a:Addr}{h:Hs}
def yk:∀b,b∈M++[a]\/b∈G->b∈M\/b∈a::G\/H b=none:=λb c=>c.elim (λz=>(bf.mp z).elim .inl λz=>.inr (.inl (aV.mp z▸au))) λz=>.inr (.inl (ao _ z))
def cL.fin(q:cL (Y.z (a::G)) M H d v):cL (Y.z G) (M++[a]) H d v:=by cases d with|p x=>exact bT.fr yk q|r i=>have(b,c,e):=q;exact(b,by rw[aZ (ak.mp c).1];exact c,e)
theorem bY.fin:∀{ds:List Dv}{vs:ϕ},bY (Y.z (a::G)) M H ds vs->bY (Y.z G) (M++[a]) H ds vs|[],[],_=>trivial|[],_::_,q=>q|_::_,[],q=>q|_::_,_::_,q=>(q.1.fin,bY.fin q.2)
theorem vF.fin(z:vF (Y.z (a::G)) M H b o):vF (Y.z G) (M++[a]) H b o:=by cases o with|lst x=>have(v,e,q):=z;exact(v,e,aR.fr yk q)|du x=>have(v,e,q):=z;exact(v,e,q.fin)|dct k u=>have(B,e,q,Q):=z;exact(B,e,aR.fr yk q,aR.fr yk Q)|ins C fs=>have(d,f,e,n,l,q):=z;exact(d,f,e,n,l,q.fin)
theorem bh.fin{ys:ϕ}(r:bh (Y.z (a::G)) M H h)(n:a∉G)(l:H a=O (.lst ys))(i:bY (Y.z (a::G)) M H ds ys):bh (Y.z G) (M++[a]) H (h++[.du ds]):=by
 have N:a∉M:=λz=>r.dj a z au;refine(de.mpr (r.nd,by simp,λx e y m z=>?_),λx e=>(bf.mp e).elim (λz y=>r.dj x z (ao _ y)) λz=>by rw[aV.mp z];exact n,by rw[aa,aa,r.ln];rfl,λb p=>r.gs b (ao _ p),λj b o c d=>?_);.rw[aV.mp m]at z;subst z;exact N e
 .by_cases f:j<M.length;.rw[aZ f]at c;rw[aZ (by rw[<-r.ln];exact f)]at d;exact(r.ob j b o c d).fin
  .rw[aM (by lia)]at c;rw[aM (by rw[<-r.ln];lia),<-r.ln]at d;cases g:j-M.length with|zero=>rw[g]at c d;cases c;cases d;exact(ys,l,i.fin)|succ k=>rw[g]at c;cases c
end
section
variable{t:Tb}{X:Cx}{E:XK}{A T:Sm}{I:Ig}
def Af(hE:∀c H,x=J->E (.ref c) af H->E1 (.ref c) af H)(hj:j<n)(h:cA (yx t X) E (Eb n F j I T A z x) τ H QV):vn (Ep (yx t X) E I) (mG j) (jm (yx t X) E1 T) (cA (yx t X) E1 A) (pJ n F) τ H QV:=by
 have(G,M,σ,h0,xc,Q,k,q):=h;refine(G,M,σ,h0,xc,_,(k.rel,k.env,λP h1 M1 H1 a e1 r1 jo q=>?_,k.exc),q);unfold OS at q;have(s,W,hz,w0,hP,turn,fin):=q;have hz:=dy hz;intro e U;have(naM,naG):=r1.oO U;have ea:Ext M1 H1 M1 (dv H1 e (.lst [])):=Ext.add U;have v1:=k.env.ext k.rel e1;let Z:Tx:=(yx t X).z (e::G);have TV:e∈e::G:=au;refine(λi m K ys L=>m=s.length-i/\i<=s.length/\L e=O (.lst ys)/\ys.length<=i/\∃B ds u,Ext M1 H1 B L/\bh Z B L u/\cV Z B L (gC n F σ) K/\bY Z B L ds ys/\W i ds u,(_,rfl,bA _,bQ,bA _,M1,[],h1,ea,r1.V_ U,(Ab v1 n F).V_ U r1,trivial,w0),?_);rintro i _ K ys L ⟨rfl,hi,ha,hly,B,ds,u,N,R,v2,p2,w⟩;refine(ha,?_);have(ja,jb):=jo (e::G) B L u s (yD U) N R (hP _ _ _ w);have nM:∀{M5 S h5},bh Z M5 S h5->e∉M5:=λr5 z=>r5.dj e z TV;by_cases nB:i<s.length
 .have(g,y):=ja i s[i] (aN nB);refine .inr (g,by lia,λv mj yl=>?_);have(e3,Y,ip):=y v mj yl;have q:=turn i s[i] ds u (aN nB) w;have v4:cV Z B mj ((gC n F σ).set j (O s[i])) (K.set j (O v)):=(v2.ext R e3).set ip;show jm (yx t X) E1 T (K.set j (O v)) mj _;have gl:((gC n F σ).set j (O s[i])).length=(gC n F σ).length:=a6;have gg:∀i',n<=i'->((gC n F σ).set j (O s[i]))[i']?=(gC n F σ)[i']?:=λi' hi'=>aB (by lia);have ka:∀{M5 S},Ext B mj M5 S->S e=O (.lst ys):=λD=>D.keep e _ (nM Y) (e3.keep e _ (nM R) ha);have p3:=p2.ext R e3;have ex:∀{M5 S},Ext B mj M5 S->∀C wa Oi Jw,Ext M5 S Oi Jw->bh Z Oi Jw wa->x/\xc C wa->E1 (.ref (t.ca C)) af Jw:=λD C wa Oi Jw x' r q=>hE _ _ q.1 (k.exc C wa Oi Jw ((e1.trans (N.trans e3)).trans (D.trans x')) r.dun q.2);refine(e::G,B,_,u,_,_,(Y,v4,λd h5 M5 S D r5 q5=>?_,ex Ext.refl),q);split at q5;.rename_i b hb;injection hb with hb;refine(b,hb,?_);cases b with|true=>rw[bI rfl];refine(e::G,M5,_,h5,_,_,(r5,v4.ext Y D,λd6 h6 M6 H6 v6 e6 r6 i6 q6=>?_,ex D),q5);have Pb:=D.trans e6;have Qx:=ka Pb;refine(Qx,s.length-(i+1),by lia,rfl,by lia,bQ,by rw[aa];simp;lia,M6,ds++[d6],h6,?_,r6.chg rfl TV Qx (nM r6),(qL gl gg (v4.ext Y Pb)).chg rfl TV Qx,((p3.ext Y Pb).app (bY.one i6)).chg rfl TV Qx,q6);have Pa:=(N.trans e3).trans Pb;exact(Pa.pre,λb o hb ho=>by rw[bJ (bV ho U)];exact Pa.keep b o hb ho,Pa.new)|false=>rw[bL aL];exact(s.length-(i+1),by lia,rfl,by lia,ka D,by lia,M5,ds,h5,(N.trans e3).trans D,r5,qL gl gg (v4.ext Y D),p3.ext Y D,q5)
  .exact q5.elim
 .have hx:i=s.length:=by lia
  subst hx;refine .inl (jb,?_);have f:=fin ds u w
  cases z with|true=>
   change match vK ds with|some s=>Q [.p (.lst s)] u|none=>False at f;split at f;.rename_i ps ep;refine k.out _ u B L (.ref e) (e1.trans N) R.dun ?_ f;unfold cL bT;exact(e,ys,rfl,(nM R,naG),ha,aR.wk CZ (qY ep p2))
   .exact f.elim|false=>
   have f:Q [.r u.length] (u++[Ob.du ds]):=f;refine k.out (.r u.length) (u++[Ob.du ds]) (B++[e]) L (.ref e) (e1.trans (?_,N.keep,λb hb hn=>?_)) (R.fin naG ha p2) (e,?_,rfl) f;.have(l,hl):=N.pre;exact(l++[e],by rw[hl,aD])
   .rcases bf.mp hb with z|z;.exact N.new b z hn
    .rw[aV.mp z];exact U
   .rw[<-R.ln,aM (ay _),dD];rfl
end
def zK(c:Nat)(C:Ct)(i:Nat)(h:Hs)(x:XP)(Q:Dv->Hs->Prop):Prop:=match h[i]? with|some (.ins a _)=>gd (aa6 a c) (C [.r i] h Q x)|_=>False
def IY(c:Nat)(C:Ct)(A:Sm):Sm:=λx σ h Q=>A x σ h λX H=>match X with|[.r i]=>zK c C i H x λd a=>Q [d] a|_=>False
def j'(c:Nat)(C:Ct)(A:Sm):Sm:=λx σ h Q=>A x σ h λds H=>C (.r H.length::ds) (H++[.ins c []]) (λd a=>gd (C8 d) (Q [.r H.length] a)) λ_ _=>False
def lV(c j:Nat)(n:Int)(i:Nat)(h:Hs)(K:Hs->Prop):Prop:=match h[i]? with|some (.ins C fs)=>gd (aa6 C c&&aa4 (fs.length+1) 1000) (match fs[j]? with|some (.p (.int k))=>K (h.set i (.ins c (fs.set j (.p (.int (k+n))))))|_=>False)|_=>False
def UJ(c j:Nat)(n:Int)(B:Sm):Ss:=λN σ h=>B N.xc σ h λx H=>match x with|[.r i]=>lV c j n i H λa=>N.nx σ a|_=>False
section
variable{t:Tb}{X:Cx}{E:XK}{a:Expr}{b':List Expr}{A B:Sm}{pos p ci dH:Pos}{Y:T0}{G M:List Addr}{H:Hp}{h:Hs}
theorem xf:∀{fv:List (Str×V)},f∉fv.map (·.1)->fv.lookup f=af|[],_=>rfl|(g,w)::fv,h=>by rw[aH,aK,not_or]at h;rw[fD,show(f==g)=a' from b3.mpr h.1];exact xf h.2
def ab4(D:vS X.prog X.w X.K X.mg X.base (o8 X.prog X.w) k0 (t.ca c) m ps (iK (yx t X) C))(L:PE X (.Name n p) (cA (yx t X) E A))(N:tS X.K t c)(P:m∉t.fl c)(S:dR k0 X.A)(T:dZ (o8 X.prog X.w) X E)(U:(ci.endLine==dH.line)):PE X (.Call (.Attribute (.Name n p) m ci) [] [] dH) (cA (yx t X) E (IY c C A)):=(L8 D L N.cl S T U).imp λτ H QV (G,M,σ,h,x,Q,k,q)=>by refine(G,M,σ,h,x,_,(k.rel,k.env,λd f W H1 v s u Z b=>?_,k.exc),q);cases d with|p _=>exact b.elim|r i=>
  change match f[i]? with|some (.ins y _)=>gd (aa6 y c) (C [.r i] f (λd e=>Q [d] e) x)|_=>False at b;split at b;.rename_i y fs ho;have(ec,q9):=bq b;clear b;obtain rfl:=ax ec;have(a,F,rfl):=Z;have(dx,fv,s1,_,l1,I):=u.at' F ho;refine(a,dx,fv,rfl,s1,xf λz=>P (by rw[l1]at z;exact kW z),?_);exact(G,W,f,[.r i],_,x,u,((a,F,rfl),trivial),q9,λd2 e g j w l R I o=>k.out d2 e g j w (s.trans l) R I o,λc e g j l R o=>k.exc c e g j (s.trans l) R o)
  .exact b.elim
def Um{Q:KP}{j:VK}(r:bh (Y.z G) M H h)(i:bY (Y.z G) M H d vs)(q:C (.r h.length::d) (h++[.ins c []]) (λd e=>gd (C8 d) (Q [.r h.length] e)) λ_ _=>False)(out:∀d h' M' H' v,Ext M H M' H'->bh (Y.z G) M' H' h'->cL (Y.z G) M' H' d v->Q [d] h'->j v H')(K:H x=af)(N:H D=af)(k:D≠x):iK Y C (.ref x::(vs++[])) (dv (dv H D (.own x)) x (.ins (Y.t.ca c) D [])) (λv f=>v=.non/\j (.ref x) f) E0:=by
 have n:dv H D (.own x) x=none:=by rw[bJ (bX k)];exact K
 have R:bh (Y.z G) M (dv H D (.own x)) h:=r.add N;have l:Ext M H (M++[x]) (dv (dv H D (.own x)) x (.ins (Y.t.ca c) D [])):=(Ext.add N).trans (Ext.push R n);have r2:=bh.push (o:=.ins c []) (u:=.ins (Y.t.ca c) D []) R n (D,[],bQ,by rw[bJ k];exact bQ,rfl,trivial);have m:(M++[x])[h.length]?=O x:=by rw[<-r.ln,aM (ay _),dD];rfl
 rw[aI];refine(G,M++[x],h++[.ins c []],.r h.length::d,_,λ_ _=>False,r2,((x,m,rfl),i.ext r l),q,λs e y f w g F L b=>?_,λc e y f g F b=>b.elim);have(I,b):=bq b;have dn:s=.p .non:=by cases s with|r _=>cases I|p d=>cases d<;>first|rfl|cases I
 subst dn;exact(Js L,out (.r h.length) e y f (.ref x) (l.trans g) F (x,g.at m,rfl) b)
def WN(D:sv X.prog X.w X.K X.mg X.base k0 x (t.ca c) ps (iK (yx t X) ct))(r:dR (k0+1) X.A)(g:Gl X x)(b:PA X (a::b') (gB (yx t X) E A))(j:(x==("__debug__":Str))=a')(e:(a::b').all b4):PE X (.Call (.Name x p) (a::b') [] pos) (cA (yx t X) E (j' c ct A)):=(A4 D r g b j e).imp λτ H P (G,M,σ,h,f,Q,k,q)=>by refine(G,M,σ,h,f,_,(k.rel,k.env,λd S T U v i R I l=>?_,k.exc),q);exact λx W n N m=>Um (Y:=yx t X) R I l (λo s u y w z C F L=>k.out o s u y w (i.trans z) C F L) n N m
def Yt(D:sv X.prog X.w X.K X.mg X.base k0 x (t.ca c) ps (iK (yx t X) ct))(r:dR (k0+1) X.A)(g:Gl X x)(j:(x==("__debug__":Str))=a'):PE X (.Call (.Name x p) [] [] pos) (cA (yx t X) E (j' c ct Ec)):=(Ie D r g j).imp λτ H e (G,M,σ,h,f,Q,k,q)=>λx i n N b=>Um (Y:=yx t X) (d:=[]) (vs:=[]) k.rel trivial q k.out n N b
def Pk(b:tS X.K t c)(l:(t.fl c)[j]?=O f)(h:eI (yx t X) E (UJ c j n B) D τ H):Gi X.K (cA (yx t X) E B) (tC (.int n)) x0 f D τ H:=by have(G,M,σ,h,N,k,q):=h;refine(G,M,σ,h,N.xc,_,(k.rel,k.env,λd P M1 H1 v S R U Q=>?_,k.exc),q);cases d with|p _=>exact Q.elim|r i=>
  change match P[i]? with|some (.ins C fs)=>gd (aa6 C c&&aa4 (fs.length+1) 1000) (match fs[j]? with|some (.p (.int k))=>N.nx σ (P.set i (.ins c (fs.set j (.p (.int (k+n))))))|_=>False)|_=>False at Q;split at Q
  .rename_i C fs W;have(m,Q):=bq Q;have(m,Z):=ah m;obtain rfl:=ax m;have hl:=bj Z;split at Q
   .rename_i e T;have(a,s,rfl):=U;have u:a∈M1:=a7 s;have(g,F,s1,s2,l1,I):=R.at' s W;have(w,g1,g2):=I.get T;have L:fs.length=F.length:=by have:=I.len;rw[ae]at this;exact this
    rw[L]at l1;have e_:j<F.length:=by rw[<-L];exact(ak.mp T).1
    have y:g≠a:=λz=>by rw[z,s1]at s2;cases s2
    refine(a,_,g,F,w,rfl,s1,b.cl,b.na f (a7 l),nK b.nd l1 l g1,e,n,d9 g2,rfl,g,F,s1,by lia,?_);have(p1,p2,p3):=za (v:=.int (e+n)) b.nd l1 l e_;refine k.nx σ _ M1 _ τ (S.trans (Ext.put u)) (R.put (o:=.ins C (fs.set j (.p (.int (e+n))))) s (g,_,bQ,by rw[bJ y];exact s2,?_,?_)) (k.env.ext k.rel (S.trans (Ext.put u))) Q;.rw[p1,l1,a6,L]
    .rw[p2];exact(I.set (x:=.p (.int (e+n))) eM j).ext R (Ext.put u)
   .exact Q.elim
  .exact Q.elim
end
end F
namespace L2
end L2
namespace F
open L2
def AQ(h:Hs)(d:Dv):Option (List Dv):=match iH h d with|some x=>O (x.map .p)|none=>mM h d
def kM:OM:=λx ds h Q=>match ds with
 |[]=>match x with
  |.r i=>match h[i]? with|some (.lst X)=>ie X[X.length-1]? (λy=>Q (.p y) (h.set i (.lst X.dropLast))) False|some (.du X)=>ie X[X.length-1]? (λy=>Q y (h.set i (.du X.dropLast))) False|_=>False
  |_=>False
 |_=>False
def XR:OM:=λx ds h Q=>match x,ds with|.p (.str z),[.p (.str y)]=>Q (.p (.bl (ac9 z y))) h|_,_=>False
def XQ:OM:=λx ds h Q=>match x,ds with|.p (.str z),[.p (.str y)]=>gd (!Nat.beq y.length 0&&(gU z.length&&(gU (ad5 z (ab9 z y 0 z.length (z.length+1)) y.length).length&&gU (ac5 z y).length))) (Q (.p (.lst ((ac5 z y).map .str))) h)|_,_=>False
def XM:OM:=λx ds h Q=>match x,ds with
 |.p (.str z),[d]=>match iH h d with|some X=>ie (kg X) (λy=>gd (aa4 ((y.map (·.length)).sum+y.length*z.length) 16777216) (Q (.p (.str (ae2 z y))) h)) False|none=>False
 |_,_=>False
def LF:ON:=λds h Q=>match ds with|[.p (.str z)]=>ie (aa7 z) (λn=>gd (aa4 z.length 640) (Q (.p (.int n)) h)) False|_=>False
def jV:O2:=λx y h Q=>match AQ h x,AQ h y with|some X,O Y=>gd (gU (X.length+Y.length)) (Q (.r h.length) (h++[.du (X++Y)]))|_,_=>False
section
variable{Y:T0}{G M:List Addr}{H:Hp}{h:Hs}
theorem aR.ds:∀{xs:ϑ}{vs:ϕ},aR Z M H xs vs->bY Z M H (xs.map .p) vs|[],[],_=>trivial|[],_::_,q=>by unfold aR at q;exact q.elim|_::_,[],q=>by unfold aR at q;exact q.elim|_::_,_::_,q=>by unfold aR at q;exact(q.1,aR.ds q.2)
def FA(r:bh (Y.z G) M H h)(i:cL (Y.z G) M H x v)(e:AQ h x=O xs):∃a vs,v=.ref a/\H a=O (.lst vs)/\bY (Y.z G) M H xs vs:=by
 unfold AQ at e;split at e;.rename_i s y;cases e;have(a,vs,E,s1,I):=fN r i y;exact(a,vs,E,s1,I.ds)
 .have(_,a,vs,_,_,E,s1,I):=tG r i e;exact(a,vs,E,s1,I)
theorem aR.Aw:∀{xs:ϑ}{vs:ϕ},aR Z M H xs vs->aR Z M H xs.dropLast vs.dropLast|[],[],q=>q|[],_::_,q=>by unfold aR at q;exact q.elim|_::_,[],q=>by unfold aR at q;exact q.elim|[_],[_],_=>by unfold aR;trivial|[_],_::_::_,q=>by unfold aR at q;have:=q.2;unfold aR at this;exact this.elim|_::_::_,[_],q=>by unfold aR at q;have:=q.2;unfold aR at this;exact this.elim|_::_::_,_::_::_,q=>by unfold aR at q;rw[Go,Go];unfold aR;exact(q.1,aR.Aw q.2)
theorem bY.Aw:∀{xs:List Dv}{vs:ϕ},bY Z M H xs vs->bY Z M H xs.dropLast vs.dropLast|[],[],q=>q|[],_::_,q=>q.elim|_::_,[],q=>q.elim|[_],[_],_=>trivial|[_],_::_::_,q=>q.2.elim|_::_::_,[_],q=>q.2.elim|_::_::_,_::_::_,q=>(q.1,bY.Aw q.2)
def Ql:zS Y w4 kM:=λG M h H x X v k Q u r i m q out=>by
 unfold kM ie at q;split at q
 .have t:k=[]:=by cases k with|nil=>rfl|cons _ _=>exact m.elim
  subst t;split at q
  .rename_i n;have(a,d,l):=i;have c:a∈M:=a7 d;split at q
   .rename_i s e;split at q;.rename_i y E;have(ws,f,b):=r.at' d e;have(w,g,j):=b.get E;refine(a,ws,w,l,rfl,f,by rw[<-b.len];exact g,?_);exact out (.p y) _ M _ w (Ext.put c) (r.put (o:=.lst s.dropLast) d (_,bQ,b.Aw.ext r (Ext.put c))) (j.ext r (Ext.put c)) q
    .exact q.elim
   .rename_i s e;split at q;.rename_i y E;have(ws,f,b):=r.at' d e;have(w,g,j):=b.get E;refine(a,ws,w,l,rfl,f,by rw[<-b.len];exact g,?_);exact out y _ M _ w (Ext.put c) (r.put (o:=.du s.dropLast) d (_,bQ,b.Aw.ext r (Ext.put c))) (j.ext r (Ext.put c)) q
    .exact q.elim
   .exact q.elim
  .exact q.elim
 .exact q.elim
def Qn:zS Y (λx xs H Q=>∃(z y:Str),x=.str z/\xs=[.str y]/\Q (.bl (ac9 z y)) H) XR:=λG M h H x xs v s Q b r i a q out=>by
 unfold XR at q;split at q;.have(w,rfl,j):=a.lW;exact(_,_,eE i,by rw[eE j],out _ h M H _ Ext.refl r gO q)
 .exact q.elim
def Qm:zS Y (λx xs H Q=>∃(z y:Str),x=.str z/\xs=[.str y]/\(y.length==0)=a'/\z.length<=sizeLine/\(ad5 z (ab9 z y 0 z.length (z.length+1)) y.length).length<=sizeLine/\(ac5 z y).length<=sizeLine/\∀l,H l=af->Q (.ref l) (dv H l (.lst ((ac5 z y).map V.str)))) XQ:=λG M h H x xs v s Q g r i b q out=>by
 unfold XQ at q;split at q;.rename_i z y;have(w,rfl,j):=b.lW;have(c,q):=bq q;have(C,d,e,f):=iN c;have C:aa6 y.length 0=false:=eF C;exact(z,y,eE i,by rw[eE j],(b3.mpr λz=>by rw[z]at C;cases C),dy d,dy e,dy f,λl a=>out _ h M _ _ (Ext.add a) (r.add a) (kK r a (kL (Y:=Y))) q)
 .exact q.elim
def Qh:zS Y (λx xs H Q=>∃(z:Str)(l:Addr)(ys:ϐ),x=.str z/\xs=[.ref l]/\H l=O (.lst (ys.map V.str))/\(ys.map (·.length)).sum+ys.length*z.length<=16777216/\Q (.str (ae2 z ys)) H) XM:=λG M h H x xs v s Q d r i b q out=>by
 unfold XM ie at q;split at q
 .have(w,rfl,j):=b.lW;split at q
  .rename_i ys e;split at q;.rename_i ws E;have(c,q):=bq q;have(a,u,rfl,s1,I):=fN r j e;rw[GB E I]at s1;exact(_,a,ws,eE i,rfl,s1,bj c,out _ h M H _ Ext.refl r lE q)
   .exact q.elim
  .exact q.elim
 .exact q.elim
def KO:sy Y (λxs H Q=>∃(z:Str)(n:Int),xs=[.str z]/\aa7 z=O n/\z.length<=640/\Q (.int n) H) LF:=λG M h H xs s Q b r I q out=>by
 unfold LF ie at q;split at q
 .have(v,rfl,i):=I.lW;split at q;.rename_i n a;have(c,q):=bq q;exact(_,n,by rw[eE i],a,bj c,out _ h M H _ Ext.refl r eM q)
  .exact q.elim
 .exact q.elim
def KJ:iD Y RM jV:=λG M h H x y v u Q g r i j q out=>by
 unfold jV at q;split at q;.rename_i X s ex E;have(c,q):=bq q;have(a,f,rfl,s1,I):=FA r i ex;have(b,U,rfl,s2,e):=FA r j E;refine(a,b,f,U,rfl,rfl,s1,s2,by rw[<-I.len,<-e.len];exact dy c,λp d=>?_);refine out (.r h.length) _ (M++[p]) _ _ (Ext.push r d) (r.push (o:=.du (X++s)) d (_,bQ,(I.app e).ext r (Ext.push r d))) (p,?_,rfl) q;rw[<-r.ln,aM (ay _),dD];rfl
 .exact q.elim
end
def T_:Bo:=(jV,.Add,λ_ _=>(_,DF,KJ))
def Ξ:Bi:=(LF,"int",λ_ h H a n j d=>xm vX KO h H B7 a n j d)
def y8:Mt:=(0,XR,"startswith",λh H b p l n=>FY (c:=0) sg PySem.F.slot_str_startswith PySem.F.type_str_startswith wq Qn h H b p l n)
def QG:Mt:=(0,XQ,"split",λh H b p l n=>FY (c:=0) sg jI PySem.F.type_str_split Ll Qm h H b p l n)
def Le:Mt:=(0,XM,"join",λh H b p l n=>FY (c:=0) sg PySem.F.slot_str_join PySem.F.type_str_join QL Qh h H b p l n)
def Xy:M0:=(4,kM,"pop",λh H n=>Yr (c:=4) (id:="list.pop") (Yd ZO PySem.F.slot_list_pop PySem.F.type_list_pop Xz h H n) Ql)
structure Jg(Γ:Gm)(t:Tb)where
 m:Ig
 ck:Sx->Expr->Expr->Bool
 pi:∀{k S X E tx x},rq Γ t k S X E->ck S tx x->PI X tx x (Ep (yx t X) E m)
def MR(t:Str->Option ϐ)(fn:Nat->Ct)(o:Ϙ)(A R:Sm):Sm:=λx σ h Q=>A x σ h λX H=>match X with|[.p (.str z)]=>ie (t z) (λk=>gd (gH k.length o) (R x σ H λds a=>fn k.length ds a (λd b=>Q [d] b) x)) False|_=>False
def ag8(t:Str->Option ϐ):O1:=λx h Q=>match x with|.p (.str z)=>Q (.p (.bl (t z).isSome)) h|_=>False
def aht(b:Ss):Ss:=λN σ h=>∃W:Nat->Es->Hs->Prop,(∃m,W m σ h)/\∀m a H,W m a H->b (N.lp (λc d=>∃M,M<m/\W M c d) N.nx) a H
section
variable{Γ:Gm}{t:Tb}
def Jg.p(j:Jm Γ t):Jg Γ t:=(IR (we j.m),j.ck,λo h=>(j.pi o h).imp λ_ _ _=>aaS)
def Jg.l(A:Em Γ t):Jg Γ t:=(P5 A.m,λS _ x=>A.ck S x,λo h=>RA (A.pe o h))
def Mc{ad:Addr}(T:zU X.w X.K X.mg t.fA ad g)(D:∀i∈N,∃ps,oG X.prog X.w X.K X.mg X.base k (t.fA i) ps (iK (yx t X) (fn i)))(W:dR k X.A)(Y:dZ (o8 X.prog X.w) X E)(Z:Gl X n)(hm:X.mg n=O (.ref ad))(hd:(n==("__debug__":Str))=a')(he:PE X e (cA (yx t X) E A))(hs:nc e)(ha:PA X (a::b) (gB (yx t X) E R))(d7:(a::b).all b4):PE X (.Call (.Subscript (.Name n p) e q) (a::b) [] pos) (cA (yx t X) E (MR g fn N A R)):=(L0 (FX (Qv T) (nL (v:=.ref ad) Z hm rfl hd) he hs) W Y ha d7).imp λτ H QV (G,M,σ,h,x,Q,k,q)=>by refine(G,M,σ,h,x,_,(k.rel,k.env,λd h1 M1 H1 v m r1 i1 j=>?_,k.exc),q);cases d with|r _=>exact j.elim|p d=>cases d with|str z=>have j:ie (g z) _ False:=j;have(P,hk,o):=FQ j;have(c,l):=bq o;have(ps,f,fd,F,s,u,hb):=D P.length (b9.mp c);refine(rfl,z,P,eE i1,hk,λf' S=>?_);rw[s]at S;cases S;refine(f,fd,ps,_,rfl,F,u,hb,G,M1,σ,h1,x,_,(r1,k.env.ext k.rel m,λds h2 M2 H2 vs U r2 i2 o=>?_,k.Pf m),l);exact(G,M2,h2,ds,_,x,r2,i2,o,λd3 y B C w I L i3 l=>k.out d3 y B C w (m.trans (U.trans I)) L i3 l,λc y B C I L l=>k.exc c y B C (m.trans (U.trans I)) L l)|_=>exact j.elim
namespace Em
def wQ(i:Nat)(A:Am Γ t):Em Γ t:=(MT (Γ.fn i) A.m,λS x=>gH i Γ.oq&&Z6 S (S.fA i) A x,λ{k S X E x}o h=>by have(s,D):=o.fn i (b9.mp (ah h).1);rw[<-o.fA]at D;exact tZ o (ah h).2 λ_ _ _ _ H d n p P=>(yX D o.hr o.hp H p d P).imp λ_ _ _=>II)
def xh(c:Nat)(a:Em Γ t):Em Γ t:=(IY (c/100-1) (Γ.pd c) a.m,λS=>jY λg s K q=>aa4 100 c&&(gH c Γ.iF&&(gH (c/100-1) S.NW&&!jf (S.zI c) (S.fl (c/100-1))))&&(HH K&&(AJ s&&Bz (λb m p=>aS m (S.zI c)&&(p.endLine==q.line&&(a.ck S b&&r8 (λ_ _=>J) b))) g)),λ{k S X E x}o h=>by refine eR h λg s K q h=>?_;have(i,h):=ah h;have(d,e,f,H):=iN i;have(j,h):=ah h;have(l,h):=ah h;rw[iQ j,jz l];refine nS h λb m p h=>?_;have(r,u,v,y):=iN h;have(P,D):=o.pd c (b9.mp e);replace D:=WZ d D;have(C,A):=o.cls _ (b9.mp f);rw[aQ.mp r];have z:=a.pe o v;revert z;refine iL y λn B _ z=>?_;exact ab4 (D.mono (Nat.le_succ k)) z C (λw=>by rw[A]at w;rw[pU w]at H;cases H) o.hr o.hp u)
def nw(c:Nat)(A:Am Γ t):Em Γ t:=(j' c (Γ.pd c) A.m,λS x=>!Nat.ble 100 c&&gH c Γ.iF&&Z6 S (S.zI c) A x,λ{k S X E x}o h=>by have(s,D):=o.pd c (b9.mp (ah (ah h).1).2);replace D:=C0 (eF (ah (ah h).1).1) D;exact tZ o (ah h).2 λ_ _ _ _ H d n p P=>WN D o.hr H p d P)
def nw0(c:Nat):Em Γ t:=(j' c (Γ.pd c) Ec,λS=>jY λf s K _=>!Nat.ble 100 c&&gH c Γ.iF&&(HH K&&(AJ s&&C6 S (S.zI c) f)),λ{k S X E x}o h=>by refine eR h λf s K q h=>?_;have(H,h):=ah h;have(a,b,d):=dG h;have(P,D):=o.pd c (b9.mp (ah H).2);replace D:=C0 (eF (ah H).1) D;have(p,e,g,i,n):=gP o d;rw[iQ a,jz b,e];exact Yt D o.hr g i)
def clf(i:Nat)(A:Em Γ t)(R:Am Γ t):Em Γ t:=(MR (Γ.tab i) Γ.fn Γ.oq A.m R.m,λS=>jY λf s K _=>aa4 100 i&&gH i Γ.tok&&(HH K&&(!AJ s&&R.ck S s&&Ew (λa e _=>C6 S (S.Zk i) a&&(uQ e&&A.ck S e)) f)),λ{k S X E x}o h=>by refine eR h λf s K q h=>?_;have(d,h):=ah h;have(g,j,l):=dG h;have(H,c):=ah j;rw[iQ g];refine qo l λa e p h=>?_;have(n,r,u):=dG h;have(C,v,w,y,D):=gP o n;have(ad,z,T):=o.tab i (b9.mp (ah d).2);replace T:=Np (ah d).1 T;rw[v];cases s with|nil=>cases H|cons b s=>have(P,B):=R.pa o c;exact Mc T o.fn o.hr o.hp w z y (A.pe o u) (Dc r) P B)
def E4(n:Nat)(b:Ϙ)(j:Nat)(a:Jg Γ t)(F:Fm Γ t)(A:Em Γ t)(z:Bool):Em Γ t:=(Eb n b j a.m F.m A.m z a',λS x=>S.fr&&He S n b (.one j) a.ck F A.ck x,λo h=>pM o (ah h).2 λN T ix i e v p c d g k l q r u=>(uU (o.fx (ah h).1).1 (o.fx (ah h).1).2 c o.hc d (a.pi o g) (λf s H=>l (yV o _ _ f s H)) (λf s H=>F.pf (yV o _ _ f s H) q) (λf s H=>A.pe (yV o _ _ f s H) r) u).imp λ_ _ _=>Af (λ_ _ z=>by cases z) (aW k))
def JW(n:Nat)(b:Ϙ)(j:Nat)(a:Jg Γ t)(F:Fm Γ t)(A:Em Γ t)(z:Bool):Em Γ t:=(Eb n b j a.m F.m A.m z J,λS x=>S.fr&&He S n b (.one j) a.ck F A.ck x,λo h=>pM o (ah h).2 λN T ix i e v p c d g k l q r u=>(uU (o.fx (ah h).1).1 (o.fx (ah h).1).2 c o.hc d (a.pi o g) (λf s H=>l (yV o _ _ f s H)) (λf s H=>F.pf (yV o _ _ f s H) q) (λf s H=>A.pe (yV o _ _ f s H) r) u).imp λ_ _ _=>Af (λ_ _ _ z=>z) (aW k))
end Em
def Tm.tin(i:Nat)(A:Em Γ t):Tm Γ t:=(s1 (ag8 (Γ.tab i)) A.m,λS=>IM λa os bs _=>og (l1 os) λo=>og (l1 bs) λb=>decide (o=.In)&&(aa4 100 i&&gH i Γ.tok&&(C6 S (S.Zk i) b&&A.ck S a)),λ{k S X E x}o h=>by refine tO h λa os bs q h=>?_;have(op,e,h):=cE h;have(b,j,h):=cE h;have(c,g,l,n):=iN h;have(P,s,u,w,F):=gP o l;have(ad,y,T):=o.tab i (b9.mp (ah g).2);replace T:=Np (ah g).1 T;rw[fk e,fk j,aW c,s];refine(y9 (XZ T) (A.pe o n) (nL (v:=.ref ad) u y rfl w) (tI rfl)).imp λτ H K h=>?_;have(G,M,σ,h,B,Q,k,q):=GH h;refine(G,M,σ,h,B,_,(k.rel,k.env,λd c C D v e R I f=>?_,k.exc),q);cases d with|r _=>exact f.elim|p d=>cases d with|str z=>exact(rfl,z,eE I,k.out _ c C D _ e R gO f)|_=>exact f.elim)
namespace Mm
def foG(j:Nat)(a:Jg Γ t)(B:Ms Γ t):Mm Γ t:=(UK j a.m B.m,λS=>NC λT ix b e _=>AJ e&&(mQ ix&&(q_ S (.one j) T&&(a.ck S T ix&&B.ck S b))),λo h=>by refine zv h λT ix b e p h=>?_;have(H,h):=ah h;have(c,h):=ah h;have(d,h):=ah h;have(f,g):=ah h;rw[jz H];exact(DP o.po o.x.hc (a.pi o.x f) (A6 o.x.hc o.x.hN o.x.hs o.nd o.hf d) (B.ps o g) λ_=>sX c).imp λ_ _ _=>Py)
def whG(T:Tm Γ t)(B:Ms Γ t):Mm Γ t:=(Gp T.m B.m,λS=>SU λc b e _=>AJ e&&(T.ck S c&&B.ck S b),λo h=>by refine GL h λc b e p h=>?_;have(H,h):=ah h;have(a,d):=ah h;rw[jz H];exact(A9 o.po (T.pt o.x a) (B.ps o d)).imp λ_ _ _=>xu)
def whT(B:Ms Γ t):Mm Γ t:=(aht B.m,λS=>SU λc b e _=>AJ e&&(VQ (.bl J) c&&B.ck S b),λo h=>by
 refine GL h λc b e p h=>?_;have(d,h):=ah h;have(a,f):=ah h;rw[jz d];have v:ZA c=true:=by revert a;exact λa=>tP a λ_ _ _ _=>rfl
 refine(A9 o.po (NH v (JY (p:=.bl J) a)) (B.ps o f)).imp λD τ H q=>xu (T:=sC (.bl J)) ?_;have(G,M,σ,h,N,k,q):=q;exact(G,M,σ,h,N,k,q))
def Φ(c j:Nat)(n:Int)(B:Em Γ t):Mm Γ t:=(UJ c j n B.m,λS=>Zr λa o b _=>decide (o=.Add)&&(NB (λc _ _=>R_ (.int n) c) b&&Bz (λd f _=>gH c S.NW&&(A0 f j (S.fl c)&&B.ck S d)) a),λo h=>by refine SI h λa op b P h=>?_;have(e,H,g):=dG h;rw[aW e];refine nS g λd f p h=>?_;have(i,k,l):=dG h;refine tP H λr s u H=>?_;rw[Ov H];have(C,q):=o.x.cls c (b9.mp i);exact(Io (B.pe o.x l) L5 WY).imp λ_ _ _=>Pk C (by rw[q];exact lG k))
end Mm
end
end F
namespace L2
structure akP(K:Frag)(mg:db)(x nm:Str)(st:Stmt)(ps:ϐ):Prop where ex:∃(f:Addr)(fd:dV),IT K nm nm st f fd/\mg x=O (.ref f)/\Binds K fd ps []
end L2
namespace F
open L2
end F
namespace F
open L2
section
variable{h:Hs}{i l c j:Nat}{x d y:Dv}{xs:ϑ}{ds fs yo:List Dv}{z:Pv}{Q:Dv->Hs->Prop}{K:Hs->Prop}{C:Ct}{xc:XP}{k n:Int}
def cR(e:Kh c j h x=O d)(q:Q d h):j9 c j x h Q:=by unfold j9;rw[e];exact q
def dS(e:h[i]?=O (.ins c fs)):Kh c j h (.r i)=fs[j]?:=by
 show(match h[i]? with
  |some (.ins a fs)=>match aa6 a c with|true=>fs[j]?|false=>af
  |_=>af)=_;rw[e];show(match aa6 c c with|true=>fs[j]?|false=>af)=_;rw[fU]
def kb(e:h[i]?=O (.ins c fs))(H:aa4 (fs.length+1) 1000)(s:RW j d fs=O yo)(q:K (h.set i (.ins c yo))):lY c j i d h K:=by unfold lY;rw[e];refine aw (by rw[fU,H];rfl) ?_;rw[s];exact q
def f7(e:h[i]?=O (.ins c fs))(q:C [.r i] h Q xc):zK c C i h xc Q:=by unfold zK;rw[e];exact aw (fU c) q
def Vu(e:h[i]?=O (.ins c fs))(H:aa4 (fs.length+1) 1000)(a:fs[j]?=O (.p (.int k)))(q:K (h.set i (.ins c (fs.set j (.p (.int (k+n))))))):lV c j n i h K:=by unfold lV;rw[e];refine aw (by rw[fU,H];rfl) ?_;rw[a];exact q
def Lb(e:h[l]?=O (.lst xs)):iH h (.r l)=O xs:=by show(match h[l]? with|some (.lst xs)=>O xs|_=>af)=_;rw[e]
def QF(e:h[l]?=O (.du ds)):iH h (.r l)=none:=by show(match h[l]? with|some (.lst xs)=>O xs|_=>af)=_;rw[e]
def AR(e:h[l]?=O (.du ds)):mM h (.r l)=O ds:=by show(match h[l]? with|some (.du xs)=>O xs|_=>af)=_;rw[e]
def gR(e:h[l]?=O (.lst xs))(q:Q (.p (.int xs.length)) h):jL [.r l] h Q:=by show(match iH h (.r l)with|some xs=>Q (.p (.int xs.length)) h|none=>_);rw[Lb e];exact q
def fM(e:h[l]?=O (.du ds))(q:Q (.p (.int ds.length)) h):jL [.r l] h Q:=by show(match iH h (.r l)with|some xs=>Q (.p (.int xs.length)) h|none=>match mM h (.r l)with|some ds=>Q (.p (.int ds.length)) h|none=>False);rw[QF e,AR e];exact q
def qP(e:h[l]?=O (.lst xs))(a:nk xs k=O z)(q:Q (.p z) h):uS (.r l) (.p (.int k)) h Q:=by show(match iH h (.r l)with|some xs=>ie (nk xs k) (λz=>Q (.p z) h) False|none=>_);rw[Lb e];exact bC a q
def j6(e:h[l]?=O (.du ds))(a:nk ds k=O d)(q:Q d h):uS (.r l) (.p (.int k)) h Q:=by show(match iH h (.r l)with|some xs=>ie (nk xs k) (λz=>Q (.p z) h) False|none=>match mM h (.r l)with|some ds=>ie (nk ds k) (λd=>Q d h) False|none=>False);rw[QF e,AR e];exact bC a q
def uG(a:nk xs k=O z)(q:Q (.p z) h):uS (.p (.tup xs)) (.p (.int k)) h Q:=bC (A:=λz=>Q (.p z) h) a q
def nJ(q:Q (.p (.int xs.length)) h):jL [.p (.tup xs)] h Q:=q
def ir(e:h[l]?=O (.lst xs))(s:gU (xs.length+1))(q:Q (.p .non) (h.set l (.lst (xs++[z])))):jD (.r l) [.p z] h Q:=by show(match h[l]? with|some (.lst xs)=>gd (gU (xs.length+1)) (Q (.p .non) (h.set l (.lst (xs++[z]))))|some (.du xs)=>gd (gU (xs.length+1)) (Q (.p .non) (h.set l (.du (xs++[.p z]))))|_=>False);rw[e];exact aw s q
def kZ(e:h[l]?=O (.du ds))(s:gU (ds.length+1))(q:Q (.p .non) (h.set l (.du (ds++[d])))):jD (.r l) [d] h Q:=by cases d<;>(unfold jD;simp only[e];exact aw s q)
def yZ(e:h[l]?=O (.du ds))(a:ds[ds.length-1]?=O d)(q:Q d (h.set l (.du ds.dropLast))):kM (.r l) [] h Q:=by show(match h[l]? with|some (.lst xs)=>ie xs[xs.length-1]? (λy=>Q (.p y) (h.set l (.lst xs.dropLast))) False|some (.du xs)=>ie xs[xs.length-1]? (λy=>Q y (h.set l (.du xs.dropLast))) False|_=>False);rw[e];exact bC a q
def K3(e:h[l]?=O (.lst xs)):Dd 4 h (.r l)=true:=by show((iH h (.r l)).isSome||(mM h (.r l)).isSome)=J;rw[Lb e];rfl
def K2(e:h[l]?=O (.du ds)):Dd 4 h (.r l)=true:=by show((iH h (.r l)).isSome||(mM h (.r l)).isSome)=J;rw[QF e,AR e];rfl
def jX(e:h[l]?=O (.lst xs))(q:Q (.p (.tup xs)) h):f9 [.r l] h Q:=by show(match iH h (.r l)with|some xs=>Q (.p (.tup xs)) h|none=>False);rw[Lb e];exact q
def tM(q:Q (.p (.tup xs)) h):f9 [.p (.lst xs)] h Q:=q
def Qp(e:h[l]?=O (.lst xs))(q:Q (.p (.bl J)) h):yU [.r l,.p (.ty 4)] h Q:=by show(match h[l]? with|some (.lst _)=>Q (.p (.bl J)) h|some (.du _)=>Q (.p (.bl J)) h|_=>False);rw[e];exact q
def Qq(e:HC 4 z=O a')(q:Q (.p (.bl a')) h):yU [.p z,.p (.ty 4)] h Q:=by show(match HC 4 z with|some b=>Q (.p (.bl b)) h|none=>False);rw[e];exact q
def Oo(e:AQ h x=O a)(E:AQ h y=O b)(s:gU (a.length+b.length))(q:Q (.r h.length) (h++[.du (a++b)])):jV x y h Q:=by unfold jV;rw[e,E];exact aw s q
def laD(e:h[l]?=O (.du ds)):AQ h (.r l)=O ds:=by unfold AQ;rw[QF e];exact AR e
def sU{H:Hs}{P:Pw}{e:Dv->Es}{T A:Es->Hs->KP->Prop}{z:Bool}{Q:KP}(xs:List Dv)(a:List Dv->List Dv->Hs->Prop)(m:gU xs.length)(o:a [] [] H)(r:∀pre acc h',a pre acc h'->P h' xs)(step:∀pre y post acc h',xs=pre++y::post->a pre acc h'->T (e y) h' λbs f=>match bs with|[.p (.bl b)]=>br b (A (e y) f λys s=>match ys with|[v]=>a (pre++[y]) (acc++[v]) s|_=>False) (a (pre++[y]) acc f)|_=>False)(fin:∀acc h',a xs acc h'->ζ z acc h' Q):OS H P e T A z Q:=by unfold OS;refine(xs,λi acc h'=>a (xs.take i) acc h',m,by dsimp only;rw[fF];exact o,λi acc h' j=>r _ _ _ j,λi y acc h' g j=>?_,λacc h' j=>fin acc h' (by dsimp only at j;rw[cY]at j;exact j));have q:=step _ y _ acc h' (kJ g) j;rw[<-kD g]at q;exact q
def Pr(xs:List Dv)(a:List Dv->List Dv->Es->Hs->Prop)(f:a [] xs σ h)(g:∀pre post σ' h',a pre post σ' h'->P h' xs)(step:∀pre x post σ' h',xs=pre++x::post->a pre (x::post) σ' h'->b (N.lp (a (pre++[x]) post) N.nx) (σ'.set j (O x)) h')(fin:∀σ' h',a xs [] σ' h'->N.nx σ' h'):Pq j P b N σ h:=by
 unfold Pq;refine(xs,λi σ' h'=>a (xs.take i) (xs.drop i) σ' h',by dsimp only;rw[fF,jG];exact f,λi σ' h' j=>g _ _ _ _ j,λi x σ' h' H j=>?_,λσ' h' j=>fin σ' h' (by dsimp only at j;rw[cY,ky]at j;exact j));have(o,e):=ak.mp H;have E:xs.drop i=x::xs.drop (i+1):=by rw[<-e,fT]
 have m:a (xs.take i) (x::xs.drop (i+1)) σ' h':=E▸j;have z:=step _ x _ σ' h' (kJ H) m;rw[<-kD H]at z;exact z
end
end F
namespace F
open L2
section
variable{Γ:Gm}{t:Tb}
noncomputable def oZ(z:Str):Nat->Str|0=>⟨#[]⟩|n+1=>z++oZ z n
def hZ(x y:Str):(x++y).cps.toList=x.cps.toList++y.cps.toList:=xy
theorem Gf(z:Str):∀n,(oZ z n).cps.toList=(aa5 n z.cps.toList).flatten|0=>rfl|n+1=>by show(z++oZ z n).cps.toList=_;rw[hZ,Gf z n,b0,cx]
theorem AB:∀(l:List (Array Nat))(a:Array Nat),(l.foldl (λx y=>x++y) a).toList=a.toList++(l.map Array.toList).flatten|[],a=>by rw[List.foldl_nil,b8,GO,aI]|x::l,a=>by rw[List.foldl_cons,AB l,xy,aH,cx,aD]
def QM(z:Str)(n:Nat):Txt.mul z (n:Int)=oZ z n:=by refine cG ?_;rw[Gf];unfold Txt.mul;cases n with|zero=>rw[bI (by ext)];rfl|succ n=>
  rw[bL (by lia)];split
  .rename_i h;rcases(cH ..).mp h with h|h
   .have h:((n+1:Nat):Int)=1:=by simpa using h
    have h:n=0:=by lia
    subst h;simp
   .have h:z.length=0:=by simpa using h
    have h:z.cps.toList=[]:=cX.mp (by rw[bU];exact h);rw[h,List.flatten_replicate_nil]
  .show(ah4 _ #[] _).toList=_;rw[AB,zO,gJ];rfl
def MD:R2:=λx y H Q=>∃(z:Str)(k:Int),x=.str z/\y=.int k/\0<=k/\k<=5000/\z.length<=100/\Q (.str (Txt.mul z k)) H
def LU:jZ X (binaryOp .Mult) MD:=by
 intro p s σ H x y v u Q I r R h;have(z,k,rfl,rfl,a,b,f,q):=h;have(t,rfl):=r;have(T,rfl):=R;have e:(z.length:Int)*k<=100*5000:=Int.mul_le_mul (by lia) b a (by lia);refine SB.mul (n:=k) (by rw[bg (by lia),bg (by lia)];rfl,λc _=>?_,λc _=>?_) λT K=>(.str _,H,I.tok _,(_,rfl),q);.intro g;have:(z.length:Int)<=(2^63-1)/k:=(Int.le_ediv_iff_mul_le (by lia)).mpr (by lia);lia
 .have l3:(1000000:Nat)<sizeLine:=by rw[vQ];decide
  have d:(k.toNat:Int)=k:=xB (by lia);have:((z.length*k.toNat:Nat):Int)<=500000:=by rw[Int.natCast_mul,d];exact e
  show decide _=a';exact bg (by lia)
def LM:O2:=λx y h Q=>match x,y with|.p (.str z),.p (.int k)=>gd (ic 0 k&&(ic k 5000&&aa4 z.length 100)) (Q (.p (.str (oZ z k.toNat))) h)|_,_=>False
def KS:iD Y MD LM:=λG M h H x y v u Q e r i j q out=>by
 unfold LM at q;split at q;.rename_i z k;have(c,q):=bq q;have(C,c):=ah c;have(b,d):=ah c;have a:=bM.mp C;refine(_,_,eE i,d9 j,a,bM.mp b,ap.mp d,out _ h M H _ Ext.refl r lE ?_);have(n,rfl):=cW a;rw[QM];exact q
 .exact q.elim
def JC:Bo:=(LM,.Mult,λ_ _=>(_,LU,KS))
namespace E1
end E1
end
end F
namespace F
open L2
def ut(A B:Sm):Sm:=λx σ h Q=>A x σ h λX H=>match X with|[.p (.str z)]=>gd (gU z.length) (br (aa6 z.length 0) (B x σ H Q) (Q [.p (.str z)] H))|_=>False
section
variable{t:Tb}{X:Cx}{E:XK}{A B:Sm}
def Sq(h:cA (yx t X) E (ut A B) τ H QV):tp (cA (yx t X) E A) (cA (yx t X) E B) τ H QV:=by
 have(G,M,σ,s,x,Q,k,q):=h;refine(G,M,σ,s,x,_,(k.rel,k.env,λd g m j v e r i a=>?_,k.exc),q);split at a;.rename_i z f;injection f with f;subst f;have(c,a):=bq a;refine(z,eE i,dy c,?_);cases b:aa6 z.length 0 with|true=>rw[b]at a;rw[bI (ax b)];exact(G,m,σ,g,x,_,k.on e r λD l n o w p R I u=>k.out _ l n o w (e.trans p) R I u,a)|false=>rw[b]at a;rw[bL λz=>by rw[z]at b;cases b];have:=k.out _ g m j _ e r i a;rw[eE i]at this;exact this
 .exact a.elim
end
variable{Γ:Gm}{t:Tb}
def Bm.os(A:Em Γ t)(B:Bm Γ t .Or):Bm Γ t .Or:=(ut A.m B.m,λS x=>Wm.j_ x λa r=>A.ck S a&&B.ck S r,λo h p=>by refine Wm.uI h λa b r h=>?_;exact(Yi (A.pe o (ah h).1) (B.pe o (ah h).2 p)).imp λ_ _ _=>Sq)
end F
namespace F
open L2
@[irreducible]def Pt(tg:Tg)(P:Pw)(b:Ss)(N:En)(σ:Es)(h:Hs):Prop:=∃(X:List Dv)(W:Nat->Es->Hs->Prop),W 0 σ h/\(∀i a H,W i a H->P H X)/\(∀(i:Nat)x a H,X[i]?=O x->W i a H->match x with
  |.p y=>match ZZ tg y a with|some c=>b (N.lp (W (i+1)) N.nx) c H|none=>False
  |_=>False)/\∀a H,W X.length a H->N.nx a H
def UL(tg:Tg)(I:Ig)(b:Ss):Ss:=λN σ h=>I N.xc σ h λP H=>Pt tg P b N σ H
def LB:O2:=λx y h Q=>match iH h x,iH h y with|some X,O Y=>gd (gU (X.length+Y.length)) (Q (.r h.length) (h++[.lst (X++Y)]))|_,_=>False
section
variable{t:Tb}{X:Cx}{E:XK}{I:Ig}{b:Ss}{Y:T0}
def Pz(h:eI (yx t X) E (UL tg I b) D τ H):Sd (Ep (yx t X) E I) (Z9 X.K tg) (eI (yx t X) E b) D τ H:=by
 have(G,M,σ,h0,N,k,q):=h;refine(G,M,σ,h0,N.xc,_,(k.rel,k.env,λP h1 F U j A r1 jo q=>?_,k.exc),q);unfold Pt at q;have(x,W,w0,hP,T,fin):=q;refine(λi m p u=>m=x.length-i/\i<=x.length/\∃c a h',Ext F U c u/\bh ((yx t X).z G) c u h'/\cV ((yx t X).z G) c u a p/\W i a h',(_,rfl,bA _,F,σ,h1,Ext.refl,r1,k.env.ext k.rel A,w0),?_);rintro i _ p u ⟨rfl,hi,c,a,h',e2,r2,v2,w⟩;have(ja,jb):=jo G c u h' x (λ_ z=>.inl z) e2 r2 (hP _ _ _ w);by_cases nB:i<x.length
 .have(g,y):=ja i x[i] (aN nB);refine .inr (g,λB L=>∃r,r<x.length-i/\r=x.length-(i+1)/\i+1<=x.length/\∃c a h',Ext F U c L/\bh ((yx t X).z G) c L h'/\cV ((yx t X).z G) c L a B/\W (i+1) a h',λB L (r,hm,z)=>(r,hm,z),λv mj yl=>?_);have(e3,r3,ip):=y v mj yl;have q:=T i x[i] a h' (aN nB) w;have S:=e2.trans e3;have nx:∀e o l f n,Ext c mj l f->bh ((yx t X).z G) l f o->cV ((yx t X).z G) l f e n->W (i+1) e o->∃r,r<x.length-i/\r=x.length-(i+1)/\i+1<=x.length/\∃c a h',Ext F U c f/\bh ((yx t X).z G) c f h'/\cV ((yx t X).z G) c f a n/\W (i+1) a h':=λe o l f n s R v5 Q=>(_,by lia,rfl,by lia,l,e,o,S.trans s,R,v5,Q);split at q
  .rename_i y ey;split at q;.rename_i σ4 e4;rw[ey]at ip;refine Wq (Z:=(yx t X).z G) e4 ip (v2.ext r2 e3) λτ4 v4=>?_;exact(G,c,_,h',N.lp (W (i+1)) N.nx,(r3,v4,nx,λd o l f v s R i5 Q=>k.rt d o l f v (A.trans (S.trans s)) R i5 Q,λe o l f n s R v5 Q=>k.nx e o l f n (A.trans (S.trans s)) R v5 Q,nx,λC o l f s R Q=>k.exc C o l f (A.trans (S.trans s)) R Q),q)
   .exact q.elim
  .exact q.elim
 .have hx:i=x.length:=by lia
  subst hx;exact .inl (jb,k.nx a h' c u p (A.trans e2) r2 v2 (fin a h' w))
def KL:iD Y RM LB:=λG M h H x y v u Q m r i j q out=>by
 unfold LB at q;split at q;.rename_i s g ex k;have(c,q):=bq q;have(a,l,rfl,s1,e):=fN r i ex;have(b,U,rfl,s2,f):=fN r j k;refine(a,b,l,U,rfl,rfl,s1,s2,by rw[<-e.len,<-f.len];exact dy c,λp d=>?_);refine out (.r h.length) _ (M++[p]) _ _ (Ext.push r d) (r.push (o:=.lst (s++g)) d (_,bQ,(e.app f).ext r (Ext.push r d))) (p,?_,rfl) q;rw[<-r.ln,aM (ay _),dD];rfl
 .exact q.elim
end
def Ti:Bo:=(LB,.Add,λ_ _=>(_,DF,KL))
variable{Γ:Gm}{t:Tb}
def Mm.foT(tg:Tg)(j:Jg Γ t)(B:Ms Γ t):Mm Γ t:=(UL tg j.m B.m,λS=>NC λT ix b e _=>AJ e&&(mQ ix&&(q_ S tg T&&(j.ck S T ix&&B.ck S b))),λo h=>by refine zv h λT ix b e p h=>?_;have(H,h):=ah h;have(a,h):=ah h;have(c,h):=ah h;have(d,f):=ah h;rw[jz H];exact(DP o.po o.x.hc (j.pi o.x d) (A6 o.x.hc o.x.hN o.x.hs o.nd o.hf c) (B.ps o f) λ_=>sX a).imp λ_ _ _=>Pz)
def Pu{tg:Tg}{P:Pw}{b:Ss}{N:En}{σ:Es}{h:Hs}(xs:ϑ)(a:ϑ->ϑ->Es->Hs->Prop)(f:a [] xs σ h)(g:∀h',P h' (xs.map .p))(step:∀pre x post σ' h',xs=pre++x::post->a pre (x::post) σ' h'->match ZZ tg x σ' with|some d=>b (N.lp (a (pre++[x]) post) N.nx) d h'|none=>False)(fin:∀σ' h',a xs [] σ' h'->N.nx σ' h'):Pt tg P b N σ h:=by unfold Pt;refine(xs.map .p,λi σ' h'=>a (xs.take i) (xs.drop i) σ' h',by dsimp only;rw[fF,jG];exact f,λi σ' h' j=>g _,λi x σ' h' H j=>?_,λσ' h' j=>fin σ' h' (by dsimp only at j;rw[ae,cY,ky]at j;exact j));rw[bN]at H;cases c:xs[i]? with|none=>rw[c]at H;cases H|some y=>
 rw[c]at H;cases H;have(l,e):=ak.mp c;have E:xs.drop i=y::xs.drop (i+1):=by rw[<-e,fT]
 have k:a (xs.take i) (y::xs.drop (i+1)) σ' h':=E▸j;have z:=step _ y _ σ' h' (kJ c) k;rw[<-kD c]at z;exact z
end F
namespace F
open L2
def Em.Tv{Γ:Gm}{t:Tb}(n:Nat)(a:Ϙ)(tg:Tg)(j:Jm Γ t)(F:Fm Γ t)(A:Em Γ t):Em Γ t:=(Gh n a tg (we j.m) F.m A.m a',λS x=>He S n a tg j.ck F A.ck x,λo h=>pM o h λN T ix i e u p b c d g k l q r=>(Rb b o.hc c (j.pi o d) (λf s H=>k (o_ o _ _ f s H)) (λf s H=>F.pf (o_ o _ _ f s H) l) (λf s H=>A.pe (o_ o _ _ f s H) q) r).imp λ_ _ _=>ya (λ_ _ z=>by cases z) g)
noncomputable def y0(xs:ϑ)(v:Pv):Int->Option ϑ
 |.negSucc m=>match aa4 (m+1) xs.length with|true=>O (xs.set (xs.length-(m+1)) v)|false=>af
 |_=>af
def UN(A B C:Sm):Ss:=λN σ h=>A N.xc σ h λs a=>match s with
 |[.p v]=>B N.xc σ a λx b=>match x with
  |[.r i]=>C N.xc σ b λy H=>match y with
   |[.p (.int k)]=>match H[i]? with
    |some (.lst z)=>match y0 z v k with|some Z=>N.nx σ (H.set i (.lst Z))|none=>False
    |_=>False
   |_=>False
  |_=>False
 |_=>False
section
variable{t:Tb}{X:Cx}{E:XK}{A B C:Sm}
def RI(h:eI (yx t X) E (UN A B C) D τ H):zp (cA (yx t X) E A) (Wl (cA (yx t X) E B) (cA (yx t X) E C) ME) D τ H:=by have(G,M,σ,h,N,k,q):=h;have ex:∀{w y},Ext M H w y->∀C c b H1,Ext w y b H1->bh ((yx t X).z G) b H1 c->N.xc C c->E (.ref (t.ca C)) af H1:=λe C c b H1 x r q=>k.exc C c b H1 (e.trans x) r q;refine(G,M,σ,h,N.xc,_,(k.rel,k.env,λd c b H1 v f F P I=>?_,k.exc),q);cases d with|r _=>exact I.elim|p x=>refine(G,b,σ,c,N.xc,_,(F,k.env.ext k.rel f,λS T U H2 v2 g R Y K=>?_,ex f),I);cases S with|p _=>exact K.elim|r n=>
   refine(G,U,σ,T,N.xc,_,(R,k.env.ext k.rel (f.trans g),λd3 h3 M3 H3 v3 j l i3 Q=>?_,ex (f.trans g)),K);split at Q
   .rename_i kk W;injection W with W;subst W;split at Q
    .rename_i Z ho;split at Q;.rename_i zM i;have(a,s,g2):=Y.ext R j;have(ws,g3,L):=l.at' s ho;have u:a∈M3:=a7 s;cases kk with|ofNat m=>cases i|negSucc m=>
       change(match aa4 (m+1) Z.length with|true=>O (Z.set (Z.length-(m+1)) x)|false=>af)=O zM at i;split at i
       .rename_i hb;cases i;have hm:m+1<=Z.length:=bj hb;have hl:=L.len;refine(a,ws,Int.negSucc m,Z.length-(m+1),g2,d9 i3,g3,?_,?_);.unfold T4;rw[bL (by lia),bI (by lia)];congr 1;lia
        .have ix:=((show bT ((yx t X).z G) b H1 x v from P).ext F g).ext R j;refine k.nx σ _ M3 _ τ ((f.trans (g.trans j)).trans (Ext.put u)) (l.put (o:=.lst (Z.set (Z.length-(m+1)) x)) s (_,bQ,?_)) (k.env.ext k.rel ((f.trans (g.trans j)).trans (Ext.put u))) Q;exact(L.set ix _).ext l (Ext.put u)
       .cases i
     .exact Q.elim
    .exact Q.elim
   .exact Q.elim
end
section
variable{Γ:Gm}{t:Tb}
def Mm.aci(A B C:Em Γ t):Mm Γ t:=(UN A.m B.m C.m,λS=>oa λa i e=>uQ i&&(A.ck S e&&(B.ck S a&&C.ck S i)),λo h=>by refine Na h λa i p e pos h=>?_;have(H,h):=ah h;have(b,h):=ah h;have(c,d):=ah h;exact(DO (A.pe o.x b) (Ml (B.pe o.x c) (C.pe o.x d) Bs (EI H)) (GC (l:=pos.line)) Nc rfl).imp λ_ _ _=>RI)
end
def RH{N:En}{σ:Es}{h:Hs}{i:Nat}{xs:ϑ}{z v:Pv}(e:h[i]?=O (.lst (xs++[z])))(q:N.nx σ (h.set i (.lst (xs++[v])))):match h[i]? with
  |some (.lst zs)=>match y0 zs v (-1)with|some Z=>N.nx σ (h.set i (.lst Z))|none=>False
  |_=>False:=by rw[e];show(match match aa4 1 (xs++[z]).length with|true=>O ((xs++[z]).set ((xs++[z]).length-1) v)|false=>af with|some Z=>N.nx σ (h.set i (.lst Z))|none=>False);rw[ap.mpr (show 1<=(xs++[z]).length by rw[aa];show 1<=xs.length+1;lia),show(xs++[z]).set ((xs++[z]).length-1) v=xs++[v]by rw[aa];show(xs++[z]).set xs.length v=_;rw[List.set_append_right _ _ (ay _),dD];rfl];exact q
end F
namespace W2
open L2 F
noncomputable def top(i:Nat):Stmt:=PySem.Challenge.pw_retrace_k11_whole_read_back.main.body.getD i (.Pass (0,0,0,0))
def Wg:List String:=["has_word","value_kinds","row_kinds","parts_within","rows_of","add_rows","is_name","is_whole","is_number","is_value","is_value_within","is_part","program_of","check_variables","check_functions","check_rows","is_tuple_of","is_pair","is_box","is_list","is_function","names_of","own_names","are_unlike","are_rows","is_row","is_row_part","head_kinds","_law_cell_at","_law_state","_law_next","_law_names","_law_value","_law_plain","_law_rows","_law_program","read","word_rows","words_in","read_numbers","number_of","read_value","opened_value","read_word","read_part","read_box","read_list","read_def","read_own","read_else","read_catch","read_end","read_row","read_line","enter","innermost","rows_to_fill","_law_value_text","_law_row_text","_law_row_lines","_law_lines","_law_program_lines","_law_kinds","_law_empty_elses","_law_spaced","_law_text","_law_read","law"]
noncomputable def afN:ϐ:=["MOST_LETTERS","GREATEST","DEEPEST","NO_ROW","MOST_BOXES","MOST_LISTS","MOST_THINGS","MOST_FUNCTIONS","MOST_NAMES","DEEPEST_ROW","MOST_NUMBERS","MOST_FIGURES","BOXES","LISTS","FUNCTIONS","ROWS"]
noncomputable def gls:ϑ:=[.int 6,.int 999999,.int 4,.int (-1),.int 6,.int 3,.int 12,.int 4,.int 3,.int 5,.int 60,.int 6,.int 0,.int 1,.int 2,.int 3]
noncomputable def ahL:Nat->Str|0=>"VALUE_FORMS"|1=>"ROW_FORMS"|_=>"LINES"
noncomputable def afp:Nat->Str|0=>"NoProgram"|1=>"NoRow"|2=>"TooLong"|3=>"Scope"|4=>"NoText"|5=>"Words"|6=>"Reader"|600=>"take"|601=>"are_left"|_=>"take_all"
noncomputable def VC:ϐ:=["len","isinstance","all","zip","range","list","tuple","str","int","bool","set","dict","max","min"]
def hH{α:Type}(l:List α)(d:α)(i:Nat):α:=l.getD i d
def S0:Sx:=([],aT (.Pass (0,0,0,0)),λi=>ad6 (hH Wg "" i),hH afN "",ahL,afp,λc=>match c with|3=>["boxes","lists","param_counts","may_return"]|5=>["words","place"]|6=>["section","boxes","lists","functions","rows","opened"]|_=>[],VC,[3,5,6],[0,1,2,4],J)
def lk{α:Type}(x:Str):List (Str×α)->Option α|[]=>af|(k,v)::r=>match aS x k with|true=>O v|false=>lk x r
noncomputable def eJ:List (Str×ϐ):=[("number",["number"]),("box",["box"]),("plus",["value","value"]),("minus",["value","value"]),("times",["value","value"]),("over",["value","value"]),("rest",["value","value"]),("less",["value","value"]),("same",["value","value"]),("not",["value"]),("item",["list","value"]),("size",["list"])]
noncomputable def dI:List (Str×ϐ):=[("set",["box","value"]),("push",["list","value"]),("pop",["box","list"]),("put",["list","value","value"]),("ask",["box","door"]),("tell",["value"]),("if",["value","rows","rows"]),("while",["value","rows"]),("try",["rows","box","rows"]),("fail",["value"]),("call",["box","function","values"]),("return",["value"])]
noncomputable def HL:List (Str×Nat):=[("box",45),("list",46),("def",47),("own",48),("else",49),("catch",50),("end",51)]
def ahK:Nat->Str->Option ϐ|0,x=>lk x eJ|1,x=>lk x dI|_,x=>(lk x HL).map λn=>aa5 n ""
abbrev jC(h:Hs)(k:Nat->Hs->Prop):Prop:=match h with|.ins c []::r=>k c r|_=>False
@[elab_as_elim]def agE{G:Hs->Prop}(c:jC h k)(g:∀i r,k i r->G (.ins i []::r)):G h:=by
 rcases h with _|⟨x,_⟩;.exact c.elim
 .cases x with
  |ins j X=>cases X<;>first|exact g _ _ c|exact c.elim
  |_=>exact c.elim
noncomputable def CC:Pv->Bool|.str z=>!decide (z.cps.toList<("0":Str).cps.toList)&&!decide (("9":Str).cps.toList<z.cps.toList)|_=>a'
def j8(z:Str):Bool:=!(jv 6 (z.length:Nat)||!(ig z).all CC)&&!(ac9 z "0"&&!aS z "0")
def gW:Pv->Bool|.str z=>aa4 z.length 1000000&&(!j8 z||(aa7 z).isSome)|_=>a'
noncomputable def Wo(ws:ϑ)(k:Nat):Ob:=.ins 5 [.p (.lst ws),.p (.int k)]
inductive Wr(r:ϑ):Ob->Prop|mk(ws:ϑ)(k:Nat)(hk:k<=ws.length)(hr:ws.drop k=r)(hs:gU ws.length)(hg:ws.all gW):Wr r (Wo ws k)
inductive Z4(f:ϑ->Option (Pv×ϑ)):Ct|ok{w:Nat}{h:Hs}{Q:Dv->Hs->Prop}{xc:XP}(o:Ob)(r r':ϑ)(x:Pv)(hw:h[w]?=O o)(wr:Wr r o)(e:f r=O (x,r'))(q:∀o',Wr r' o'->Q (.p x) (h.set w o')):Z4 f [.r w] h Q xc|no{w:Nat}{h:Hs}{Q:Dv->Hs->Prop}{xc:XP}(o:Ob)(r:ϑ)(hw:h[w]?=O o)(wr:Wr r o)(e:f r=af)(q:xc 4 h):Z4 f [.r w] h Q xc
def TH:ϑ->Option (Pv×ϑ)|[]=>af|x::r=>O (x,r)
inductive cLf:Ct|mk{w:Nat}{h:Hs}{Q:Dv->Hs->Prop}{xc:XP}(o:Ob)(r:ϑ)(hw:h[w]?=O o)(wr:Wr r o)(q:Q (.p (.bl !r.isEmpty)) h):cLf [.r w] h Q xc
def TF(r:ϑ):Option (Pv×ϑ):=O (.lst r,[])
inductive OH:Ct|mk{i:Nat}{ws:ϑ}{h:Hs}{Q:Dv->Hs->Prop}{xc:XP}(hi:h[i]?=O (.ins 5 []))(q:Q (.p .non) (h.set i (Wo ws 0))):OH [.r i,.p (.lst ws)] h Q xc
inductive VI:Ct|mk{i:Nat}{h:Hs}{Q:Dv->Hs->Prop}{xc:XP}(hi:h[i]?=O (.ins 6 []))(q:Q (.p .non) (h.set i (.ins 6 [.p (.int 0),.r h.length,.r (h.length+1),.r (h.length+2),.r (h.length+3),.r (h.length+4)])++[.lst [],.lst [],.lst [],.lst [],.du []])):VI [.r i] h Q xc
def W0:Nat->Ct|3=>λds h Q _=>rC ds λi r=>pC r λa r=>pC r λb r=>pC r λc r=>pC r λd r=>nC r (jC h λj g=>nC g (gd (aa6 i 0&&aa6 j 3) (Q (.p .non) [.ins 3 [.p a,.p b,.p c,.p d]])))|5=>OH|6=>VI|600=>Z4 TH|601=>cLf|_=>Z4 TF
def Lx(c:Nat->Addr):Lw:=(S0,c,hH gls .non,[0,1,2,3,4,5,6,7,8,9,10,11,12,13,14,15],ahK,[0,1,100],W0)
mutual
def fZ:Pv->Bool|.tup xs=>eP xs|.lst xs=>eP xs|.dct ks us=>eP ks&&eP us|.scr _=>a'|.obj _ _=>a'|.fn _=>a'|.ty _=>a'|_=>J
def eP:List Pv->Bool|[]=>J|x::r=>fZ x&&eP r
end
mutual
def eZ:Pv->Nat|.tup xs=>1+dg xs|.lst xs=>1+dg xs|.dct ks us=>1+dg ks+dg us|.str z=>1+z.length|_=>1def dg:List Pv->Nat|[]=>0|x::r=>eZ x+dg r
end
noncomputable def n9:Nat:=1000000
def dz(x:Pv):Bool:=fZ x&&aa4 (eZ x) n9
abbrev o9(f:Pv->Bool):Ct:=JJ dz λx=>.bl (f x)
@[elab_as_elim]def Ar{P:Pv->Prop}(h:dz x)(non:P .non)(bl:∀b,P (.bl b))(int:∀i,P (.int i))(str:∀z,dz (.str z)=J->P (.str z))(tup:∀xs,dz (.tup xs)=J->P (.tup xs))(lst:∀xs,dz (.lst xs)=J->P (.lst xs))(dct:∀ks us,dz (.dct ks us)=J->P (.dct ks us)):P x:=by cases x with|non=>exact non|bl b=>exact bl b|int b=>exact int b|str b=>exact str b h|tup b=>exact tup b h|lst b=>exact lst b h|dct a b=>exact dct a b h|_=>exact xi h
def R1:∀x:Pv,1<=eZ x|.non=>ay _|.bl _=>ay _|.int _=>ay _|.str _=>cZ _ _|.tup _=>cZ _ _|.lst _=>cZ _ _|.dct _ _=>by show 1<=1+_+_;lia|.scr _=>ay _|.obj _ _=>ay _|.fn _=>ay _|.ty _=>ay _
theorem Tw:∀{xs:ϑ}{x:Pv},eP xs=J->x∈xs->fZ x/\eZ x<=dg xs
 |[],_,_,h=>by cases h|y::r,x,h,H=>by
  have(a,b):=ah (show(fZ y&&eP r)=J from h);show _/\_<=eZ y+dg r;rcases aK.mp H with z|z;.subst z;exact(a,by lia)
  .have:=Tw b z;exact(this.1,by lia)
def eK(h:dz (.tup xs))(H:x∈xs):dz x=true:=by have(a,b):=ah h;have(c,d):=Tw a H;have:eZ (.tup xs)=1+dg xs:=rfl;have:=ap.mp b;unfold dz;rw[c,ap.mpr (show eZ x<=n9 by lia)];rfl
def dW(h:n<=n9):gU n=true:=eO (aE h (by ext))
def V2(h:dz (.str z)):z.length<=n9:=by have:eZ (.str z)=1+z.length:=rfl;have:=ap.mp (ah h).2;lia
def wX(h:dz (.tup (a::r))):dz a=true:=eK h au
def yy:Pv->Bool|.tup (.str _::_)=>J|_=>a'
abbrev B9(l:List (Str×ϐ)):Ct:=mu dw λx K=>ie (lk (d8 x) l) (λk=>K (jP k)) (K .non)
structure Sg(K:Frag)(mg:db):Prop where s14:Src K mg "has_word" (top 9) ["thing"]s15:Src K mg "value_kinds" (top 10) ["word"]s16:Src K mg "row_kinds" (top 11) ["word"]s17:Src K mg "parts_within" (top 13) ["row"]s20:Src K mg "rows_of" (top 16) ["program"]s21:Src K mg "add_rows" (top 17) ["triples","rows","around"]s26:Src K mg "is_name" (top 22) ["thing"]s27:Src K mg "is_whole" (top 23) ["thing","least","most"]s28:Src K mg "is_number" (top 24) ["thing"]s29:Src K mg "is_value" (top 25) ["thing","boxes","lists"]s30:Src K mg "is_value_within" (top 26) ["thing","boxes","lists","depth"]s31:Src K mg "is_part" (top 27) ["kind","part","boxes","lists","depth"]s41:Src K mg "program_of" (top 37) ["boxes","lists","functions","rows"]s42:Src K mg "check_variables" (top 38) ["boxes","lists"]s43:Src K mg "check_functions" (top 39) ["functions","taken"]s44:Src K mg "check_rows" (top 40) ["program"]s45:Src K mg "is_tuple_of" (top 41) ["thing","most","is_one"]s46:Src K mg "is_pair" (top 42) ["thing"]s47:Src K mg "is_box" (top 43) ["thing"]s48:Src K mg "is_list" (top 44) ["thing"]s49:Src K mg "is_function" (top 45) ["thing"]s50:Src K mg "names_of" (top 46) ["things"]s51:Src K mg "own_names" (top 47) ["function"]s52:Src K mg "are_unlike" (top 48) ["names"]s53:Src K mg "are_rows" (top 49) ["rows","scope","depth"]s54:Src K mg "is_row" (top 50) ["row","scope","depth"]s55:Src K mg "is_row_part" (top 51) ["kind","part","scope","depth"]Bg:Src K mg "head_kinds" (top 12) ["word"]wt:Src K mg "_law_cell_at" (top 83) ["_law_script","_law_k"]Bf:Src K mg "_law_state" (top 84) ["_law_cell","_law_k"]DQ:Src K mg "_law_next" (top 85) ["_law_state_here","_law_size"]Bd:Src K mg "_law_names" (top 86) ["_law_state_here","_law_amount"]rY:Src K mg "_law_value" (top 87) ["_law_state_here","_law_deep","_law_boxes","_law_lists"]Be:Src K mg "_law_plain" (top 88) ["_law_state_here","_law_names_here"]uY:Src K mg "_law_rows" (top 89) ["_law_state_here","_law_names_here","_law_deep","_law_most","_law_left"]wu:Src K mg "_law_program" (top 90) ["_law_state_here","_law_most"]ack:Src K mg "read" (top 60) ["text"]D1:Src K mg "word_rows" (top 61) ["text"]Iy:Src K mg "words_in" (top 62) ["line"]wy:Src K mg "read_numbers" (top 63) ["words"]DU:Src K mg "number_of" (top 64) ["word"]Bj:Src K mg "read_value" (top 65) ["words"]wx:Src K mg "opened_value" (top 66) ["words"]D0:Src K mg "read_word" (top 67) ["kind","words"]DZ:Src K mg "read_part" (top 68) ["kind","words"]Ip:Src K mg "read_box" (top 69) ["reader","words"]DY:Src K mg "read_list" (top 70) ["reader","words"]Iq:Src K mg "read_def" (top 71) ["reader","words"]Iv:Src K mg "read_own" (top 72) ["reader","words"]DV:Src K mg "read_else" (top 73) ["reader","words"]Bh:Src K mg "read_catch" (top 74) ["reader","words"]Ir:Src K mg "read_end" (top 75) ["reader","words"]Iw:Src K mg "read_row" (top 76) ["reader","word","words"]DW:Src K mg "read_line" (top 78) ["reader","words"]YR:Src K mg "enter" (top 79) ["reader","section"]DT:Src K mg "innermost" (top 80) ["reader","word","length"]wz:Src K mg "rows_to_fill" (top 81) ["reader"]kN:Src K mg "_law_value_text" (top 91) ["_law_value_here"]uX:Src K mg "_law_row_text" (top 92) ["_law_row"]lP:Src K mg "_law_row_lines" (top 93) ["_law_row","_law_ahead"]Bc:Src K mg "_law_lines" (top 94) ["_law_rows_here","_law_ahead"]oh:Src K mg "_law_program_lines" (top 95) ["_law_program_here"]rX:Src K mg "_law_kinds" (top 96) ["_law_found","_law_due"]qh:Src K mg "_law_empty_elses" (top 97) ["_law_lines_here","_law_state_here"]zb:Src K mg "_law_spaced" (top 98) ["_law_lines_here","_law_state_here"]DS:Src K mg "_law_text" (top 99) ["_law_program_here","_law_state_here"]DR:Src K mg "_law_read" (top 100) ["_law_text_here"]
abbrev LX(c:Nat->Addr)(W:Wd):Prop:=Lk (Lx c) W
abbrev DX(c:Nat->Addr)(W:Wd)(i k:Nat)(C:Ct):Prop:=Dt (Lx c) W i k C
abbrev SX(W:Wd):Prop:=Sg W.K W.mg
def hO{C:Nat->Addr}{l:List (Nat×Ct)}{I:Ϙ}{M:Ss}(b:Ms ((Lx C).G l I) (Lx C).t)(h:b.m=M:=by dsimp only[Am.cons,Am.nil,Am.u,Am.u2,Am.u3,Am.u4,Am.u5,Bm.a1,Bm.ac,Bm.o1,Bm.oc,Bm.os,Em.b2,Em.bi,Em.bo,Em.c,Em.ch,Em.cl,Em.clf,Em.clv,Em.wQ,Em.cmp,Em.comp,Em.Tv,Em.E4,Em.JW,Em.din,Em.dix,Em.f,Em.fld,Em.g,Em.i,Em.N2,Em.ix,Em.abd,Em.du,Em.tH,Em.lst,Em.m0,Em.mt,Em.xh,Em.neg,Em.new,Em.not,Em.nw,Em.nw0,Em.s,Em.sl,Em.tg,Em.ti,Em.tup,Em.ty,Em.v,Fm.no,Fm.one,Jg.l,Jg.p,Jm.c,Jm.r,Jm.s,Jm.z,Mm.bk,Mm.ct,Mm.ex,Mm.Φ,Mm.fo,Mm.foG,Mm.foT,Mm.oN,Mm.iff,Mm.put,Mm.aci,Mm.raise,Mm.ret,Mm.set,Mm.setC,Mm.unp,Mm.whG,Mm.whT,Ms.cut,Ms.nil,Ms.one,Ms.re,Ms.seq,Pm.no,Pm.of,_root_.F.Tm.bo,_root_.F.Tm.cmp,_root_.F.Tm.isN,_root_.F.Tm.not,_root_.F.Tm.tin,_root_.F.Tm.val,Wm.a1,Wm.ac,Wm.o1,Wm.oc,Em.ofV,Lw.G,Lw.g,Lx,Ki]):b.m=M:=h
def _root_.F.Lk.e{c:Nat->Addr}{W:Wd}{i k:Nat}{C:Ct}{st:Stmt}{ps:ϐ}{M:Ss}(n:Nat)(z:Bool)(l:List (Nat×Ct))(I:Ϙ)(B:Lk (Lx c) W)(b:Ms ((Lx c).G l I) (Lx c).t)(s:Src W.K W.mg ((Lx c).S.fA i) st ps)(u:(aa6 (Jd (aT st)).length n&&(Km (Jd (aT st)) ps (aT st)&&b.ck ((Lx c).S.at (Jd (aT st)) (aT st) J) (bZ st)))=J)(H:All (Lx c) W (k+1) l)(a:BJ (Lx c) W k I)(d:∀ds h Q x,C ds h Q x->ds.length=ps.length/\M (eA z h.length Q x) (jN n ds) h)(f:b.m=M:=by exact hO _):DX c W i (k+2) C:=by subst f;exact B.e0 n z l I b s u H a d
theorem _root_.F.Lk.pd{C:Nat->Addr}{W:Wd}{c k:Nat}{st:Stmt}{q:Str}{M:Ss}(N ps:ϐ)(z:Bool)(l:List (Nat×Ct))(i:Ϙ)(B:Lk (Lx C) W)(b:Ms ((Lx C).G l i) (Lx C).t)(s:qF W.K ((Lx C).ca c) q st ps)(H:W.mg ((Lx C).S.zI c)=O (.ref ((Lx C).ca c)))(u:(!Nat.ble 100 c&&(Km N ps (aT st)&&b.ck ((Lx C).S.at N (aT st) a') (bZ st)))=J)(f:All (Lx C) W (k+1) l)(a:BJ (Lx C) W k i)(d:∀ds h Q x,(Lx C).pd c ds h Q x->ds.length=ps.length/\M (eA z h.length Q λ_ _=>False) (jN N.length ds) h)(e:b.m=M:=by exact hO _):Di (Lx C) W c (k+2):=by subst e;exact B.agy N ps z l i b s H u f a d
def _root_.F.Lk.xh{C:Nat->Addr}{W:Wd}{c k:Nat}{st:Stmt}{q:Str}{ps:ϐ}{M:Ss}(n:Nat)(z:Bool)(l:List (Nat×Ct))(i:Ϙ)(B:Lk (Lx C) W)(b:Ms ((Lx C).G l i) (Lx C).t)(s:qG W.K ((Lx C).ca (c/100-1)) ((Lx C).S.zI c) q st ps)(u:(aa4 100 c&&(aa6 (Jd (aT st)).length n&&(Km (Jd (aT st)) ps (aT st)&&b.ck ((Lx C).S.at (Jd (aT st)) (aT st) J) (bZ st))))=J)(H:All (Lx C) W (k+1) l)(a:BJ (Lx C) W k i)(d:∀ds h Q x,(Lx C).pd c ds h Q x->ds.length=ps.length/\M (eA z h.length Q x) (jN n ds) h)(e:b.m=M:=by exact hO _):Di (Lx C) W c (k+2):=by subst e;exact B.agW n z l i b s u H a d
def _root_.F.Lk.eN{c:Nat->Addr}{W:Wd}{i k:Nat}{C:Ct}{st:Stmt}{ps:ϐ}{M:Ss}(N:ϐ)(z:Bool)(l:List (Nat×Ct))(I:Ϙ)(B:Lk (Lx c) W)(b:Ms ((Lx c).G l I) (Lx c).t)(s:Src W.K W.mg ((Lx c).S.fA i) st ps)(u:(Km N ps (aT st)&&b.ck ((Lx c).S.at N (aT st) J) (bZ st))=J)(H:All (Lx c) W (k+1) l)(a:BJ (Lx c) W k I)(d:∀ds h Q x,C ds h Q x->ds.length=ps.length/\M (eA z h.length Q x) (jN N.length ds) h)(e:b.m=M:=by exact hO _):DX c W i (k+2) C:=by subst e;exact B.eN0 N z l I b s u H a d
section
variable{ca:Nat->Addr}{W:Wd}
def uf(B:LX ca W)(S:SX W):DX ca W 0 2 (o9 yy):=by refine B.e (k:=0) 1 J [] [] (.re (.bo (Bm.ac (.bi j5 (.u2 0 (.ty 3))) (Bm.ac (.cmp vW (.bi da (.u 0)) (.i 0)) (Bm.a1 (.bi j5 (.u2 (.ix 0 (.i 0)) (.ty 0)))))))) S.s14 rfl trivial trivial (zJ λx Q c h=>?_);refine Ar h id (λ_=>id) (λ_=>id) (λ_ _=>id) (λX h=>?_) (λ_ _=>id) λ_ _ _=>id;cases X with|nil=>exact id|cons a r=>exact Ar (wX h) id (λ_=>id) (λ_=>id) (λ_ _=>id) (λ_ _=>id) (λ_ _=>id) λ_ _ _=>id
def j4(B:LX ca W)(S:SX W):DX ca W 1 2 (B9 eJ):=by refine B.e (k:=0) 1 J [] [] (.re (.tg 0 0)) S.s15 rfl trivial trivial (zJ λx Q X h q=>?_);revert q;exact lM h λw q=>q
def rE(B:LX ca W)(S:SX W):DX ca W 2 2 (B9 dI):=by refine B.e (k:=0) 1 J [] [] (.re (.tg 1 0)) S.s16 rfl trivial trivial (zJ λx Q X h q=>?_);revert q;exact lM h λw q=>q
noncomputable def sH:Pv->Bool|.str z=>!decide (z.cps.toList<("a":Str).cps.toList)&&!decide (("z":Str).cps.toList<z.cps.toList)|_=>a'
def aY:Pv->Bool|.str z=>aa4 1 z.length&&(aa4 z.length 6&&(ig z).all sH)|_=>a'
def kQ(a b:Int):Pv->Bool|.int i=>ic a i&&ic i b|_=>a'
def gD:Pv->Bool:=kQ 0 999999
abbrev JS:Ct:=X_ (λx a b=>dz x&&(isInt a&&isInt b)) λx a b=>.bl (kQ (sE a) (sE b) x)
def rS(f:Pv->Bool)(bs ls:ϑ)(k:Str)(p:Pv):Bool:=match aS k "number"with|true=>gD p|false=>match aS k "box"with|true=>aY p&&g8 p bs|false=>match aS k "list"with|true=>aY p&&g8 p ls|false=>f p
def xk(f:Pv->Bool)(bs ls:ϑ):Pv->Bool|.tup [k,p]=>rS f bs ls (d8 k) p|_=>a'
def qp(f:Pv->Bool)(bs ls:ϑ)(r:ϑ):Option ϐ->Bool|some k=>jT ((r.length+1:Nat):Int) (1+((k.map Pv.str).length:Nat))&&(iT (k.map .str) r).all (xk f bs ls)|none=>a'
def val:Nat->ϑ->ϑ->Pv->Bool|0,_,_,_=>a'|n+1,bs,l,.tup (.str w::r)=>qp (val n bs l) bs l r (lk w eJ)|_+1,_,_,_=>a'
abbrev Ts(n:Nat):Ct:=cA5 (λk p b l d=>dw k&&(dz p&&(ym b&&(ym l&&i_ n d)))) λk p b l d=>.bl (rS (val n (qT b) (qT l)) (qT b) (qT l) (d8 k) p)
abbrev nq(n:Nat):Ct:=AH (λx b l d=>dz x&&(ym b&&(ym l&&i_ n d))) λx b l d=>.bl (val n (qT b) (qT l) x)
abbrev xV:Ct:=X_ (λx b l=>dz x&&(ym b&&ym l)) λx b l=>.bl (val 4 (qT b) (qT l) x)
def yQ(h:aY p):uq p=true:=by cases p<;>first|rfl|cases h
def jr(B:LX ca W)(S:SX W):DX ca W 6 2 (o9 aY):=by refine B.e (k:=0) 1 J [] [] (.seq (.iff (.not (.val (.bi j5 (.u2 0 (.ty 0))))) (.re (.c (.bl a'))) .nil) (.re (.bo (Bm.ac (.ch NV NV (.i 1) (.bi da (.u 0)) (.g 0)) (Bm.a1 (.bi Hn (.u (.comp 1 [] (.one 0) (.c 0) .no (.ch NV NV (.s "a") 0 (.s "z")))))))))) S.s26 rfl trivial trivial (zJ λx Q X H=>?_);refine Ar H id (λ_=>id) (λ_=>id) (λz H q=>?_) (λ_ _=>id) (λ_ _=>id) λ_ _ _=>id;have hz:=dW (V2 H);refine aw hz (j3 (Q:=Q) q λ_ q=>j3 (Q:=Q) q λ_ q=>aw hz ?_);refine eX (λy=>.bl (sH y)) rfl (λy a=>?_) (qI q);have(c,_,rfl):=a0.mp a;exact λR q=>j3 (Q:=λd h=>R [d] h) q λ_ q=>q
def Cr(B:LX ca W)(S:SX W):DX ca W 7 2 JS:=by refine B.e (k:=0) 3 J [] [] (.seq (.iff (.bo (Wm.oc (.val (.bi j5 (.u2 0 (.ty 2)))) (Wm.o1 (.not (.val (.bi j5 (.u2 0 (.ty 1)))))))) (.re (.c (.bl a'))) .nil) (.re (.ch NV NV 1 0 2))) S.s27 rfl trivial trivial (ia λx a b Q X h=>?_);have(H,d,f):=dG h;refine KD d λa=>KD f λb=>?_;exact Ar H id (λ_=>id) (λi q=>j3 (Q:=Q) q λ_ q=>q) (λ_ _=>id) (λ_ _=>id) (λ_ _=>id) λ_ _ _=>id
def jS(B:LX ca W)(S:SX W):DX ca W 8 3 (o9 gD):=by refine B.e (k:=1) 1 J [(7,JS)] [] (.re (.cl 7 [] (.u3 0 (.i 0) (.g 1)))) S.s28 rfl (Cr B S,trivial) trivial (zJ λx Q X h q=>?_);exact aw (by show(dz x&&J)=J;rw[h];rfl) q
def Hh(B:LX ca W)(S:SX W)(n:Nat)(D:DX ca W 10 (2*n+3) (nq n)):DX ca W 11 (2*n+4) (Ts n):=by
 refine B.e (k:=2*n+2) 5 J [(8,o9 gD),(6,o9 aY),(10,nq n)] [] (.seq (.iff (.cmp hW 0 (.s "number")) (.re (.cl 8 [] (.u 1))) .nil) (.seq (.iff (.cmp hW 0 (.s "box")) (.re (.bo (Bm.ac (.cl 6 [] (.u 1)) (Bm.a1 (.cmp OD 1 2))))) .nil) (.seq (.iff (.cmp hW 0 (.s "list")) (.re (.bo (Bm.ac (.cl 6 [] (.u 1)) (Bm.a1 (.cmp OD 1 3))))) .nil) (.re (.cl 10 [] (.u4 1 2 3 4)))))) S.s31 rfl ((jS B S).le (by lia),(jr B S).le (by lia),D.le (by lia),trivial) trivial (hX5 λk p b l d Q x f=>?_);have(g,h,H,a,i):=Vp f;refine lM g λk=>Pp H λb H=>Pp a λl a=>C7 i λq=>?_;refine pG (Q:=Q) q (λ_ q=>aw h q) λ_ q=>pG (Q:=Q) q (λ_ q=>?_) λ_ q=>pG (Q:=Q) q (λ_ q=>?_) λ_ q=>?_;.exact aw h (j3 (Q:=Q) q λc q=>aw (by rw[yQ c];exact H) q)
 .exact aw h (j3 (Q:=Q) q λc q=>aw (by rw[yQ c];exact a) q)
 .exact aw (by show(dz p&&(fP b&&(fP l&&jT n n)))=J;rw[h,H,a,cB.mpr rfl];rfl) q
def ww:Nat->Ct|0=>Tr|n+1=>Ts n
def wW(B:LX ca W)(S:SX W)(n:Nat)(D:DX ca W 11 (2*n+2) (ww n)):DX ca W 10 (2*n+3) (nq n):=by refine B.e (k:=2*n+1) 5 J [(0,o9 yy),(1,B9 eJ),(11,ww n)] [] (.seq (.iff (.bo (Wm.oc (.cmp hW 3 (.i 0)) (Wm.o1 (.not (.val (.cl 0 [] (.u 0))))))) (.re (.c (.bl a'))) .nil) (.seq (.set 4 (.cl 1 [] (.u (.ix 0 (.i 0))))) (.seq (.iff (.bo (Wm.oc (.isN a' 4) (Wm.o1 (.cmp G6 (.bi da (.u 0)) (.b2 cC (.i 1) (.bi da (.u 4))))))) (.re (.c (.bl a'))) .nil) (.re (.bi Hn (.u (.comp 2 [1,2,3] (.many [0,1]) (.z (.u2 4 (.sl 0 (.of (.i 1)) .no))) .no (.cl 11 [] (.u5 0 1 2 3 (.b2 vU 4 (.i 1))))))))))) S.s30 rfl ((uf B S).le (by lia),(j4 B S).le (by lia),D,trivial) trivial (nT λx b l d Q s H=>?_);have(h,f,g,j):=iN H;cases n with|zero=>exact C7 j λq=>q|succ n=>refine Pp f λb f=>Pp g λl g=>C7 j λq=>aw h ?_;revert q;refine Ar h id (λ_=>id) (λ_=>id) (λ_ _=>id) (λX h=>?_) (λ_ _=>id) λ_ _ _=>id;cases X with|nil=>exact id|cons a r=>
   refine Ar (wX h) id (λ_=>id) (λ_=>id) (λw _=>?_) (λ_ _=>id) (λ_ _=>id) λ_ _ _=>id;refine λq=>LR (λK e=>?_) λe=>?_
   .have q:Q (.p (.bl (qp (val n b l) b l r (O K)))) []:=e▸q;refine mm (Q:=Q) q λ_ q=>?_;refine eX (λy=>.bl (xk (val n b l) b l y)) rfl (λy m=>?_) ?_;rotate_left;.exact qI q
    have(k,p,o,H,rfl):=nU m;have(k,_,rfl):=a0.mp o;exact λR q=>aw (by show(dz p&&(fP b&&(fP l&&jT ((n+1:Nat)-1) n)))=J;rw[eK h (ao _ H),f,g,cB.mpr (by lia)];rfl) q
   .have q:Q (.p (.bl (qp (val n b l) b l r af))) []:=e▸q;exact q
theorem An(B:LX ca W)(S:SX W):∀n,DX ca W 10 (2*n+3) (nq n)|0=>wW B S 0 (Dt.no S.s31)|n+1=>wW B S (n+1) (Hh B S n (An B S n))
def Cq(B:LX ca W)(S:SX W)(D:DX ca W 10 11 (nq 4)):DX ca W 9 12 xV:=by refine B.e (k:=10) 3 J [(10,nq 4)] [] (.re (.cl 10 [] (.u4 0 1 2 (.g 2)))) S.s29 rfl (D,trivial) trivial (ia λx b l Q X h q=>?_);exact aw (by have(H,h):=ah h;have(a,c):=ah h;show(dz x&&(ym b&&(ym l&&J)))=J;rw[H,a,c];rfl) q
noncomputable def Z8:List (Nat×(Pv->Bool))->Nat->Pv->Bool|[],_=>λ_=>a'|(j,g)::r,i=>match aa6 i j with|true=>g|false=>Z8 r i
def TY(l:List (Nat×(Pv->Bool))):Pv->Bool|.fn j=>gH j (l.map (·.1))|_=>a'
def gFn(l:List (Nat×(Pv->Bool))):Pv->Pv->Bool|.fn j=>Z8 l j|_=>λ_=>a'
@[elab_as_elim]def fnC{P:Pv->Prop}(h:TY l a)(k:∀j,gH j (l.map (·.1))=J->P (.fn j)):P a:=by cases a<;>first|exact k _ h|cases h
noncomputable def Z5(l:List (Nat×(Pv->Bool))):List (Nat×Ct):=l.map λp=>(p.1,o9 p.2)
def OQ:(Z5 l).map (·.1)=l.map (·.1):=by unfold Z5;rw[bK];rfl
theorem JU:∀{l:List (Nat×(Pv->Bool))}{j:Nat},gH j (l.map (·.1))=J->Ki (Z5 l) j=o9 (Z8 l j)|[],j,h=>by cases h|(i,g)::r,j,h=>by show(match aa6 j i with|true=>o9 g|false=>Ki (Z5 r) j)=o9 (match aa6 j i with|true=>g|false=>Z8 r j);have h:(aa6 j i||gH j (r.map (·.1)))=true:=h;cases e:aa6 j i with|true=>rfl|false=>rw[e]at h;exact JU h
def _root_.F.Lk.eT{L:Lw}{W:Wd}{i k:Nat}{C:Ct}{st:Stmt}(N ps:ϐ)(z:Bool)(l:List (Nat×(Pv->Bool)))(B:Lk L W)(b:Ms (L.g (λi=>o9 (Z8 l i)) (l.map (·.1)) []) L.t)(s:Src W.K W.mg (L.S.fA i) st ps)(u:(Km N ps (aT st)&&b.ck (L.S.at N (aT st) J) (bZ st))=J)(f:All L W (k+1) (Z5 l))(a:∀ds h Q x,C ds h Q x->ds.length=ps.length/\b.m (eA z h.length Q x) (jN N.length ds) h):Dt L W i (k+2) C:=B.d N ps z b s (oP (ah u).1) (ah u).2 (BI.of λj H=>by have z:=f.at j (by rw[OQ];exact H);rw[JU (b9.mpr H)]at z;exact z) trivial a
def lQ(m:Int)(g:Pv->Bool):Pv->Bool|.tup x=>ic (x.length:Nat) m&&x.all g|_=>a'
abbrev EX(l:List (Nat×(Pv->Bool))):Ct:=X_ (λx m f=>dz x&&(isInt m&&TY l f)) λx m f=>.bl (lQ (sE m) (gFn l f) x)
abbrev qJ(i:Nat)(g:Pv->Bool):Ct:=EX [(i,g)]
def C9:Pv->Bool|.tup [_,_]=>J|_=>a'
def iG:Pv->Bool|.tup [a,b]=>aY a&&gD b|_=>a'
def isList:Pv->Bool|.tup [a,b]=>aY a&&lQ 12 gD b|_=>a'
def eQ:Pv->Bool|.tup [a,b,c,d]=>aY a&&(lQ 3 aY b&&(lQ 3 aY c&&pY d))|_=>a'
noncomputable def cM:Pv->Pv|.tup (a::_)=>a|_=>.non
noncomputable def yw:Pv->Bool|.tup (_::_)=>J|_=>a'
def lA:Pv->ϑ|.tup x=>x.map cM|_=>[]
def Vn:Pv->Bool|.tup x=>x.all yw|_=>a'
abbrev tV:Ct:=JJ Vn λx=>.lst (lA x)
noncomputable def lX:Pv->ϑ|.tup [_,.tup b,.tup c,_]=>b++c|_=>[]
def CN:Pv->Bool|.tup [_,.tup b,.tup c,_]=>aa4 (b.length+c.length) n9|_=>a'
abbrev VL:Ct:=JJ CN λx=>.lst (lX x)
def jO(l:ϑ):ϐ:=l.map d8
def zt(l:ϑ):Bool:=Je (jO l)
def EQ:Pv->Bool|.lst l=>l.all dw&&aa4 l.length 60|_=>a'
abbrev xU:Ct:=JJ EQ λx=>.bl (zt (qT x))
theorem mP:∀{l m:ϐ},l.Nodup->(∀x∈l,x∈m)->l.length<=m.length|[],_,_,_=>bA _|x::r,m,h,k=>by have hx:=k x au;have(a,b):=cj.mp h;have:=mP (l:=r) (m:=m.erase x) b λy H=>(sB λe=>a (by rw[<-e];exact H)).mpr (k y (ao _ H));rw[U3 hx]at this;have p:0<m.length:=x_ hx;rw[ag];lia
theorem gz:∀{m:ϐ},¬m.Nodup->∃x,x∈m/\x∈m.erase x
 |[],h=>absurd fE h|y::r,h=>by
  by_cases H:y∈r;.exact(y,au,by rw[List.erase_cons_head];exact H)
  .have(x,a,b):=gz (m:=r) λz=>h (cj.mpr (H,z));have n:y≠x:=λe=>H (by rw[e];exact a);refine(x,ao _ a,?_);rw[List.erase_cons_tail (by simpa using n)];exact ao _ b
theorem p8:∀{l:ϐ},Je l=J↔l.Nodup|[]=>(λ_=>fE,λ_=>rfl)|x::r=>by refine(mO,λh=>?_);have(H,a):=cj.mp h;show(!jf x r&&Je r)=J;rw[p8.mpr a,a8.mpr λz=>H (jU z)];rfl
def Kk(ws:ϐ):(dE ws).length=ws.length↔ws.Nodup:=by
 have(n,m):=rH ws;have le:=mP n λx H=>(m x).mp H;refine(λe=>?_,λh=>?_)
 .refine Decidable.byContradiction λh=>?_;have(x,a,b):=gz h;have p:0<ws.length:=x_ a;have:(dE ws).length<=(ws.erase x).length:=mP n λy c=>by
   by_cases e:y=x;.rw[e];exact b
   .exact(sB e).mpr ((m y).mp c)
  rw[U3 a]at this;lia
 .have g:=mP h λx H=>(m x).mpr H;lia
theorem GA:∀{l:ϑ},l.all dw=J->kg l=O (jO l)|[],_=>rfl|x::r,h=>by rw[aG]at h;have(H,b):=ah h;revert H;refine lM (a:=x) (ah h).1 λz _=>?_;show(match kg r with|some ws=>O (z::ws)|none=>af)=_;rw[GA b];rfl
def iu(B:LX ca W)(S:SX W)(k:Nat)(l:List (Nat×(Pv->Bool)))(D:All (Lx ca) W (k+1) (Z5 l)):DX ca W 16 (k+2) (EX l):=by
 refine B.eT ["thing","most","is_one"] ["thing","most","is_one"] J l (.re (.bo (Bm.ac (.bi j5 (.u2 0 (.ty 3))) (Bm.ac (.cmp NV (.bi da (.u 0)) 1) (Bm.a1 (.bi Hn (.u (.comp 1 [2] (.one 0) (.s 0) .no (.clv [] 1 (.u 0)))))))))) S.s45 rfl D (ia λx m f Q X H=>?_);have(h,a,b):=dG H;refine KD a λm=>fnC b λj c=>?_;refine Ar h id (λ_=>id) (λ_=>id) (λ_ _=>id) (λe h q=>?_) (λ_ _=>id) λ_ _ _=>id;refine j3 (Q:=Q) q λ_ q=>?_;refine eX (λy=>.bl (Z8 l j y)) rfl (λy d=>?_) ?_;.refine λR q=>aw c (aw (eK h d) q)
 .exact qI q
def wR(B:LX ca W)(S:SX W):DX ca W 17 2 (o9 C9):=by refine B.e (k:=0) 1 J [] [] (.re (.bo (Bm.ac (.bi j5 (.u2 0 (.ty 3))) (Bm.a1 (.cmp hW (.bi da (.u 0)) (.i 2)))))) S.s46 rfl trivial trivial (zJ λx Q d h=>?_);refine Ar h id (λ_=>id) (λ_=>id) (λ_ _=>id) (λX h=>?_) (λ_ _=>id) λ_ _ _=>id;rcases X with _|⟨a,_|⟨b,_|⟨c,r⟩⟩⟩<;>exact id
def J4(B:LX ca W)(S:SX W):DX ca W 18 4 (o9 iG):=by
 refine B.e (k:=2) 1 J [(17,o9 C9),(6,o9 aY),(8,o9 gD)] [] (.re (.bo (Bm.ac (.cl 17 [] (.u 0)) (Bm.ac (.cl 6 [] (.u (.ix 0 (.i 0)))) (Bm.a1 (.cl 8 [] (.u (.ix 0 (.i 1))))))))) S.s47 rfl ((wR B S).up rfl,(jr B S).up rfl,jS B S,trivial) trivial (zJ λx Q d h q=>aw h ?_);revert q;refine Ar h id (λ_=>id) (λ_=>id) (λ_ _=>id) (λX h=>?_) (λ_ _=>id) λ_ _ _=>id;rcases X with _|⟨a,_|⟨b,_|⟨c,r⟩⟩⟩;.exact id
 .exact id
 .exact λq=>aw (wX h) (j3 (Q:=Q) q λ_ q=>aw (eK h (by simp)) q)
 .exact id
def Hg(B:LX ca W)(S:SX W)(U:DX ca W 16 4 (qJ 8 gD)):DX ca W 19 5 (o9 isList):=by
 refine B.e (k:=3) 1 J [(17,o9 C9),(6,o9 aY),(8,o9 gD),(16,qJ 8 gD)] [] (.re (.bo (Bm.ac (.cl 17 [] (.u 0)) (Bm.ac (.cl 6 [] (.u (.ix 0 (.i 0)))) (Bm.a1 (.cl 16 [] (.u3 (.ix 0 (.i 1)) (.g 6) (.f 8)))))))) S.s48 rfl ((wR B S).up rfl,(jr B S).up rfl,(jS B S).up rfl,U,trivial) trivial (zJ λx Q d h q=>aw h ?_);revert q;refine Ar h id (λ_=>id) (λ_=>id) (λ_ _=>id) (λX h=>?_) (λ_ _=>id) λ_ _ _=>id;rcases X with _|⟨a,_|⟨b,_|⟨c,r⟩⟩⟩;.exact id
 .exact id
 .exact λq=>aw (wX h) (j3 (Q:=Q) q λ_ q=>aw (by show(dz b&&J)=J;rw[eK h (by simp)];rfl) q)
 .exact id
def vZ(B:LX ca W)(S:SX W)(U:DX ca W 16 3 (qJ 6 aY)):DX ca W 20 4 (o9 eQ):=by
 refine B.e (k:=2) 1 J [(6,o9 aY),(16,qJ 6 aY)] [] (.seq (.iff (.bo (Wm.oc (.not (.val (.bi j5 (.u2 0 (.ty 3))))) (Wm.oc (.cmp G6 (.bi da (.u 0)) (.i 4)) (Wm.o1 (.not (.val (.cl 6 [] (.u (.ix 0 (.i 0)))))))))) (.re (.c (.bl a'))) .nil) (.seq (.iff (.bo (Wm.oc (.not (.val (.cl 16 [] (.u3 (.ix 0 (.i 1)) (.g 8) (.f 6))))) (Wm.o1 (.not (.val (.cl 16 [] (.u3 (.ix 0 (.i 2)) (.g 8) (.f 6)))))))) (.re (.c (.bl a'))) .nil) (.re (.bi j5 (.u2 (.ix 0 (.i 3)) (.ty 3)))))) S.s49 rfl ((jr B S).up rfl,U,trivial) trivial (zJ λx Q j h=>?_);refine Ar h id (λ_=>id) (λ_=>id) (λ_ _=>id) (λX h=>?_) (λ_ _=>id) λ_ _ _=>id;rcases X with _|⟨a,_|⟨b,_|⟨c,_|⟨d,_|⟨e,r⟩⟩⟩⟩⟩;.exact id
 .exact id
 .exact id
 .exact id
 .have h1:=eK (x:=b) h (by simp);have h2:=eK (x:=c) h (by simp);have H:=eK (x:=d) h (by simp);refine λq=>aw (wX h) ?_;refine mm (Q:=Q) q λ_ q=>aw (by show(dz b&&J)=J;rw[h1];rfl) ?_;refine mm (Q:=Q) q λ_ q=>aw (by show(dz c&&J)=J;rw[h2];rfl) ?_;refine mm (Q:=Q) q λ_ q=>?_;revert q;exact Ar H id (λ_=>id) (λ_=>id) (λ_ _=>id) (λ_ _=>id) (λ_ _=>id) λ_ _ _=>id
 .exact id
def ly(B:LX ca W)(S:SX W):DX ca W 21 2 tV:=by
 refine B.e (k:=0) 1 J [] [] (.re (.comp 1 [] (.one 0) (.s 0) .no (.ix 0 (.i 0)))) S.s50 rfl trivial trivial (zJ λx Q c h=>?_);cases x<;>first|(cases h;done)|skip
 rename_i X;intro q;refine eX cM rfl (λy H=>?_) q;have hz:=ai.mp (show X.all yw=J from h) y H;cases y<;>first|(cases hz;done)|skip
 rename_i Y;cases Y with|nil=>cases hz|cons a r=>exact λR q=>q
def rD(B:LX ca W)(S:SX W):DX ca W 22 2 VL:=by
 refine B.e (k:=0) 1 J [] [] (.re (.b2 cC (.bi Wa (.u (.ix 0 (.i 1)))) (.bi Wa (.u (.ix 0 (.i 2)))))) S.s51 rfl trivial trivial (zJ λx Q X h=>?_);unfold CN at h;split at h;.exact λq=>aw (dW (ap.mp h)) q
 .cases h
def pN(B:LX ca W)(S:SX W):DX ca W 23 2 xU:=by
 refine B.e (k:=0) 1 J [] [] (.re (.cmp hW (.abd 0) (.bi da (.u 0)))) S.s52 rfl trivial trivial (zJ λx Q X h=>?_);cases x<;>first|(cases h;done)|skip
 rename_i l;have(H,h2):=ah h;intro q;have n:(jO l).length=l.length:=ae _;have(N,m):=rH (jO l);have le:=mP N λx a=>(m x).mp a;have h2:=ap.mp h2;refine bC (GA H) (aw (ap.mpr (by lia)) ?_);have E:jT ((dE (jO l)).length:Nat) (l.length:Nat)=zt l:=by unfold zt;rw[gq,cB,p8,<-Kk,n];lia
 show Q (.p (.bl (jT ((dE (jO l)).length:Nat) (l.length:Nat)))) [];rw[E];exact q
structure Sc where
 bs:ϑ
 ls:ϑ
 ks:ϑ
 us:ϑ
 rt:Bool
noncomputable def Sc.pv(s:Sc):Pv:=.obj 3 [.lst s.bs,.lst s.ls,.dct s.ks s.us,.bl s.rt]
def Sc.ok(s:Sc):Bool:=fP s.bs&&(fP s.ls&&(s.ks.all dw&&(s.us.all isInt&&aa6 s.ks.length s.us.length)))
def ksO:Pv->ϑ|.dct k _=>k|_=>[]
def usO:Pv->ϑ|.dct _ u=>u|_=>[]
def KH:Pv->Bool|.dct _ _=>J|_=>a'
def W3:Pv->Bool|.bl _=>J|_=>a'
def Tl:Pv->Bool|.bl b=>b|_=>a'
@[elab_as_elim]def afv{P:Pv->Prop}(h:KH a)(k:∀x y,P (.dct x y)):P a:=by cases a<;>first|exact k _ _|cases h
@[elab_as_elim]def blC{P:Pv->Prop}(h:W3 a)(k:∀x,P (.bl x)):P a:=by cases a<;>first|exact k _|cases h
def Hq:Pv->ϑ|.obj _ fs=>fs|_=>[]
def ε(c:Nat):Pv->Bool|.obj d _=>aa6 d c|_=>a'
@[elab_as_elim]def ag9{P:Pv->Prop}(h:ε c a)(k:∀fs,P (.obj c fs)):P a:=by cases a<;>first|(rw[ax h];exact k _)|cases h
noncomputable def l4{α:Type}:List α->Bool|[_,_,_,_]=>J|_=>a'
@[elab_as_elim]def l4C{P:List α->Prop}(h:l4 l)(k:∀a b c d,P [a,b,c,d]):P l:=by rcases l with _|⟨a,_|⟨b,_|⟨c,_|⟨d,_|⟨e,r⟩⟩⟩⟩⟩<;>first|exact k _ _ _ _|cases h
noncomputable def JA(l:ϑ)(i:Nat):Pv:=l.getD i .non
def scL(l:ϑ):Sc:=(qT (JA l 0),qT (JA l 1),ksO (JA l 2),usO (JA l 2),Tl (JA l 3))
def io(x:Pv):Sc:=scL (Hq x)
def N8(x:Pv):Bool:=ε 3 x&&(l4 (Hq x)&&(AK (JA (Hq x) 0)&&(AK (JA (Hq x) 1)&&(KH (JA (Hq x) 2)&&W3 (JA (Hq x) 3)))&&(io x).ok))
@[elab_as_elim]def scC{P:Pv->Prop}(h:N8 a)(k:∀s:Sc,s.ok=J->P s.pv):P a:=by have(e,h):=ah h;revert h;refine ag9 e λfs h=>?_;have(H,h):=ah h;revert h;refine l4C (show l4 fs=J from H) λa b c d h=>?_;have(h,f):=ah h;have(H,g,i,j):=iN h;revert f;exact abj (show AK a=J from H) λa=>abj (show AK b=J from g) λb=>afv (show KH c=J from i) λx y=>blC (show W3 d=J from j) λd h=>k (a,b,x,y,d) h
def vd{s:Sc}(h:s.ok):N8 s.pv=true:=h
def oA(f:Pv->Bool)(s:Sc)(k:Str)(p:Pv):Bool:=match aS k "rows"with|true=>f p|false=>match aS k "value"with|true=>val 4 s.bs s.ls p|false=>match aS k "values"with|true=>pY p&&(rk p).all (val 4 s.bs s.ls)|false=>aY p&&match aS k "box"with|true=>g8 p s.bs|false=>match aS k "list"with|true=>g8 p s.ls|false=>match aS k "function"with|true=>(iO p s.ks s.us).isSome|false=>aS k "door"
def rR(f:Pv->Bool)(s:Sc):Pv->Bool|.tup [k,p]=>oA f s (d8 k) p|_=>a'
def Cb(s:Sc):ϑ->Bool
 |[_,f,.tup v]=>match iO f s.ks s.us with|some c=>jT (v.length:Nat) (sE c)|none=>a'
 |_=>a'
def D8(f:Pv->Bool)(s:Sc)(w:Str)(r:ϑ):Option ϐ->Bool|some k=>jT ((r.length+1:Nat):Int) (1+((k.map Pv.str).length:Nat))&&(!(aS w "return"&&!s.rt)&&((iT (k.map .str) r).all (rR f s)&&(!aS w "call"||Cb s r)))|none=>a'
noncomputable def b5(f:Pv->Bool):Pv->Bool|.tup x=>x.all f|_=>a'
@[elab_as_elim]def nR{P:Pv->Prop}(h:b5 f a)(k:∀xs,xs.all f=J->P (.tup xs)):P a:=by cases a<;>first|exact k _ h|cases h
def row:Nat->Sc->Pv->Bool|0,_,_=>a'|n+1,s,.tup (.str w::r)=>D8 (b5 (row n s)) s w r (lk w dI)|_+1,_,_=>a'
def b_(n:Nat)(s:Sc):Pv->Bool:=b5 (row n s)
abbrev JP(n:Nat):Ct:=AH (λk p s d=>dw k&&(dz p&&(N8 s&&i_ (5-n) d))) λk p s _=>.bl (oA (b_ n (io s)) (io s) (d8 k) p)
abbrev OJ(n:Nat):Ct:=X_ (λx s d=>dz x&&(N8 s&&i_ (6-n) d)) λx s _=>.bl (row n (io s) x)
abbrev zZ(n:Nat):Ct:=X_ (λx s d=>dz x&&(N8 s&&i_ (6-n) d)) λx s _=>.bl (b_ n (io s) x)
theorem yh:∀{ks us:ϑ},iO k ks us=O p->p∈us
 |[],_,h=>by cases h|_::_,[],h=>by cases h|K::ks,u::us,h=>by
  have h:(match De K k with|true=>O u|false=>iO k ks us)=O p:=h;split at h;.cases h;exact au
  .exact ao _ (yh h)
def j7(h:aY p):dw p=true:=by cases p<;>first|rfl|cases h
def Cz(B:LX ca W)(S:SX W)(D:DX ca W 9 12 xV)(n:Nat)(G:DX ca W 24 (3*n+12) (zZ n)):DX ca W 26 (3*n+13) (JP n):=by
 refine B.e (k:=3*n+11) 4 J [(24,zZ n),(9,xV),(6,o9 aY)] [] (.seq (.iff (.cmp hW 0 (.s "rows")) (.re (.cl 24 [] (.u3 1 2 (.b2 cC 3 (.i 1))))) .nil) (.seq (.iff (.cmp hW 0 (.s "value")) (.re (.cl 9 [] (.u3 1 (.fld 3 0 2) (.fld 3 1 2)))) .nil) (.seq (.iff (.cmp hW 0 (.s "values")) (.re (.bo (Bm.ac (.bi j5 (.u2 1 (.ty 3))) (Bm.a1 (.bi Hn (.u (.comp 1 [2] (.one 0) (.s 1) .no (.cl 9 [] (.u3 0 (.fld 3 0 1) (.fld 3 1 1)))))))))) .nil) (.seq (.iff (.not (.val (.cl 6 [] (.u 1)))) (.re (.c (.bl a'))) .nil) (.seq (.iff (.cmp hW 0 (.s "box")) (.re (.cmp OD 1 (.fld 3 0 2))) .nil) (.seq (.iff (.cmp hW 0 (.s "list")) (.re (.cmp OD 1 (.fld 3 1 2))) .nil) (.seq (.iff (.cmp hW 0 (.s "function")) (.re (.din a' 1 (.fld 3 2 2))) .nil) (.re (.cmp hW 0 (.s "door")))))))))) S.s55 rfl (G,D.le (by lia),(jr B S).le (by lia),trivial) trivial (nT λk p s d Q x a=>?_);have(b,h,H,g):=iN a;refine lM b λk=>scC H λs H=>C7 g λq=>?_;have hs:=H;have(f,F,l,H):=iN H;refine pG (Q:=Q) q (λ_ q=>?_) λ_ q=>pG (Q:=Q) q (λ_ q=>?_) λ_ q=>pG (Q:=Q) q (λ_ q=>?_) λ_ q=>?_;.refine aw ?_ q;show(dz p&&(N8 s.pv&&jT (5-n+1) (6-n)))=J;rw[h,vd hs,cB.mpr (by lia)];rfl
 .refine aw ?_ q;show(dz p&&(fP s.bs&&fP s.ls))=J;rw[h,f,F];rfl
 .revert q;refine Ar h id (λ_=>id) (λ_=>id) (λ_ _=>id) (λX h q=>?_) (λ_ _=>id) λ_ _ _=>id;refine eX (λy=>.bl (val 4 s.bs s.ls y)) rfl (λy j=>λR q=>?_) ?_;.refine aw ?_ q;show(dz y&&(fP s.bs&&fP s.ls))=J;rw[eK h j,f,F];rfl
  .exact qI q
 .refine aw h (mm (Q:=Q) q λc q=>?_);have fl:=yQ c;revert q;refine lM (j7 c) λp q=>?_;refine pG (Q:=Q) q (λ_ q=>aw f q) λ_ q=>pG (Q:=Q) q (λ_ q=>aw F q) λ_ q=>pG (Q:=Q) q (λ_ q=>q) λ_ q=>q
def QT(h:(!b)=a'):b=true:=by cases b<;>first|rfl|cases h
def ue(B:LX ca W)(S:SX W)(n:Nat)(D:DX ca W 25 (3*n+11) (OJ n)):DX ca W 24 (3*n+12) (zZ n):=by
 refine B.e (k:=3*n+10) 4 J [(25,OJ n)] [] (.seq (.iff (.not (.val (.bi j5 (.u2 0 (.ty 3))))) (.re (.c (.bl a'))) .nil) (.seq (.fo (.one 3) (.s 0) (.one (.iff (.not (.val (.cl 25 [] (.u3 3 1 2)))) (.re (.c (.bl a'))) .nil))) (.re (.c (.bl J))))) S.s53 rfl (D,trivial) trivial (ia λx s d Q X b=>?_);have(H,a,f):=dG b;refine scC a λs a=>C7 f ?_;refine Ar H id (λ_=>id) (λ_=>id) (λ_ _=>id) (λxs H q=>?_) (λ_ _=>id) λ_ _ _=>id;refine eW (λpre post σ h=>h=[]/\(∃v,σ=[O (.p (.tup xs)),O (.p s.pv),O (.p (.int (6-n))),v])/\xs.all (row n s)=post.all (row n s)) (rfl,(_,rfl),rfl) (λpre x post σ h e j=>?_) λσ h j=>?_
 .obtain⟨rfl,⟨v,rfl⟩,j⟩:=j;have g:x∈xs:=by rw[e];simp
  refine aw (by show(dz x&&(N8 s.pv&&jT (6-n) (6-n)))=J;rw[eK H g,vd a,cB.mpr rfl];rfl) ?_;rw[aG]at j;have q:Q (.p (.bl (xs.all (row n s)))) []:=q;rw[j]at q;exact mm (Q:=Q) q λc _=>(rfl,(_,rfl),by rw[j,show row n s x=J from c];rfl)
 .obtain⟨rfl,⟨v,rfl⟩,j⟩:=j;have q:Q (.p (.bl (xs.all (row n s)))) []:=q;rw[j]at q;exact q
def D':Nat->Ct|0=>Tr|n+1=>JP n
def wV(B:LX ca W)(S:SX W)(n:Nat)(D:DX ca W 26 (3*n+10) (D' n)):DX ca W 25 (3*n+11) (OJ n):=by refine B.e (k:=3*n+9) 4 J [(0,o9 yy),(2,B9 dI),(26,D' n)] [] (.seq (.iff (.bo (Wm.oc (.cmp vW 2 (.g 9)) (Wm.o1 (.not (.val (.cl 0 [] (.u 0))))))) (.re (.c (.bl a'))) .nil) (.seq (.set 3 (.cl 2 [] (.u (.ix 0 (.i 0))))) (.seq (.iff (.bo (Wm.oc (.isN a' 3) (Wm.o1 (.cmp G6 (.bi da (.u 0)) (.b2 cC (.i 1) (.bi da (.u 3))))))) (.re (.c (.bl a'))) .nil) (.seq (.iff (.bo (Wm.ac (.cmp hW (.ix 0 (.i 0)) (.s "return")) (Wm.a1 (.not (.val (.fld 3 3 1)))))) (.re (.c (.bl a'))) .nil) (.seq (.iff (.not (.val (.bi Hn (.u (.comp 2 [1,2] (.many [0,1]) (.z (.u2 3 (.sl 0 (.of (.i 1)) .no))) .no (.cl 26 [] (.u4 0 1 2 3))))))) (.re (.c (.bl a'))) .nil) (.re (.bo (Bm.oc (.cmp G6 (.ix 0 (.i 0)) (.s "call")) (Bm.o1 (.cmp hW (.bi da (.u (.ix 0 (.i 3)))) (.dix (.fld 3 2 1) (.ix 0 (.i 2))))))))))))) S.s54 rfl ((uf B S).le (by lia),(rE B S).le (by lia),D,trivial) trivial (ia λx s d Q L b=>?_);have(H,h,l):=dG b;cases n with|zero=>exact C7 l λq=>q|succ n=>refine scC h λs h=>C7 l λq=>?_;refine bB (λc=>absurd (cw.mp c) (by show ¬(5:Int)<6-(n+1:Nat);lia)) λ_=>aw H ?_;revert q;refine Ar H id (λ_=>id) (λ_=>id) (λ_ _=>id) (λX H=>?_) (λ_ _=>id) λ_ _ _=>id;cases X with|nil=>exact id|cons a r=>
   refine Ar (wX H) id (λ_=>id) (λ_=>id) (λw _=>?_) (λ_ _=>id) (λ_ _=>id) λ_ _ _=>id;refine λq=>LR (λks e=>?_) λe=>?_
   .have q:Q (.p (.bl (D8 (b_ n s) s w r (O ks)))) []:=e▸q;refine mm (Q:=Q) q λc q=>?_;refine Oz (Q:=Q) q λq=>?_;refine eX (λy=>.bl (rR (b_ n s) s y)) rfl (λy m=>?_) (qI ?_);.have(k,p,o,b,rfl):=nU m;have(k,_,rfl):=a0.mp o;refine λR q=>aw ?_ q;show(dz p&&(N8 s.pv&&jT (6-(n+1:Nat)) (5-n)))=J;rw[eK H (ao _ b),vd h,cB.mpr (by lia)];rfl
    refine mm (Q:=Q) q λt A=>W_ (Q:=Q) A λE F=>?_;have G:w="call":=aQ.mp (QT E);subst G;have e:O (["box","function","values"]:ϐ)=O ks:=e;cases e;have c:=cB.mp (show jT ((r.length+1:Nat):Int) (1+(3:Nat))=J from c);have I:r.length=3:=by lia
    obtain⟨x,f,v,rfl⟩:∃x f v,r=[x,f,v]:=by rcases r with _|⟨x,_|⟨f,_|⟨v,_|⟨z,r⟩⟩⟩⟩<;>first|exact(_,_,_,rfl)|(simp at I;done)
    have(_,C,j,_):=iN t;have C:(aY f&&(iO f s.ks s.us).isSome)=true:=C;have j:(pY v&&(rk v).all (val 4 s.bs s.ls))=true:=j;have(K,C):=ah C;have(u,hu):=cq.mp C;have(M,N,P,h):=iN h;have hi:=ai.mp (ah h).1 u (yh hu);revert F hu;refine lM (j7 K) λf=>adb (ah j).1 λv=>KD hi λu q hu=>?_;refine bC hu ?_;have q:Q (.p (.bl (match iO (.str f) s.ks s.us with|some c=>jT (v.length:Nat) (sE c)|none=>a'))) []:=q;rw[hu]at q;exact q
   .have q:Q (.p (.bl (D8 (b_ n s) s w r af))) []:=e▸q;exact q
theorem Ag(B:LX ca W)(S:SX W)(D:DX ca W 9 12 xV):∀n,DX ca W 25 (3*n+11) (OJ n)|0=>wV B S 0 (Dt.no S.s55)|n+1=>wV B S (n+1) (Cz B S D n (ue B S n (Ag B S D n)))
def rK:Pv->Bool|.tup [k,_]=>aS (d8 k) "rows"|_=>a'
noncomputable def IF:Pv->Pv|.tup [_,p]=>p|_=>.non
def uC(r:ϑ):Option ϐ->ϑ|some k=>((iT (k.map .str) r).filter rK).map IF|none=>[]
def mK:Pv->ϑ|.tup (.str w::r)=>uC r (lk w dI)|_=>[]
def uu:Pv->Bool|.tup (.str w::_)=>(lk w dI).isSome|_=>a'
abbrev JN:Ct:=JJ uu λx=>.lst (mK x)
def g9:Nat->Pv->Bool|0,_=>a'|n+1,x=>uu x&&(mK x).all (b5 (g9 n))
noncomputable def sum(f:Pv->Nat):ϑ->Nat|[]=>0|x::r=>f x+sum f r
def zm(f:Pv->Nat):Pv->Nat|.tup x=>sum f x|_=>0
def eu:Nat->Pv->Nat|0,_=>0|n+1,x=>1+sum (zm (eu n)) (mK x)
def vH(n:Nat):Pv->Nat:=zm (eu n)
theorem jl:∀{l r:ϑ},sum f (l++r)=sum f l+sum f r|[],r=>by show sum f r=0+sum f r;lia|x::l,r=>by show f x+sum f (l++r)=f x+sum f l+sum f r;rw[jl];lia
def B8(n:Nat):Ct:=λds h Q _=>rC ds λi r=>pC r λx r=>pC r λ_ r=>nC r (aC h λt g=>nC g (gd (aa6 i 0&&(b5 (g9 n) x&&aa4 (t.length+vH n x) n9)) (∀N:ϑ,N.length=t.length+vH n x->Q (.p .non) [.lst N])))
def afP{b:Ss}(H:∀xs a ts(Q:Dv->Hs->Prop)(X:XP),xs.all (g9 m)=J->ts.length+vH m (.tup xs)<=n9->(∀N:ϑ,N.length=ts.length+vH m (.tup xs)->Q (.p .non) [.lst N])->b (eA J 1 Q X) (jN n [.r 0,.p (.tup xs),.p a]) [.lst ts]):∀ds h Q X,B8 m ds h Q X->ds.length=3/\b (eA J h.length Q X) (jN n ds) h:=by intro ds h Q X c;unfold B8 at c;refine sJ c λi _ c=>iI c λx _ c=>iI c λ_ _ c=>fh c λc=>ae6 c λts _ c=>fh c λc=>?_;have(d,c):=bq c;have(f,e,d):=dG d;rw[ax f];refine(rfl,?_);revert c d;refine nR e λxs e c d=>?_;exact H xs _ _ Q X e (ap.mp d) c
def uh(B:LX ca W)(S:SX W):DX ca W 3 2 JN:=by
 refine B.e (k:=0) 1 J [] [] (.re (.comp 2 [] (.many [0,1]) (.z (.u2 (.ti 1 (.ix 0 (.i 0))) (.sl 0 (.of (.i 1)) .no))) (.one (.cmp hW 0 (.s "rows"))) 1)) S.s17 rfl trivial trivial (zJ λx Q X h=>?_);unfold uu at h;split at h;.rename_i w r;have(K,e):=cq.mp h;intro q;have q:Q (.p (.lst (uC r (lk w dI)))) []:=q;rw[e]at q;refine bC e (nz rK IF rfl (λy H=>?_) q);have(k,p,a,b,rfl):=nU H;have(k,_,rfl):=a0.mp a;exact(λR q=>q,λ_ R q=>q)
 .cases h
def PP:Nat->Ct|0=>Tr|n+1=>B8 n
def J1(B:LX ca W)(S:SX W)(n:Nat)(D:DX ca W 5 (n+2) (PP n)):DX ca W 5 (n+3) (B8 n):=by
 refine B.e (k:=n+1) 6 J [(3,JN),(5,PP n)] [] (.one (.fo (.one 3) (.s 1) (.seq (.set 4 (.bi da (.u 0))) (.seq (.ex (.mt fQ 0 (.u (.tup (.u3 4 3 2))))) (.one (.fo (.one 5) (.s (.cl 3 [] (.u 3))) (.one (.ex (.cl 5 [0] (.u3 0 5 4)))))))))) S.s21 rfl ((uh B S).le (by lia),D,trivial) trivial (afP λxs a b Q X m H q=>?_);have H:b.length+sum (eu n) xs<=n9:=H;refine eW (λpre post σ h=>(∃N,h=[.lst N]/\N.length=b.length+sum (eu n) pre)/\∃c v4 v,σ=[O (.r 0),O (.p (.tup xs)),O (.p a),c,v4,v]) ((b,rfl,rfl),_,_,_,rfl) (λpre x post σ h e j=>?_) λσ h j=>?_
 .obtain⟨⟨t,rfl,l1⟩,c,v4,v,rfl⟩:=j;have w:x∈xs:=by rw[e];simp
  have o:=ai.mp m x w;cases n with|zero=>exact xi o|succ n=>
   have ok:(uu x&&(mK x).all (b5 (g9 n)))=true:=o;have(z,d):=ah ok;rw[e,jl]at H;have H:b.length+(sum (eu (n+1)) pre+(eu (n+1) x+sum (eu (n+1)) post))<=n9:=H;have f:eu (n+1) x=1+sum (zm (eu n)) (mK x):=rfl;refine aw (dW (by lia)) ?_;refine aw z ?_;refine eW (λg R σ h=>(∃N,h=[.lst N]/\N.length=t.length+1+sum (zm (eu n)) g)/\∃v,σ=[O (.r 0),O (.p (.tup xs)),O (.p a),O (.p x),O (.p (.int (t.length:Nat))),v]) ((_,rfl,by rw[aa];rfl),_,rfl) (λg y R σ h E j=>?_) λσ h j=>?_
   .obtain⟨⟨T,rfl,l2⟩,v,rfl⟩:=j;have A:y∈mK x:=by rw[E];simp
    have i:=ai.mp d y A;rw[E,jl]at f;have f:eu (n+1) x=1+(sum (zm (eu n)) g+(vH n y+sum (zm (eu n)) R)):=f;refine aw (by show(b5 (g9 n) y&&aa4 (T.length+vH n y) n9)=J;rw[i,ap.mpr (by lia)];rfl) λl l3=>?_;refine((l,rfl,?_),_,rfl);rw[jl,l3,l2];show _=_+(_+(vH n y+0));lia
   .obtain⟨⟨T,rfl,l2⟩,v,rfl⟩:=j;refine((T,rfl,?_),_,_,_,rfl);rw[jl,l2,l1];show _=_+(_+(eu (n+1) x+0));lia
 .obtain⟨⟨t,rfl,l1⟩,c,v4,v,rfl⟩:=j;exact q _ l1
theorem ud(B:LX ca W)(S:SX W):∀n,DX ca W 5 (n+3) (B8 n)|0=>J1 B S 0 (Dt.no S.s21)|n+1=>J1 B S (n+1) (ud B S n)
theorem Fc:∀{ks:ϑ},ks.all dw=J->jf k (jO ks)=a'->As (.str k) ks=a'|[],_,_=>rfl|x::r,h,n=>by rw[aG]at h;have(H,a):=ah h;revert n;refine lM H λz n=>?_;have n:(aS k z||jf k (jO r))=false:=n;have(N,b):=QD.mp n;show(aS z k||As (.str k) r)=a';rw[Fc a b,zB];exact a8.mpr λe=>by rw[aQ.mpr (aQ.mp e).symm]at N;cases N
theorem AF:∀{a b:ϐ},jf k (a++b)=(jf k a||jf k b)|[],_=>rfl|x::r,b=>by show(aS k x||jf k (r++b))=(aS k x||jf k r||jf k b);rw[AF,Bool.or_assoc]
theorem Ap:∀{ks us ks' us':ϑ},ks.length=us.length->ks.all dw->ks'.all dw->Je (jO ks)->(∀x∈jO ks,jf x (jO ks')=a')->yg ks us (ks',us')=(ks'++ks,us'++us)
 |[],[],ks',us',_,_,_,_,_=>by rw[aI,aI];rfl|[],_::_,_,_,h,_,_,_,_=>by cases h|_::_,[],_,_,h,_,_,_,_=>by cases h|k::ks,u::us,ks',us',l,b,c,H,a=>by
  rw[aG]at b;have(g,G):=ah b;revert H a;refine lM g λz H a=>?_;have H:(!jf z (jO ks)&&Je (jO ks))=true:=H;have(n,N):=ah H;have d:=Fc c (a z au);show yg ks us (rF (.str z) ks',rG (.str z) u ks' us')=_;have E:rF (.str z) ks'=ks'++[.str z]:=by unfold rF;rw[d]
  have i:rG (.str z) u ks' us'=us'++[u]:=by unfold rG;rw[d]
  rw[E,i,Ap (ks:=ks) (us:=us) (by simpa using l) G (by rw[aX,c];rfl) N λx f=>?_];.simp
  .have:jO (ks'++[Pv.str z])=jO ks'++[z]:=by unfold jO;rw[aq];rfl
   rw[this,AF,a x (ao _ f)];show(aS x z||a')=a';rw[zB];exact a8.mpr λe=>by have:=aQ.mp e;rw[<-this]at n;rw[pU f]at n;cases n
def lu(f:Pv):Pv:=.int ((rk (JA (rk f) 1)).length:Nat)
def uT(f:Pv):Pv:=.tup [cM f,lu f]
theorem F8:∀{fs:ϑ},(fs.map cM).all dw=J->rW (fs.map uT)=O (fs.map cM,fs.map lu)|[],_=>rfl|x::r,h=>by rw[aH,aG]at h;have(H,a):=ah h;show(match oW (cM x),rW (r.map uT)with|some _,O (k,v)=>O (Prod.mk (cM x::k) (lu x::v))|_,_=>af)=_;rw[F8 a];have:oW (cM x)=O (.inr (d8 (cM x))):=lM H λz=>rfl;rw[this];rfl
@[elab_as_elim]def ik{P:Pv->Prop}(h:lQ m g a)(k:∀xs,(xs.length:Int)<=m->xs.all g->P (.tup xs)):P a:=by
 cases a<;>first|(cases h;done)|skip
 exact k _ (bM.mp (ah h).1) (ah h).2
def Uc(x:Pv):Bool:=yw x&&dw (cM x)
def yR(h:iG x):Uc x=true:=by
 unfold iG at h;split at h;.exact(j7 (ah h).1:dw _=J)
 .cases h
def uP(h:isList x):Uc x=true:=by
 unfold isList at h;split at h;.exact(j7 (ah h).1:dw _=J)
 .cases h
def FI(h:eQ x):Uc x=true:=by
 unfold eQ at h;split at h;.exact(j7 (ah h).1:dw _=J)
 .cases h
def c8(i:∀x,f x=J->g x){xs:ϑ}(h:xs.all f):xs.all g=true:=ai.mpr λx H=>i x (ai.mp h x H)
def jk{xs:ϑ}(h:xs.all Uc):xs.all yw=true:=c8 (λ_ h=>(ah h).1) h
def iw{xs:ϑ}(h:xs.all Uc):(xs.map cM).all dw=true:=by rw[eh];exact c8 (λ_ h=>(ah h).2) h
theorem rg:∀{l:ϑ},l.all dw=J->fP l=J|[],_=>rfl|x::r,h=>by rw[aG]at h;have(H,a):=ah h;show(uq x&&fP r)=J;rw[rg a];exact lM H λ_=>rfl
def Fh(h:eQ x):CN x/\(lX x).all dw/\(lX x).length<=6:=by
 unfold eQ at h;split at h
 .rename_i a b c d;have(_,H,e,h):=iN h;refine ik H λb l1 B=>ik e λc l2 C=>?_;refine(ap.mpr (aE (show b.length+c.length<=6 by lia) (by ext)),?_,?_);.show(b++c).all dw=J;rw[aX,c8 (λ_=>j7) B,c8 (λ_=>j7) C];rfl
  .show(b++c).length<=6;rw[aa];lia
 .cases h
def mS(g:Pv):Pv:=JA (rk g) 3
@[elab_as_elim]def Ko{P:Pv->Prop}(h:eQ x)(k:∀a b c d,(b.length:Int)<=3->P (.tup [a,.tup b,.tup c,d])):P x:=by
 unfold eQ at h;split at h;.rename_i a b c d;have(_,H,e,h):=iN h;exact ik H λb l1 B=>ik e λc l2 C=>k a b c d l1
 .cases h
def mY(b l:Pv):Bool:=lQ 6 iG b&&(lQ 3 isList l&&zt (lA b++lA l))
def lB(t:ϑ)(f:Pv):Bool:=lQ 4 eQ f&&(zt (lA f)&&(rk f).all λg=>zt (t++lX g))
def jM(b l f:Pv)(o:ϑ)(rt:Bool):Sc:=(lA b++o,lA l,lA f,(rk f).map lu,rt)
def qZ(b l f r:Pv):Bool:=((rk f).all λg=>b_ 5 (jM b l f (lX g) J) (mS g))&&b_ 5 (jM b l f [] a') r
def iS(g:Pv):Nat:=1+vH 5 (mS g)
def mW(f r:Pv):Nat:=sum iS (rk f)+vH 5 r
def kH(q:br (a&&b) Y Z)(k:a->br b Y Z->X):br (!a) Z X:=by cases a with|true=>exact k rfl q|false=>exact q
def ES(q:br a Y Z):br (!a) Z Y:=by cases a<;>exact q
def ND(c:Bool)(n:Nat)(o:Option Nat):Option Nat:=match c with|true=>o|false=>O n
def Ez{K:Prop}(q:ie (ND c n o) X K)(k:c->ie o X K->Y):br c Y (X n):=by cases c with|true=>exact k rfl q|false=>exact q
def ZD{K:Prop}(q:ie (ND (!c) n o) X K)(k:ie o X K->Y):br c (X n) Y:=by cases c with|true=>exact q|false=>exact k q
def wD(b l f r:Pv):Option Nat:=ND (mY b l) 0 (ND (lB (lA b++lA l) f) 0 (ND (pY r) 0 (ND (qZ b l f r) 1 (ND (!jv 60 (mW f r:Nat)) 2 af))))
abbrev JR:Ct:=S' (λb l=>dz b&&dz l) λb l K X=>br (mY b l) (K .non) (X 0)
def PU:Pv->Bool|.lst l=>l.all dw&&aa4 l.length 9|_=>a'
@[elab_as_elim]def agZ{P:Pv->Prop}(h:PU x)(k:∀l,l.all dw=J->l.length<=9->P (.lst l)):P x:=by
 cases x<;>first|(cases h;done)|skip
 exact k _ (ah h).1 (ap.mp (ah h).2)
abbrev JL:Ct:=S' (λf t=>dz f&&PU t) λf t K X=>br (lB (qT t) f) (K .non) (X 0)
def np(h:l.all dw)(H:l.length<=60):EQ (.lst l)=true:=by show(l.all dw&&aa4 l.length 60)=J;rw[h,ap.mpr H];rfl
def pP(B:LX ca W)(S:SX W)(U:DX ca W 16 6 (EX [(18,iG),(19,isList)]))(D:DX ca W 18 4 (o9 iG))(d:DX ca W 19 5 (o9 isList)):DX ca W 13 7 JR:=by
 refine B.e (k:=5) 2 J [(16,EX [(18,iG),(19,isList)]),(21,tV),(23,xU),(18,o9 iG),(19,o9 isList)] [] (.seq (.iff (.not (.val (.cl 16 [] (.u3 0 (.g 4) (.f 18))))) (.one (.raise 0 (.s "boxes are a tuple of 0 to 6 pairs of a name and a number"))) .nil) (.seq (.iff (.not (.val (.cl 16 [] (.u3 1 (.g 5) (.f 19))))) (.one (.raise 0 (.s "lists are a tuple of 0 to 3 pairs of a name and a tuple of 0 to 12 numbers"))) .nil) (.one (.iff (.not (.val (.cl 23 [] (.u (.b2 cC (.cl 21 [] (.u 0)) (.cl 21 [] (.u 1))))))) (.one (.raise 0 (.s "two boxes or lists have one name"))) .nil)))) S.s42 rfl (U,(ly B S).up rfl,(pN B S).up rfl,D.up rfl,d.up rfl,trivial) trivial (oe λb l Q x h c=>?_);have(H,i):=ah h;have c:br (mY b l) (Q (.p .non) []) (x 0 []):=c;refine aw (by show(dz b&&J)=J;rw[H];rfl) (kH (a:=lQ 6 iG b) (Z:=x 0 []) c λC c=>?_);refine aw (by show(dz l&&J)=J;rw[i];rfl) (kH (a:=lQ 3 isList l) (Z:=x 0 []) c λj c=>?_);revert c;refine ik C λb l1 m=>ik j λl l2 b2 c=>?_;have n1:=c8 (λ_=>yR) m;have n2:=c8 (λ_=>uP) b2;have L:(b.map cM++l.map cM).length<=9:=by rw[aa,ae,ae];lia
 refine aw (jk n1) (aw (jk n2) (aw (dW (aE (by rw[aa]at L;exact L) (by ext))) (aw (np (l:=b.map cM++l.map cM) (by rw[aX,iw n1,iw n2];rfl) (by lia)) ?_)));exact ES c
def pO(B:LX ca W)(S:SX W)(U:DX ca W 16 5 (qJ 20 eQ))(D:DX ca W 20 4 (o9 eQ)):DX ca W 14 6 JL:=by
 refine B.e (k:=4) 3 J [(16,qJ 20 eQ),(21,tV),(22,VL),(23,xU),(20,o9 eQ)] [] (.seq (.iff (.not (.val (.cl 16 [] (.u3 0 (.g 7) (.f 20))))) (.one (.raise 0 (.s "functions are a tuple of 0 to 4 tuples of a name, params, owns and rows"))) .nil) (.seq (.iff (.not (.val (.cl 23 [] (.u (.cl 21 [] (.u 0)))))) (.one (.raise 0 (.s "two functions have one name"))) .nil) (.one (.fo (.one 2) (.s 0) (.one (.iff (.not (.val (.cl 23 [] (.u (.b2 cC 1 (.cl 22 [] (.u 2))))))) (.one (.raise 0 (.s "a param or an own has another one's name, or a box's or a list's"))) .nil)))))) S.s43 rfl (U,(ly B S).up rfl,(rD B S).up rfl,(pN B S).up rfl,D.up rfl,trivial) trivial (oe λf t Q X H c=>?_);have(d,i):=ah H;have c:br (lB (qT t) f) (Q (.p .non) []) (X 0 []):=c;revert c;refine agZ i λt T m c=>?_;refine aw (by show(dz f&&J)=J;rw[d];rfl) (kH (a:=lQ 4 eQ f) (Z:=X 0 []) c λC c=>?_);revert c;refine ik C λf l1 b c=>?_;have n1:=c8 (λ_=>FI) b;refine aw (jk n1) (aw (np (l:=f.map cM) (iw n1) (by rw[ae];lia)) (kH (a:=zt (f.map cM)) (Z:=X 0 []) c λn c=>?_));refine eW (λpre post σ h=>h=[]/\(∃v,σ=[O (.p (.tup f)),O (.p (.lst t)),v])/\br (post.all λg=>zt (t++lX g)) (Q (.p .non) []) (X 0 [])) (rfl,(_,rfl),c) (λpre x post σ h e j=>?_) λσ h j=>?_;.obtain⟨rfl,⟨v,rfl⟩,j⟩:=j;have(o1,o,q):=Fh (ai.mp b x (by rw[e];simp));refine aw o1 (aw (dW (aE (show t.length+(lX x).length<=15 by lia) (by ext))) (aw (np (by rw[aX,T,o];rfl) (by rw[aa];lia)) ?_));rw[aG]at j;exact kH (a:=zt (t++lX x)) (Z:=X 0 []) j λ_ j=>(rfl,(_,rfl),j)
 .obtain⟨rfl,⟨v,rfl⟩,j⟩:=j;exact j
theorem EB(i:∀k p,f (.tup [.str k,p])=J->aS k "rows"=J->g p):∀{ks:ϐ}{r:ϑ},(iT (ks.map .str) r).all f=J->(((iT (ks.map .str) r).filter rK).map IF).all g=J|[],_,_=>rfl|_::_,[],_=>rfl|k::ks,p::r,h=>by have h:(f (.tup [.str k,p])&&(iT (ks.map .str) r).all f)=true:=h;have(a,H):=ah h;show(((Pv.tup [.str k,p]::iT (ks.map .str) r).filter rK).map IF).all g=J;cases e:aS k "rows"with|true=>rw[cD (show rK (.tup [.str k,p])=J from e)];show(g p&&_)=J;rw[i k p a e];exact EB i H|false=>rw[jn (by show ¬aS k "rows"=J;rw[e];exact aL)];exact EB i H
def u0(h:row (n+1) s x):∃w r,x=.tup (.str w::r)/\D8 (b5 (row n s)) s w r (lk w dI)=true:=by cases x with
 |tup X=>cases X with|nil=>exact xi h|cons a r=>cases a with|str w=>exact(w,r,rfl,h)|_=>exact xi h
 |_=>exact xi h
theorem Ea:∀{n:Nat}{x:Pv},row n s x=J->g9 n x=J|0,_,h=>by cases h|n+1,x,h=>by have(w,r,e0,h):=u0 h;rw[e0];show((lk w dI).isSome&&(uC r (lk w dI)).all (b5 (g9 n)))=J;cases e:lk w dI with|none=>rw[e]at h;cases h|some K=>rw[e]at h;have(_,_,h,_):=iN h;refine EB (λk p H a=>?_) h;have H:oA (b5 (row n s)) s k p=true:=H;unfold oA at H;rw[a]at H;exact nR H λX b=>c8 (λy c=>Ea c) b
def Gg(h:b_ n s x):b5 (g9 n) x=true:=nR h λX H=>c8 (λy a=>Ea a) H
theorem Nb(i:∀x,f x<=eZ x):∀xs,sum f xs<=dg xs|[]=>ay _|x::r=>Oe (i x) (Nb i r)
theorem NN(i:∀x,f x<=eZ x):∀(ks:ϐ)(r:ϑ),sum f (((iT (ks.map .str) r).filter rK).map IF)<=dg r|[],_=>bA _|_::_,[]=>ay _|k::ks,p::r=>by show sum f (((Pv.tup [.str k,p]::iT (ks.map .str) r).filter rK).map IF)<=eZ p+dg r;have h1:=NN i ks r;have h2:=i p;cases e:aS k "rows"with|true=>rw[cD (show rK (.tup [.str k,p])=J from e)];show f p+_<=_;lia|false=>rw[jn (by show ¬aS k "rows"=J;rw[e];exact aL)];lia
def GD(i:∀x,f x<=eZ x)(x:Pv):zm f x<=eZ x:=by cases x with|tup X=>have:=Nb i X;show sum f X<=1+dg X;lia|_=>exact bA _
def KA(i:∀x,f x<=eZ x)(x:Pv):1+sum f (mK x)<=eZ x:=by
 have h:=R1 x;unfold mK;split;.rename_i w r;show 1+sum f (uC r (lk w dI))<=1+(eZ (.str w)+dg r);cases lk w dI with|none=>show 1+0<=_;lia|some k=>have H:sum f (uC r (O k))<=dg r:=NN i k r;lia
 .show 1+0<=_;lia
theorem E3:∀(n:Nat)(x:Pv),eu n x<=eZ x|0,_=>bA _|n+1,x=>KA (GD (E3 n)) x
def JV(n:Nat)(x:Pv):vH n x<=eZ x:=GD (E3 n) x
def Sz(h:eQ g):iS g<=eZ g:=by refine Ko h λa b c d _=>?_;have:=JV 5 d;show 1+vH 5 d<=1+(eZ a+(eZ (.tup b)+(eZ (.tup c)+(eZ d+0))));lia
theorem GF(i:∀x,g x=J->f x<=eZ x):∀{xs:ϑ},xs.all g=J->sum f xs<=dg xs|[],_=>ay _|x::r,h=>by rw[aG]at h;exact Oe (i x (ah h).1) (GF i (ah h).2)
def AD(g:Pv):Bool:=eQ g&&b5 (g9 5) (mS g)
def pX:Pv->Bool|.tup [_,_,f,r]=>pY f&&((rk f).all AD&&(b5 (g9 5) r&&aa4 (mW f r) n9))|_=>a'
def ahN:Pv->Nat|.tup [_,_,f,r]=>mW f r|_=>0
@[elab_as_elim]def prC{P:Pv->Prop}(h:pX x)(k:∀b l f r,f.all AD=J->b5 (g9 5) r->sum iS f+vH 5 r<=n9->P (.tup [b,l,.tup f,r])):P x:=by
 unfold pX at h;split at h;.have(c,H,d,a):=iN h;revert H a;exact adb c λf H a=>k _ _ f _ H d (ap.mp a)
 .cases h
abbrev xS:Ct:=mu pX λx K=>∀t:ϑ,t.length=ahN x->K (.lst t)
def VN:Pv->Bool|.tup [b,l,f,r]=>dz (.tup [b,l,f,r])&&(mY b l&&(lB (lA b++lA l) f&&pY r))|_=>a'
def RQ:Pv->Bool|.tup [b,l,f,r]=>qZ b l f r|_=>a'
@[elab_as_elim]def afn{P:Pv->Prop}(h:VN x)(k:∀b l f r,dz (.tup [b,l,f,r])=J->mY b l->lB (lA b++lA l) f->pY r->P (.tup [b,l,f,r])):P x:=by
 unfold VN at h;split at h;.have(H,a,c,d):=iN h;exact k _ _ _ _ H a c d
 .cases h
abbrev VG:Ct:=Tt VN λx K X=>br (RQ x) (K .non) (X 1)
abbrev JO:Ct:=lO (λb l f r=>dz (.tup [b,l,f,r])) λb l f r K X=>ie (wD b l f r) X (K (.tup [b,l,f,r]))
def UO(n:b.all Uc)(N:l.all Uc)(n3:f.all Uc)(h:o.all dw):(jM (.tup b) (.tup l) (.tup f) o rt).ok=true:=by show(fP (b.map cM++o)&&(fP (l.map cM)&&((f.map cM).all dw&&((f.map lu).all isInt&&aa6 (f.map cM).length (f.map lu).length))))=J;rw[rg (by rw[aX,iw n,h];rfl),rg (iw N),iw n3,show(f.map lu).all isInt=J by rw[eh];exact ai.mpr λ_ _=>rfl,ae,ae,fU];rfl
def Hi(B:LX ca W)(S:SX W)(D:DX ca W 5 8 (B8 5)):DX ca W 4 9 xS:=by
 refine B.e (k:=7) 4 J [(5,B8 5)] [] (.seq (.set 1 (.tH .nil)) (.seq (.fo (.one 2) (.s (.ix 0 (.i 2))) (.seq (.set 3 (.bi da (.u 1))) (.seq (.ex (.mt fQ 1 (.u (.tup (.u3 3 (.tup (.u2 (.s "def") (.ix 2 (.i 0)))) (.g 3)))))) (.one (.ex (.cl 5 [0] (.u3 1 (.ix 2 (.i 3)) 3))))))) (.seq (.ex (.cl 5 [0] (.u3 1 (.ix 0 (.i 3)) (.g 3)))) (.re 1)))) S.s20 rfl (D,trivial) trivial (zJ λx Q X o=>?_);refine prC o λb l f r w y H q=>?_;have q:∀t:ϑ,t.length=sum iS f+vH 5 r->Q (.p (.lst t)) []:=q;refine eW (λpre post σ h=>(∃t,h=[.lst t]/\t.length=sum iS pre)/\∃v m,σ=[O (.p (.tup [b,l,.tup f,r])),O (.r 0),v,m]) (([],rfl,rfl),_,_,rfl) (λpre x post σ h e j=>?_) λσ h j=>?_;.obtain⟨⟨t,rfl,l1⟩,v,m,rfl⟩:=j;have(z,G):=ah (ai.mp w x (by rw[e];simp):AD x);rw[e,jl]at H;have H:sum iS pre+(1+vH 5 (mS x)+sum iS post)+vH 5 r<=n9:=H;revert G H;refine Ko z λa n c d _ G H=>?_;have H:sum iS pre+(1+vH 5 d+sum iS post)+vH 5 r<=n9:=H;have A:iS (.tup [a,.tup n,.tup c,d])=1+vH 5 d:=rfl;refine aw (dW (by lia)) ?_;refine aw (by show(b5 (g9 5) d&&aa4 ((t++[_]).length+vH 5 d) n9)=J;rw[show b5 (g9 5) d=J from G,aa,ap.mpr (by show t.length+1+vH 5 d<=n9;lia)];rfl) λT l3=>?_;refine((T,rfl,?_),_,_,rfl);rw[aa]at l3;rw[jl,l3,l1];show _+1+_=_+(iS (.tup [a,.tup n,.tup c,d])+0);lia
 .obtain⟨⟨t,rfl,l1⟩,v,m,rfl⟩:=j;refine aw (by show(b5 (g9 5) r&&aa4 (t.length+vH 5 r) n9)=J;rw[y,ap.mpr (by lia)];rfl) λT l3=>?_;exact q T (by rw[l3,l1])
def O6(B:LX ca W)(S:qF W.K (ca 3) "Scope.__init__" (gj (top 36) 0) ["self","boxes","lists","param_counts","may_return"])(x:W.mg "Scope"=O (.ref (ca 3))):Di (Lx ca) W 3 2:=by refine Lk.pd (c:=3) (k:=0) ["self","boxes","lists","param_counts","may_return"] ["self","boxes","lists","param_counts","may_return"] J [] [] B (.seq (.oN 3 0 1 0) (.seq (.oN 3 1 2 0) (.seq (.oN 3 2 3 0) (.one (.oN 3 3 4 0))))) S x rfl trivial trivial λds h Q X c=>?_;change W0 3 ds h Q X at c;unfold W0 at c;refine sJ c λi _ c=>iI c λ_ _ c=>iI c λ_ _ c=>iI c λ_ _ c=>iI c λ_ _ c=>fh c λc=>agE c λj _ c=>fh c λc=>?_;have(H,c):=bq c;have(H,a):=ah H;rw[ax H,ax a];exact(rfl,c)
def yb(B:LX ca W)(S:SX W)(G:DX ca W 24 27 (zZ 5))(I:Di (Lx ca) W 3 2):DX ca W 15 28 VG:=by
 refine B.eN (k:=26) ["program","boxes","lists","functions","rows","param_counts","function","scope"] J [(21,tV),(22,VL),(24,zZ 5)] [3] (.seq (.unp [1,2,3,4] 0) (.seq (.set 5 (.bi afH (.u (.comp 1 [] (.one 0) (.s 3) .no (.tup (.u2 (.ix 0 (.i 0)) (.bi da (.u (.ix 0 (.i 1)))))))))) (.seq (.fo (.one 6) (.s 3) (.seq (.set 7 (.new 3 (.u4 (.b2 cC (.cl 21 [] (.u 1)) (.cl 22 [] (.u 6))) (.cl 21 [] (.u 2)) 5 (.c (.bl J))))) (.one (.iff (.not (.val (.cl 24 [] (.u3 (.ix 6 (.i 3)) 7 (.i 1))))) (.one (.raise 1 (.s "a row of a function is none"))) .nil)))) (.one (.iff (.not (.val (.cl 24 [] (.u3 4 (.new 3 (.u4 (.cl 21 [] (.u 1)) (.cl 21 [] (.u 2)) 5 (.c (.bl a')))) (.i 1))))) (.one (.raise 1 (.s "a row of the program is none"))) .nil))))) S.s44 rfl ((ly B S).up rfl,(rD B S).up rfl,G,trivial) (I.le (by lia),trivial) (zJ λp Q X E c=>?_);revert c;refine afn E λb l f r t K H h3 c=>?_;have D:dz f=true:=eK t (by simp);have L:dz r=true:=eK t (by simp);have(M,N,_):=dG K;have(P,F,H):=dG H;have c:br (qZ b l f r) (Q (.p .non) []) (X 1 []):=c;revert c F H D;refine ik M λb lb T=>ik N λl ll U=>ik P λf lf A D F H c=>?_;have n1:=c8 (λ_=>yR) T;have n2:=c8 (λ_=>uP) U;have n3:=c8 (λ_=>FI) A;refine eX uT rfl (λy Y=>?_) ?_;.have z:=ai.mp A y Y;refine Ko z λa b c d _=>?_;exact λR q=>q
 refine bC (F8 (iw n3)) ?_;refine aw (ap.mpr (by show(f.map cM).length<=100;rw[ae];lia)) ?_;have e1:=Ap (ks:=f.map cM) (us:=f.map lu) (ks':=[]) (us':=[]) (by rw[ae,ae]) (iw n3) rfl F λ_ _=>rfl;rw[lS,lS]at e1;dsimp only;rw[e1];refine eW (λpre post σ h=>h=[]/\(∃v m,σ=[O (.p (.tup [.tup b,.tup l,.tup f,r])),O (.p (.tup b)),O (.p (.tup l)),O (.p (.tup f)),O (.p r),O (.p (.dct (f.map cM) (f.map lu))),v,m])/\br ((post.all λg=>b_ 5 (jM (.tup b) (.tup l) (.tup f) (lX g) J) (mS g))&&b_ 5 (jM (.tup b) (.tup l) (.tup f) [] a') r) (Q (.p .non) []) (X 1 [])) (rfl,(_,_,rfl),c) (λpre x post σ h e j=>?_) λσ h j=>?_
 .obtain⟨rfl,⟨v,m,rfl⟩,j⟩:=j;have w:x∈f:=by rw[e];simp
  have z:=ai.mp A x w;have(o1,n,C):=Fh z;have dx:=eK D w;rw[aG,Bool.and_assoc]at j;have sk:=UO (rt:=J) n1 n2 n3 n;revert o1 n C dx j sk;refine Ko z λa p o d _ j o1 n C dx sk=>?_;refine aw (jk n1) (aw o1 (aw (dW (aE (show(b.map cM).length+(lX (.tup [a,.tup p,.tup o,d])).length<=12 by rw[ae];lia) (by ext))) (aw (jk n2) ?_)));refine aw (by show(dz d&&(N8 (jM (.tup b) (.tup l) (.tup f) (lX (.tup [a,.tup p,.tup o,d])) J).pv&&J))=J;rw[eK dx (by simp),vd sk];rfl) ?_;exact kH (a:=b_ 5 (jM (.tup b) (.tup l) (.tup f) (lX (.tup [a,.tup p,.tup o,d])) J) d) (Z:=X 1 []) j λ_ j=>(rfl,(_,_,rfl),j)
 .obtain⟨rfl,⟨v,m,rfl⟩,j⟩:=j;have sk:=UO (o:=[]) (rt:=a') n1 n2 n3 rfl;have es:jM (.tup b) (.tup l) (.tup f) [] a'=(b.map cM,l.map cM,f.map cM,f.map lu,a'):=by unfold jM;rw[aI];rfl
  rw[es]at sk j;refine aw (jk n1) (aw (jk n2) ?_);refine aw (by show(dz r&&(N8 (Sc.pv (b.map cM,l.map cM,f.map cM,f.map lu,a'))&&J))=J;rw[L,vd sk];rfl) ?_;exact ES j
def yd(B:LX ca W)(S:SX W)(D:DX ca W 13 7 JR)(d:DX ca W 14 6 JL)(a:DX ca W 15 28 VG)(v:DX ca W 4 9 xS):DX ca W 12 29 JO:=by
 refine B.e (k:=27) 5 J [(13,JR),(14,JL),(15,VG),(4,xS),(21,tV)] [] (.seq (.ex (.cl 13 [] (.u2 0 1))) (.seq (.ex (.cl 14 [] (.u2 2 (.b2 cC (.cl 21 [] (.u 0)) (.cl 21 [] (.u 1)))))) (.seq (.iff (.not (.val (.bi j5 (.u2 3 (.ty 3))))) (.one (.raise 0 (.s "the program's rows are no tuple"))) .nil) (.seq (.set 4 (.tup (.u4 0 1 2 3))) (.seq (.ex (.cl 15 [] (.u 4))) (.seq (.iff (.cmp vW (.bi da (.u (.cl 4 [] (.u 4)))) (.g 10)) (.one (.raise 2 (.s "the program has more than 60 numbers"))) .nil) (.re 4))))))) S.s41 rfl (D.up rfl,d.up rfl,a,v.up rfl,(ly B S).up rfl,trivial) trivial (nT λb l f r Q X H q=>?_);have q:ie (wD b l f r) (λc=>X c []) (Q (.p (.tup [b,l,f,r])) []):=q;have i:dz b=true:=eK H (by simp);have j:dz l=true:=eK H (by simp);have w:dz f=true:=eK H (by simp);have o:dz r=true:=eK H (by simp);refine aw (by show(dz b&&dz l)=J;rw[i,j];rfl) (Ez (c:=mY b l) q λC q=>?_);have m:=C;have(y,z,_):=dG C;revert q m H i j;refine ik y λb M E=>ik z λl N F H i j q C=>?_;have n1:=c8 (λ_=>yR) E;have n2:=c8 (λ_=>uP) F;refine aw (jk n1) (aw (jk n2) (aw (dW (aE (show(b.map cM).length+(l.map cM).length<=9 by rw[ae,ae];lia) (by ext))) ?_));refine aw (by show(dz f&&((b.map cM++l.map cM).all dw&&aa4 (b.map cM++l.map cM).length 9))=J;rw[w,aX,iw n1,iw n2,ap.mpr (by rw[aa,ae,ae];lia)];rfl) (Ez (c:=lB (b.map cM++l.map cM) f) q λn q=>?_);revert q H;refine Ar o (λ_=>id) (λ_ _=>id) (λ_ _=>id) (λ_ _ _=>id) (λr o H q=>?_) (λ_ _ _=>id) λ_ _ _ _=>id;have q:ie (ND (qZ (.tup b) (.tup l) f (.tup r)) 1 (ND (!jv 60 (mW f (.tup r):Nat)) 2 af)) (λc=>X c []) (Q (.p (.tup [.tup b,.tup l,f,.tup r])) []):=q;refine aw (by show(dz (.tup [.tup b,.tup l,f,.tup r])&&(mY (.tup b) (.tup l)&&(lB (lA (.tup b)++lA (.tup l)) f&&J)))=J;rw[H,C,show lB (lA (.tup b)++lA (.tup l)) f=J from n];rfl) (Ez (c:=qZ (.tup b) (.tup l) f (.tup r)) q λG q=>?_);have(I,n):=ah n;have(R,K):=ah G;revert q R H;refine ik I λf P A H q R=>?_;have L:f.all AD=true:=ai.mpr λg t=>by show(eQ g&&b5 (g9 5) (mS g))=J;rw[ai.mp A g t,Gg (ai.mp R g t)];rfl
 have tl:mW (.tup f) (.tup r)<=n9:=by have U:sum iS f<=dg f:=GF (λx h=>Sz h) A;have e2:=JV 5 (.tup r);have e3:=ap.mp (ah H).2;have Y:eZ (.tup [.tup b,.tup l,.tup f,.tup r])=1+(eZ (.tup b)+(eZ (.tup l)+(1+dg f+(eZ (.tup r)+0)))):=rfl;show sum iS f+vH 5 (.tup r)<=n9;lia
 refine aw (by show(f.all AD&&(b5 (g9 5) (.tup r)&&aa4 (mW (.tup f) (.tup r)) n9))=J;rw[L,Gg K,ap.mpr tl];rfl) λT lt=>?_;have lt:T.length=mW (.tup f) (.tup r):=lt;show br (jv 60 (T.length:Nat)) _ _;rw[lt];exact ZD q λq=>q
def cg{h:Hs}(H:h[w]?=O o):(h.set w o')[w]?=O o':=dc (ak.mp H).1
def RY{h:Hs}(H:h[w]?=O o):h.set w o=h:=by
 refine List.ext_getElem? λi=>?_;by_cases e:w=i;.subst e;rw[cg H,H]
 .rw[aB e]
def GN{ws:ϑ}(H:ws.drop k=x::r):ws[k]?=O x/\k+1<=ws.length/\ws.drop (k+1)=r:=by
 have h:(ws.drop k)[0]?=O x:=by rw[H];rfl
 rw[List.getElem?_drop]at h;have h:ws[k]?=O x:=h;refine(h,(ak.mp h).1,?_);rw[<-Oc,H];rfl
def ZK{ws:ϑ}(H:k<=ws.length)(h:ws.drop k=[]):k=ws.length:=by have:=List.drop_eq_nil_iff.mp h;lia
def Qz{ws:ϑ}(H:k<=ws.length)(h:ws.drop k=r):jv k (ws.length:Nat)=!r.isEmpty:=by cases r with|nil=>rw[ZK H h];exact a8.mpr λz=>by have:=cw.mp z;lia|cons x r=>exact cw.mpr (by have:=(GN h).2.1;lia)
def VT(B:LX ca W)(S:qG W.K (ca 5) "are_left" "Words.are_left" (gj (top 58) 1) ["self"]):Di (Lx ca) W 601 2:=by refine B.xh (k:=0) 1 a' [] [] (.re (.cmp Tq (.fld 5 1 0) (.bi da (.u (.fld 5 0 0))))) S rfl trivial trivial λds h Q x c=>?_;change cLf ds h Q x at c;cases c with|mk o r H w q=>have(ws,k,a,b,s,g):=w;rw[<-Qz a b]at q;exact(rfl,cR (dS H) (cR (dS H) q))
def VY(B:LX ca W)(S:qG W.K (ca 5) "take" "Words.take" (gj (top 58) 2) ["self"])(D:Di (Lx ca) W 601 2):Di (Lx ca) W 600 4:=by refine B.xh (k:=2) 1 a' [] [601] (.seq (.iff (.not (.val (.xh 601 0))) (.one (.raise 4 (.s "a row lacks words"))) .nil) (.seq (.Φ 5 1 1 0) (.re (.ix (.fld 5 0 0) (.b2 vU (.fld 5 1 0) (.i 1)))))) S rfl trivial (D,trivial) λds h Q X c=>?_;change Z4 TH ds h Q X at c;cases c with
 |@ok w _ _ _ o r R x H d e q=>cases r with|nil=>cases e|cons y r=>cases e;refine(rfl,?_);have(ws,k,f,a,b,g):=d;have(j,l,m):=GN a;refine f7 H (.mk _ _ H (ws,k,f,a,b,g) (Vu H rfl rfl (cR (dS (cg H)) (cR (dS (cg H)) ?_))));exact bC (show nk ws ((k:Int)+1-1)=O x by rw[show(k:Int)+1-1=((k:Nat):Int)by lia];exact j) (q (Wo ws (k+1)) (ws,k+1,l,m,b,g))
 |no o r H d e q=>cases r with|cons y r=>cases e|nil=>refine(rfl,?_);have(ws,k,f,a,b,g):=d;exact f7 H (.mk _ _ H (ws,k,f,a,b,g) q)
def J7(B:LX ca W)(S:qG W.K (ca 5) "take_all" "Words.take_all" (gj (top 58) 3) ["self"]):Di (Lx ca) W 602 2:=by refine B.xh (k:=0) 2 a' [] [] (.seq (.set 1 (.sl (.fld 5 0 0) (.of (.fld 5 1 0)) .no)) (.seq (.oN 5 1 (.bi da (.u (.fld 5 0 0))) 0) (.re 1))) S rfl trivial trivial λds h Q X c=>?_;change Z4 TF ds h Q X at c;cases c with|@ok w _ _ _ o r R x H a e q=>cases e;refine(rfl,?_);have(ws,k,d,b,s,g):=a;subst b;exact cR (dS H) (cR (dS H) (cR (dS H) (kb H rfl rfl (q (Wo ws ws.length) (ws,ws.length,ay _,ky,s,g)))))|no o r H a e q=>cases e
def VV(B:LX ca W)(S:qF W.K (ca 5) "Words.__init__" (gj (top 58) 0) ["self","words"])(x:W.mg "Words"=O (.ref (ca 5))):Di (Lx ca) W 5 2:=by refine Lk.pd (c:=5) (k:=0) ["self","words"] ["self","words"] a' [] [] B (.seq (.oN 5 0 1 0) (.one (.oN 5 1 (.i 0) 0))) S x rfl trivial trivial λds h Q X c=>?_;change OH ds h Q X at c;cases c with|@mk i ws _ _ _ H q=>refine(rfl,kb H rfl rfl (kb (cg H) rfl rfl ?_));have e:(h.set i (.ins 5 [.p (.lst ws)])).set i (Wo ws 0)=h.set i (Wo ws 0):=BQ ..;rw[<-e]at q;exact q
def RX{l:Hs}(H:h[i]?=O o):(h++l).set i o'=h.set i o'++l:=by rw[Jo,bI (ak.mp H).1]
def bF{l:Hs}{i:Nat}(H:h[i]?=O o):(h++l)[i]?=O o:=by rw[aZ (ak.mp H).1];exact H
def fq{h l:Hs}(H:h[i]?=O o):(h.set i a++l).set i b=h.set i b++l:=by rw[RX (cg H),BQ]
def VU(B:LX ca W)(S:qF W.K (ca 6) "Reader.__init__" (gj (top 59) 0) ["self"])(x:W.mg "Reader"=O (.ref (ca 6))):Di (Lx ca) W 6 2:=by refine Lk.pd (c:=6) (k:=0) ["self"] ["self"] a' [] [] B (.seq (.oN 6 0 (.g 12) 0) (.seq (.oN 6 1 (.tH .nil) 0) (.seq (.oN 6 2 (.tH .nil) 0) (.seq (.oN 6 3 (.tH .nil) 0) (.seq (.oN 6 4 (.tH .nil) 0) (.one (.oN 6 5 (.du .nil) 0))))))) S x rfl trivial trivial λds h Q X c=>?_;change VI ds h Q X at c;cases c with|@mk i _ _ _ H q=>have G:=cg (o':=.ins 6 [.p (.int 0)]) H;have l:∀a,(h.set i a).length=h.length:=λa=>a6;refine(rfl,kb H rfl rfl (kb (bF G) rfl rfl ?_));rw[fq H,l];have b:=cg (o':=.ins 6 [.p (.int 0),.r h.length]) H;refine kb (bF (bF b)) rfl rfl ?_;rw[aD,fq H,aa,l];have d:=cg (o':=.ins 6 [.p (.int 0),.r h.length,.r (h.length+1)]) H;refine kb (bF (bF d)) rfl rfl ?_;rw[aD,fq H,aa,l];have e:=cg (o':=.ins 6 [.p (.int 0),.r h.length,.r (h.length+1),.r (h.length+2)]) H;refine kb (bF (bF e)) rfl rfl ?_;rw[aD,fq H,aa,l];have f:=cg (o':=.ins 6 [.p (.int 0),.r h.length,.r (h.length+1),.r (h.length+2),.r (h.length+3)]) H;refine kb (bF (bF f)) rfl rfl ?_;rw[aD,fq H,aa,l];exact q
def XH(x:Pv)(K:Pv->Prop)(X:Nat->Prop):Prop:=br (j8 (d8 x)) (ie (aa7 (d8 x)) (λn=>K (.int n)) False) (X 4)
abbrev OG:Ct:=Tt (λx=>dw x&&aa4 (d8 x).length n9) XH
def mz(B:LX ca W)(S:SX W):DX ca W 40 2 OG:=by
 refine B.e (k:=0) 1 J [] [] (.seq (.iff (.bo (Wm.oc (.cmp vW (.bi da (.u 0)) (.g 11)) (Wm.o1 (.not (.val (.bi Hn (.u (.comp 1 [] (.one 0) (.c 0) .no (.ch NV NV (.s "0") 0 (.s "9")))))))))) (.one (.raise 4 (.s "a number has one to six figures and nothing else"))) .nil) (.seq (.iff (.bo (Wm.ac (.val (.mt y8 0 (.u (.s "0")))) (Wm.a1 (.cmp G6 0 (.s "0"))))) (.one (.raise 4 (.s "a number has no 0 ahead"))) .nil) (.re (.bi Ξ (.u 0))))) S.DU rfl trivial trivial (zJ λx Q X a=>?_);have(b,H):=ah a;revert H;refine lM b λz H q=>?_;have hz:=dW (ap.mp H);have q:br (j8 z) (ie (aa7 z) (λn=>Q (.p (.int n)) []) False) (X 4 []):=q;unfold j8 at q;refine aw hz (bB (λe=>?_) λe=>?_);.have e:jv 6 (z.length:Nat)=true:=e;rw[e]at q;exact q
 .have e:jv 6 (z.length:Nat)=false:=e;rw[e]at q;refine aw hz ?_;refine eX (λy=>.bl (CC y)) rfl (λy f=>?_) (qI ?_);.have(c,_,rfl):=a0.mp f;exact λR q=>j3 (Q:=λd h=>R [d] h) q λ_ q=>q
  .revert q;cases(ig z).all CC with|false=>exact λq=>q|true=>
    have fin:ie (aa7 z) (λn=>Q (.p (.int n)) []) False->ie (aa7 z) (λn=>gd (aa4 z.length 640) (Q (.p (.int n)) [])) False:=λq=>by have(n,E,q):=FQ q;refine bC E (aw (ap.mpr ?_) q);have:=a8.mp e;rw[ne_eq,cw]at this;lia
    intro q;revert q;show br (!(ac9 z "0"&&!aS z "0")) _ _->br (ac9 z "0") (br (!aS z "0") (X 4 []) _) _;cases ac9 z "0"with|false=>exact fin|true=>cases aS z "0"with|false=>exact λq=>q|true=>exact fin
theorem Wr.all(h:Wr r o):r.all gW=true:=by have(ws,k,b,H,s,g):=h;subst H;exact ai.mpr λx a=>ai.mp g x (List.mem_of_mem_drop a)
@[elab_as_elim]def gWC{P:Pv->Prop}(h:gW x)(k:∀z,aa4 z.length 1000000=J->(j8 z=J->(aa7 z).isSome=J)->P (.str z)):P x:=by
 cases x<;>first|(cases h;done)|skip
 rename_i z;have(a,H):=ah (show(aa4 z.length 1000000&&(!j8 z||(aa7 z).isSome))=J from h);exact k z a λe=>by rw[e]at H;exact H
inductive xR(f:Str->ϑ->Option (Pv×ϑ)):Ct|ok{w:Nat}{k:Str}{h:Hs}{Q:Dv->Hs->Prop}{xc:XP}(o:Ob)(r r':ϑ)(x:Pv)(hw:h[w]?=O o)(wr:Wr r o)(e:f k r=O (x,r'))(q:∀o' l,Wr r' o'->Q (.p x) (h.set w o'++l)):xR f [.p (.str k),.r w] h Q xc|no{w:Nat}{k:Str}{h:Hs}{Q:Dv->Hs->Prop}{xc:XP}(o:Ob)(r:ϑ)(hw:h[w]?=O o)(wr:Wr r o)(e:f k r=af)(q:∀o' l,xc 4 (h.set w o'++l)):xR f [.p (.str k),.r w] h Q xc
inductive OI(R:ϑ->Option (Pv×ϑ)->Prop):Ct|mk{w:Nat}{h:Hs}{Q:Dv->Hs->Prop}{xc:XP}(o:Ob)(r:ϑ)(oo:Option (Pv×ϑ))(hw:h[w]?=O o)(wr:Wr r o)(e:R r oo)(q:∀x r',oo=O (x,r')->∀o' l,Wr r' o'->Q (.p x) (h.set w o'++l))(q':oo=af->∀o' l,xc 4 (h.set w o'++l)):OI R [.r w] h Q xc
inductive Ca:Ct|ok{w:Nat}{h:Hs}{Q:Dv->Hs->Prop}{xc:XP}(o:Ob)(v:Str)(r:ϑ)(hw:h[w]?=O o)(wr:Wr (.str v::r) o)(e:(lk v eJ).isSome)(q:∀o',Wr r o'->Q (.r h.length) (h.set w o'++[.lst [.str v]])):Ca [.r w] h Q xc|no{w:Nat}{h:Hs}{Q:Dv->Hs->Prop}{xc:XP}(o:Ob)(r:ϑ)(hw:h[w]?=O o)(wr:Wr r o)(e:r=[]\/∃v r',r=.str v::r'/\lk v eJ=af)(q:∀o' l,xc 4 (h.set w o'++l)):Ca [.r w] h Q xc
def qV(r:ϑ)(z:Str):Option (Pv×ϑ):=match j8 z with
 |true=>match aa7 z with|some n=>O (.int n,r)|none=>af
 |false=>af
def mZ(k:Str):ϑ->Option (Pv×ϑ)|[]=>af|x::r=>match aS k "number"with|true=>qV r (d8 x)|false=>O (x,r)
def B4{h:Hs}{P:Hs->Prop}(H:h[w]?=O o)(q:∀o' l,P (h.set w o'++l)):P h:=by have q:=q o [];rw[aI,RY H]at q;exact q
def yS{h:Hs}{P:Hs->Prop}(q:∀l,P (h.set w o++l)):P (h.set w o):=by have q:=q [];rw[aI]at q;exact q
def Al(B:LX ca W)(S:SX W)(I:Di (Lx ca) W 600 4):DX ca W 43 6 (xR mZ):=by refine B.e (k:=4) 2 a' [(40,OG)] [600] (.seq (.iff (.cmp hW 0 (.s "number")) (.re (.cl 40 [] (.u (.xh 600 1)))) .nil) (.re (.xh 600 1))) S.D0 rfl ((mz B S).up rfl,trivial) (I,trivial) λds h Q X c=>?_;cases c with
 |@ok w k _ _ _ o r R x H a e q=>refine(rfl,?_);cases r with|nil=>cases e|cons y r=>
  have g:=(ah (show(gW y&&r.all gW)=J from a.all)).1;have e:(match aS k "number"with|true=>qV r (d8 y)|false=>O (y,r))=O (x,R):=e;have(ws,j,m,p,t,v):=id a;refine bB (λE=>f7 H (.ok _ _ _ _ H a rfl λb K=>?_)) λE=>f7 H (.ok _ _ _ _ H a rfl λb K=>?_)
  .have E:aS k "number"=true:=E;rw[E]at e;have e:qV r (d8 y)=O (x,R):=e;revert e;refine gWC g λz d i e=>aw (by show(J&&aa4 z.length n9)=J;exact d) ?_;have e:qV r z=O (x,R):=e;unfold qV at e;split at e
   .rename_i nb;split at e;.rename_i n f;cases e;show br (j8 z) (ie (aa7 z) _ False) _;rw[nb];exact bC f (yS λl=>q b l K)
    .cases e
   .cases e
  .have E:aS k "number"=false:=E;rw[E]at e;cases e;exact yS λl=>q b l K
 |@no w k _ _ _ o r H a e q=>refine(rfl,?_);have(ws,j,m,p,t,v):=id a;cases r with|nil=>exact bB (λ_=>f7 H (.no _ _ H a rfl (B4 H q))) λ_=>f7 H (.no _ _ H a rfl (B4 H q))|cons y r=>
  have g:=(ah (show(gW y&&r.all gW)=J from a.all)).1;have e:(match aS k "number"with|true=>qV r (d8 y)|false=>O (y,r))=none:=e;refine bB (λE=>f7 H (.ok _ _ _ _ H a rfl λb K=>?_)) λE=>?_
  .have E:aS k "number"=true:=E;rw[E]at e;have e:qV r (d8 y)=none:=e;revert e;refine gWC g λz d i e=>aw (by show(J&&aa4 z.length n9)=J;exact d) ?_;have e:qV r z=none:=e;show br (j8 z) (ie (aa7 z) _ False) _;unfold qV at e;split at e
   .rename_i nb;have:=i nb;split at e;.cases e
    .rename_i f;rw[f]at this;cases this
   .rename_i nb;rw[nb];exact yS λl=>q b l
  .have E:aS k "number"=false:=E;rw[E]at e;cases e
def ug(B:LX ca W)(S:SX W)(I:Di (Lx ca) W 600 4):DX ca W 42 6 Ca:=by refine B.e (k:=4) 2 a' [(1,B9 eJ)] [600] (.seq (.set 1 (.xh 600 0)) (.seq (.iff (.isN a' (.cl 1 [] (.u 1))) (.one (.raise 4 (.s "a value begins with another word"))) .nil) (.re (.tH (.u 1))))) S.wx rfl ((j4 B S).up rfl,trivial) (I,trivial) λds h Q x c=>?_;cases c with|@ok w _ _ _ o v r H b e q=>refine(rfl,?_);have(ws,f,g,j,m,n):=id b;refine f7 H (.ok _ _ _ _ H b rfl λd K=>aw rfl ?_);have(p,E):=cq.mp e;refine bC E ?_;have q:=q d K;rw[<-a6 (i:=w) (a:=d)]at q;exact q|@no w _ _ _ o r H b e q=>
  refine(rfl,?_);have(ws,f,g,j,m,n):=id b;rcases e with rfl|⟨v,R,rfl,e⟩;.exact f7 H (.no _ _ H b rfl (B4 H q))
  .refine f7 H (.ok _ _ _ _ H b rfl λd K=>aw rfl ?_);show ie (lk v eJ) _ _;rw[e];exact yS λl=>q d l
inductive RV:Nat->ϑ->List ϑ->ϑ->Option (Pv×ϑ)->Prop|X6{w v:Str}{ps r:ϑ}{ks:ϐ}{st:List ϑ}{o:Option (Pv×ϑ)}{m:Nat}(e:lk w eJ=O ks)(k:ks[ps.length]?=O ("value":Str))(ev:(lk v eJ).isSome)(t:RV m [.str v] ((.str w::ps)::st) r o):RV (m+1) (.str w::ps) st (.str v::r) o|ahd{w:Str}{ps r:ϑ}{ks:ϐ}{st:List ϑ}(e:lk w eJ=O ks)(k:ks[ps.length]?=O ("value":Str))(n:r=[]\/∃v r',r=.str v::r'/\lk v eJ=af):RV 0 (.str w::ps) st r af|r_{w kd:Str}{x:Pv}{ps r r':ϑ}{ks:ϐ}{st:List ϑ}{o:Option (Pv×ϑ)}{m:Nat}(e:lk w eJ=O ks)(k:ks[ps.length]?=O kd)(nv:aS kd "value"=a')(f:mZ kd r=O (x,r'))(t:RV m (.str w::ps++[x]) st r' o):RV (m+1) (.str w::ps) st r o|ahU{w kd:Str}{ps r:ϑ}{ks:ϐ}{st:List ϑ}(e:lk w eJ=O ks)(k:ks[ps.length]?=O kd)(nv:aS kd "value"=a')(f:mZ kd r=af):RV 0 (.str w::ps) st r af|fin{w:Str}{ps r:ϑ}{ks:ϐ}(e:lk w eJ=O ks)(l:ps.length=ks.length):RV 0 (.str w::ps) [] r (O (.tup (.str w::ps),r))|pop{w:Str}{ps p2 r:ϑ}{ks:ϐ}{st:List ϑ}{o:Option (Pv×ϑ)}{m:Nat}(e:lk w eJ=O ks)(l:ps.length=ks.length)(t:RV m (p2++[.tup (.str w::ps)]) st r o):RV (m+1) (.str w::ps) (p2::st) r o
inductive zT:ϑ->Option (Pv×ϑ)->Prop|go{v:Str}{r:ϑ}{o:Option (Pv×ϑ)}{m:Nat}(ev:(lk v eJ).isSome)(t:RV m [.str v] [] r o):zT (.str v::r) o|no{r:ϑ}(n:r=[]\/∃v r',r=.str v::r'/\lk v eJ=af):zT r af
inductive SK(l:Hs):Ϙ->List ϑ->Prop|nil:SK l [] []|cons{j:Nat}{js:Ϙ}{p:ϑ}{ps:List ϑ}(e:l[j]?=O (.lst p))(n1:j≠1)(n:j∉js)(t:SK l js ps):SK l (j::js) (p::ps)
theorem SK.set{i:Nat}{o:Ob}:∀{j:Ϙ}{ps:List ϑ},i∉j->SK l j ps->SK (l.set i o) j ps:=by intro j ps h k;induction k with|nil=>exact .nil|cons e N n t I=>exact .cons (by rw[aB (by intro z;subst z;exact h au)];exact e) N n (I λz=>h (ao _ z))
def SK.acN:∀{j:Ϙ}{ps:List ϑ},SK l j ps->SK (l.set 1 o) j ps:=by intro j ps k;induction k with|nil=>exact .nil|cons e N n t i=>exact .cons (by rw[aB (bX N)];exact e) N n i
def SK.app:∀{j:Ϙ}{ps:List ϑ},SK l j ps->SK (l++m) j ps:=by intro j ps k;induction k with|nil=>exact .nil|cons e N n t i=>exact .cons (bF e) N n i
def SK.lt:∀{js:Ϙ}{ps:List ϑ},SK l js ps->l.length∉js:=by intro js ps k;induction k with|nil=>simp|cons e N n t i=>exact λz=>(aK.mp z).elim λz=>by have:=(ak.mp e).1;lia i
noncomputable def tK(n:Nat)(s:Ϙ):List Dv:=s.map λj=>.r (n+j)
def jE:tK n (s++[j])=tK n s++[.r (n+j)]:=by unfold tK;rw[aq];rfl
def jW:(tK n j).length=j.length:=ae ..
inductive VJ(h:Hs)(w N:Nat)(o:Option (Pv×ϑ))(m:Nat):Es->Hs->Prop|mk(ow:Ob)(l:Hs)(r top:ϑ)(st:List ϑ)(jt:Nat)(js:Ϙ)(v2 v3 v4:Option Dv)(wr:Wr r ow)(l1:l[1]?=O (.du (tK h.length (js.reverse++[jt]))))(hz:js.length+1+r.length<=N)(hs:∀p∈st,p.length<=2)(sk:SK l (jt::js) (top::st))(rv:RV m top st r o):VJ h w N o m [O (.r w),O (.r (h.length+1)),v2,v3,v4] (h.set w ow++l)
def BE(e:lk w eJ=O ks):ks.length<=2:=by
 have k:∀{t:List (Str×ϐ)},(∀p∈t,p.2.length<=2)->lk w t=O ks->ks.length<=2:=by intro t;induction t with|nil=>intro _ e;cases e|cons p t i=>
   intro h e;have e:(match aS w p.1 with|true=>O p.2|false=>lk w t)=O ks:=e;split at e;.cases e;exact h p au
   .exact i (λq H=>h q (ao _ H)) e
 exact k (by ext) e
def NK(e:mZ k r=O (x,r')):r'.length+1=r.length:=by cases r with|nil=>cases e|cons y r=>
  have e:(match aS k "number"with|true=>qV r (d8 y)|false=>O (y,r))=O (x,r'):=e;split at e
  .unfold qV at e;split at e
   .split at e;.cases e;rfl
    .cases e
   .cases e
  .cases e;rfl
def fL{h l:Hs}:(h.set w o++l)[h.length+j]?=l[j]?:=by rw[aM (by rw[a6];lia),a6];congr 1;lia
def nO{h l:Hs}:(h.set w o++l).set (h.length+j) q=h.set w o++l.set j q:=by rw[Jo,bL (by rw[a6];lia),a6];congr 2;lia
def p0(xs:List α)(x:α):nk (xs++[x]) (-1)=O x:=by show(match aa4 1 (xs++[x]).length with|true=>(xs++[x])[(xs++[x]).length-1]?|false=>af)=_;rw[show aa4 1 (xs++[x]).length=J from ap.mpr (by rw[aa];simp),aa];simp
def yF{α:Type}(xs:List α)(x:α):(xs++[x])[(xs++[x]).length-1]?=O x:=by rw[aa];simp
def FJ{P:Prop}{ks:ϐ}(h:ps.length<ks.length)(z:ic ((Pv.str w::ps).length:Nat) ((ks.map Pv.str).length:Nat)=a'):P:=by have:=a8.mp z;rw[Ne,bM,ag,ae]at this;lia
def Ud{P:Prop}{ks:ϐ}(h:ps.length=ks.length)(z:ic ((Pv.str w::ps).length:Nat) ((ks.map Pv.str).length:Nat)):P:=by rw[bM,ag,ae]at z;lia
def tF{ks:ϐ}(e:ks[ps.length]?=O k):nk (ks.map Pv.str) (((Pv.str w::ps).length:Nat)-1:Int)=O (.str k):=by rw[ag,show((ps.length+1:Nat):Int)-1=((ps.length:Nat):Int)by lia];show(ks.map Pv.str)[ps.length]?=_;rw[bN,e];rfl
seal uS jL jD kM f9 in
def yf(B:LX ca W)(S:SX W)(D42:DX ca W 42 6 Ca)(ZR:DX ca W 43 6 (xR mZ)):DX ca W 41 7 (OI zT):=by refine B.e (k:=5) 5 a' [(1,B9 eJ),(42,Ca),(43,xR mZ)] [] (.seq (.set 1 (.du (.u (.wQ 42 (.u 0))))) (.one (.whT (.seq (.set 2 (.ix 1 (.neg (.i 1)))) (.seq (.set 3 (.cl 1 [] (.u (.ix 2 (.i 0))))) (.one (.iff (.cmp NV (.bi da (.u 2)) (.bi da (.u 3))) (.seq (.set 4 (.ix 3 (.b2 vU (.bi da (.u 2)) (.i 1)))) (.one (.iff (.cmp hW 4 (.s "value")) (.one (.ex (.mt fQ 1 (.u (.wQ 42 (.u 0)))))) (.one (.ex (.mt fQ 2 (.u (.wQ 43 (.u2 4 0))))))))) (.seq (.ex (.m0 Xy 1)) (.seq (.iff (.cmp hW (.bi da (.u 1)) (.i 0)) (.re (.bi lz (.u 2))) .nil) (.one (.ex (.mt fQ (.ix 1 (.neg (.i 1))) (.u (.bi lz (.u 2))))))))))))))) S.Bj rfl ((j4 B S).up rfl,D42,ZR,trivial) trivial λds h Q xc c=>?_;cases c with|@mk w _ _ _ o r oo D d e q q'=>refine(rfl,?_);cases e with|no n=>exact .no _ _ D d n (q' rfl)|@go v r _ m ev t=>
 have hN:∃N,N<=sizeLine/\r.length+1<=N:=by have(ws,k,hk,hr,M,hg):=d;refine(ws.length,dy M,?_);have:=cy ad1 hr;rw[fC,ag]at this;lia
 have(N,hN,hN1):=hN;refine .ok _ _ _ D d ev λo' T=>aw rfl ?_;refine aa9 (VJ h w N oo) (ac1 (m,?_) λm σ' h' b=>?_)
 .have z:=VJ.mk (h:=h) (w:=w) (N:=N) (o:=oo) (m:=m) o' [.lst [.str v],.du [.r (h.length+0)]] r [.str v] [] 0 [] af af af T rfl (by rw[Jl];lia) (λp F=>by cases F) (.cons rfl (by ext) (by simp) .nil) t;have e1:(h.set w o'++[Ob.lst [.str v]]).length=h.length+1:=by rw[aa,a6];rfl
  have e2:h.set w o'++[.lst [.str v],.du [.r (h.length+0)]]=h.set w o'++[.lst [.str v]]++[Ob.du [.r h.length]]:=by rw[aD];rfl
  rw[<-e1,e2]at z;exact z
 .cases b with|mk ow l r top st Y y v2 v3 v4 d l1 hz M sk rv=>have Z:(h.set w ow++l)[w]?=O ow:=bF (cg D);have U:=sk;cases sk with|cons e n1 n I=>
  have G:=fL (h:=h) (w:=w) (o:=ow) (l:=l) (j:=1);rw[l1,jE]at G;have g:=fL (h:=h) (w:=w) (o:=ow) (l:=l) (j:=Y);rw[e]at g;have lt1:1<l.length:=(ak.mp l1).1;refine j6 G (p0 _ _) ?_
  cases rv with|@X6 R v0 P r0 A _ _ m0 E K ev0 X=>
   have H:P.length<A.length:=(ak.mp K).1;refine qP g rfl (aw rfl (aw rfl (bC E ?_)));refine gR g (nJ (bB (λ_=>?_) λz=>FJ H z));refine gR g (uG (tF K) ?_);refine aw (K2 G) (Ca.ok (h:=h.set w ow++l) _ _ _ Z d ev0 λo' T=>?_);rw[fq D,aD,aa,a6];refine kZ (fL.trans (bF l1)) (eO ?_) ?_;.rw[jW,aa,dX];rw[ag]at hz;show y.length+1+1<=_;lia
   .rw[nO];have hn:l.length≠1:=by lia
    refine(m0,fG _,.mk o' _ r0 [.str v0] ((.str R::P)::st) l.length (Y::y) _ _ _ T ?_ (by rw[ag]at hz⊢;lia) (λp F=>?_) (.cons ?_ hn (SK.lt U) (SK.acN (SK.app U))) X);.rw[cg (bF l1),<-jE,eV]
    .rcases aK.mp F with rfl|F;.have:=BE E;rw[ag];lia
     .exact M p F
    .rw[aB (bX hn),aM (ay _),dD];rfl|@ahd R P _ A _ E K nn=>have H:P.length<A.length:=(ak.mp K).1;refine qP g rfl (aw rfl (aw rfl (bC E ?_)));refine gR g (nJ (bB (λ_=>?_) λz=>FJ H z));refine gR g (uG (tF K) ?_);refine aw (K2 G) (Ca.no (h:=h.set w ow++l) _ _ Z d nn λo' l'=>?_);rw[fq D,aD];exact q' rfl o' (l++l')|@r_ R kd x P _ r' A _ _ m0 E K nv f X=>
   have H:P.length<A.length:=(ak.mp K).1;refine qP g rfl (aw rfl (aw rfl (bC E ?_)));refine gR g (nJ (bB (λ_=>?_) λz=>FJ H z));refine gR g (uG (tF K) ?_);refine bB (λz=>by have z:aS kd "value"=true:=z;rw[nv]at z;cases z) λ_=>?_;refine aw (K3 g) (xR.ok (h:=h.set w ow++l) _ _ _ _ Z d f λo' l' T=>?_);rw[fq D,aD];refine ir (fL.trans (bF e)) (eO ?_) ?_;.have:=BE E;rw[ag];exact aE (show P.length+1+1<=100 by lia) (by ext)
   .rw[nO];have hx:=NK f;refine(m0,fG _,.mk o' _ r' _ st Y y _ _ _ T ?_ (by lia) M (.cons (cg (bF e)) n1 n (SK.set n (SK.app I))) X);rw[aB n1];exact bF l1|@ahU R kd P _ A _ E K nv f=>have H:P.length<A.length:=(ak.mp K).1;refine qP g rfl (aw rfl (aw rfl (bC E ?_)));refine gR g (nJ (bB (λ_=>?_) λz=>FJ H z));refine gR g (uG (tF K) ?_);refine bB (λz=>by have z:aS kd "value"=true:=z;rw[nv]at z;cases z) λ_=>?_;refine aw (K3 g) (xR.no (h:=h.set w ow++l) _ _ Z d f λo' l'=>?_);rw[fq D,aD];exact q' rfl o' (l++l')|@fin R P _ A E H=>refine qP g rfl (aw rfl (aw rfl (bC E ?_)));refine gR g (nJ (bB (λz=>Ud H z) λ_=>?_));cases I;refine aw (K2 G) (yZ (h:=h.set w ow++l) G (yF _ _) ?_);rw[nO,kU];refine fM (fL.trans (cg l1)) (jX (fL.trans ((aB (bX n1)).trans e)) ?_);exact q _ _ rfl ow _ d|@pop R P p2 _ A st _ m0 E H X=>refine qP g rfl (aw rfl (aw rfl (bC E ?_)));refine gR g (nJ (bB (λz=>Ud H z) λ_=>?_));cases I with|@cons j2 y _ _ e2 n2 n3 sk2=>
   have nj:Y≠j2:=λz=>n (z▸au);refine aw (K2 G) (yZ (h:=h.set w ow++l) G (yF _ _) ?_);rw[nO,kU];have L:=cg (o':=.du (tK h.length (j2::y).reverse)) l1;have e':=(aB (a:=Ob.du (tK h.length (j2::y).reverse)) (bX n1)).trans e;have C:=(aB (a:=Ob.du (tK h.length (j2::y).reverse)) (bX n2)).trans e2;have g2:=fL (h:=h) (w:=w) (o:=ow) (l:=l.set 1 (.du (tK h.length (j2::y).reverse))) (j:=1);rw[L,eV,jE]at g2;refine fM (fL.trans L) (bB (λz=>?_) λ_=>?_);.have z:jT ((tK h.length (j2::y).reverse).length:Nat) 0=true:=z;rw[cB,jW,dX,ag]at z;lia
   .rw[eV,jE]at L e' C⊢;refine j6 g2 (p0 _ _) (aw (K3 (fL.trans C)) (jX (fL.trans e') (ir (fL.trans C) (eO ?_) ?_)));.have:=M p2 au;exact aE (show p2.length+1<=100 by lia) (by ext)
    .rw[nO];refine(m0,fG _,.mk ow _ r _ st j2 y _ _ _ d ?_ (by rw[ag]at hz;lia) (λp F=>M p (ao _ F)) (.cons (cg C) n2 n3 (SK.set n3 (SK.acN sk2))) X);rw[aB n2,L,jE]
end
inductive Pc where|p(x:Pv)|l(xs:ϑ)
structure Rp where
 sec:Int
 bs:ϑ
 ls:ϑ
 fs:ϑ
 rs:ϑ
 ops:List (List Pc×ϑ)
inductive CS(l:Hs):Ϙ->List Dv->List Pc->Prop|nil:CS l [] [] []|p{V:Ϙ}{ds:List Dv}{cs:List Pc}{x:Pv}(t:CS l V ds cs):CS l V (.p x::ds) (.p x::cs)|l{V:Ϙ}{ds:List Dv}{cs:List Pc}{k:Nat}{xs:ϑ}(e:l[k]?=O (.lst xs))(t:CS l V ds cs):CS l (k::V) (.r (6+k)::ds) (.l xs::cs)
inductive OK(l:Hs):Ϙ->Ϙ->List (List Pc×ϑ)->Prop|nil:OK l [] [] []|cons{U V ids:Ϙ}{ops:List (List Pc×ϑ)}{i j:Nat}{ds:List Dv}{pre:List Pc}{b_:ϑ}(e:l[i]?=O (.du (ds++[.r (6+j)])))(f:l[j]?=O (.lst b_))(cs:CS l V ds pre)(n1:i∉U)(n2:j∉U)(n3:j∉V)(hp:pre.length<=4)(hr:b_.length<=100000)(t:OK l U ids ops):OK l (i::j::(V++U)) (i::ids) ((pre,b_)::ops)
def Bl(ids:Ϙ):List Dv:=tK 6 ids.reverse
def hR(s:Rp)(ids:Ϙ)(l:Hs):Hs:=.ins 6 [.p (.int s.sec),.r 1,.r 2,.r 3,.r 4,.r 5]::.lst s.bs::.lst s.ls::.lst s.fs::.lst s.rs::.du (Bl ids)::l
section
variable{l m:Hs}{k:Nat}{o:Ob}
theorem CS.set:∀{V:Ϙ}{ds:List Dv}{cs:List Pc},k∉V->CS l V ds cs->CS (l.set k o) V ds cs:=by intro V ds cs h c;induction c with|nil=>exact .nil|p t i=>exact .p (i h)|l e t i=>exact .l (by rw[aB (by intro z;subst z;exact h au)];exact e) (i λz=>h (ao _ z))
def CS.app:∀{V:Ϙ}{ds:List Dv}{cs:List Pc},CS l V ds cs->CS (l++m) V ds cs:=by intro V ds cs c;induction c with|nil=>exact .nil|p t i=>exact .p i|l e t i=>exact .l (bF e) i
theorem OK.set:∀{U ids:Ϙ}{ops:List (List Pc×ϑ)},k∉U->OK l U ids ops->OK (l.set k o) U ids ops:=by intro U ids ops h c;induction c with|nil=>exact .nil|cons e f C n N n3 H r t i=>exact .cons (by rw[aB (by intro z;subst z;exact h au)];exact e) (by rw[aB (by intro z;subst z;exact h (ao _ au))];exact f) (CS.set (λz=>h (ao _ (ao _ (g6 _ z)))) C) n N n3 H r (i λz=>h (ao _ (ao _ (ba _ z))))
theorem OK.app:∀{U ids:Ϙ}{ops:List (List Pc×ϑ)},OK l U ids ops->OK (l++m) U ids ops:=by intro U ids ops c;induction c with|nil=>exact .nil|cons e f C n N n3 h H t i=>exact .cons (bF e) (bF f) (CS.app C) n N n3 h H i
def CS.lt:∀{V:Ϙ}{ds:List Dv}{C:List Pc},CS l V ds C->∀i∈V,i<l.length:=by intro V ds C c;induction c with|nil=>exact λ_ h=>nomatch h|p t I=>exact I|l e t I=>exact λi h=>(aK.mp h).elim (λz=>by rw[z];exact(ak.mp e).1) (I i)
theorem OK.lt:∀{U ids:Ϙ}{ops:List (List Pc×ϑ)},OK l U ids ops->∀i∈U,i<l.length:=by intro U ids ops c;induction c with|nil=>exact λ_ h=>nomatch h|cons e f C n N n3 H r t I=>exact λi h=>(aK.mp h).elim (λz=>by rw[z];exact(ak.mp e).1) λh=>(aK.mp h).elim (λz=>by rw[z];exact(ak.mp f).1) λh=>(bf.mp h).elim (C.lt i) (I i)
end
def CS.pI{l:Hs}{V:Ϙ}(h:CS l V ds (.p x::cs)):∃v,ds=.p x::v/\CS l V v cs:=by cases h with|p t=>exact(_,rfl,t)
def CS.lI{l:Hs}{V:Ϙ}(h:CS l V ds (.l xs::cs)):∃k v a,V=k::v/\ds=.r (6+k)::a/\l[k]?=O (.lst xs)/\CS l v a cs:=by cases h with|l e t=>exact(_,_,_,rfl,rfl,e,t)
def CS.nI{l:Hs}{V:Ϙ}(h:CS l V ds []):V=[]/\ds=[]:=by cases h;exact(rfl,rfl)
structure gG(U:Ϙ)(w:Nat)(l:Hs)(U':Ϙ)(l':Hs):Prop where
 k:∀j o,j∉U->j≠w->l[j]?=O o->l'[j]?=O o
 u:∀j∈U',j∈U\/l.length<=j
 n:l.length<=l'.length
def gG.trans{l1 l2:Hs}(a:gG U w l c l1)(b:gG c w l1 d l2):gG U w l d l2:=(λj o H f e=>b.k j o (λz=>(a.u j z).elim H λz=>by have:=(ak.mp e).1;lia) f (a.k j o H f e),λj h=>(b.u j h).elim (a.u j) λz=>.inr (aE a.n z),aE a.n b.n)
inductive Og(s:Rp)(l:Hs):Ϙ->Nat->Prop|top{ids:Ϙ}(hi:ids=[]):Og s l ids 4|row{ids:Ϙ}{i j:Nat}{ds:List Dv}(e:l[i]?=O (.du (ds++[.r (6+j)]))):Og s l (i::ids) (6+j)
inductive G4:Ct|ok{s:Rp}{l:Hs}{ids:Ϙ}{k:Int}{Q:Dv->Hs->Prop}{xc:XP}(hi:ids=[])(e:jv k s.sec=a')(q:Q (.p .non) (hR {s with sec:=k} ids l)):G4 [.r 0,.p (.int k)] (hR s ids l) Q xc
inductive EW:Ct|ok{s:Rp}{l:Hs}{ids:Ϙ}{n:Nat}{Q:Dv->Hs->Prop}{xc:XP}(e:Og s l ids n)(q:Q (.r n) (hR s ids l)):EW [.r 0] (hR s ids l) Q xc
def uA:(hR s ids l)[0]?=O (.ins 6 [.p (.int s.sec),.r 1,.r 2,.r 3,.r 4,.r 5]):=rfl
def n':(hR s ids l)[1]?=O (.lst s.bs):=rfl
def sr:(hR s ids l)[2]?=O (.lst s.ls):=rfl
def hr4:(hR s ids l)[4]?=O (.lst s.rs):=rfl
def P6:(hR s ids l)[5]?=O (.du (Bl ids)):=rfl
def FU{P:Prop}(h:ids=[])(z:jv 0 ((Bl ids).length:Nat)):P:=by subst h;exact xi z
def CV:(hR s (i::ids) l)[5]?=O (.du (tK 6 ids.reverse++[.r (6+i)])):=by rw[<-jE,<-eV];rfl
def X7{P:Prop}(z:jv 0 ((tK 6 ids++[x]).length:Nat)=a'):P:=by have:=a8.mp z;rw[Ne,cw,aa]at this;have e:[x].length=1:=rfl;lia
def dF(e:l[j]?=O o):(hR s ids l)[6+j]?=O o:=by rw[show 6+j=j+6 by lia];exact e
def oi:(hR s ids l).set (6+j) o=hR s ids (l.set j o):=by rw[show 6+j=j+6 by lia];rfl
section
variable{ca:Nat->Addr}{W:Wd}
seal j9 lY zK lV uS jL jD kM f9 in
def sW(B:LX ca W)(S:SX W):DX ca W 54 2 G4:=by refine B.e (k:=0) 2 a' [] [] (.seq (.iff (.bo (Wm.oc (.cmp vW (.bi da (.u (.fld 6 5 0))) (.i 0)) (Wm.o1 (.cmp Tq 1 (.fld 6 0 0))))) (.one (.raise 4 (.s "a row stands where it may not"))) .nil) (.one (.oN 6 0 1 0))) S.YR rfl trivial trivial λds h Q x c=>?_;cases c with|@ok s l I k _ _ H e q=>refine(rfl,cR (dS uA) (fM P6 (bB (λz=>FU H z) λ_=>cR (dS uA) (bB (λz=>?_) λ_=>kb uA rfl rfl q))));have z:jv k s.sec=true:=z;rw[e]at z;cases z
seal j9 lY zK lV uS jL jD kM f9 in
def J3(B:LX ca W)(S:SX W):DX ca W 56 2 EW:=by refine B.e (k:=0) 1 a' [] [] (.seq (.iff (.cmp vW (.bi da (.u (.fld 6 5 0))) (.i 0)) (.re (.ix (.ix (.fld 6 5 0) (.neg (.i 1))) (.neg (.i 1)))) .nil) (.re (.fld 6 4 0))) S.wz rfl trivial trivial λds h Q x c=>?_;cases c with|@ok s l I n _ _ e q=>cases e with|top H=>exact(rfl,cR (dS uA) (fM P6 (bB (λz=>FU H z) λ_=>cR (dS uA) q)))|@row I i j ds e=>exact(rfl,cR (dS uA) (fM CV (bB (λ_=>cR (dS uA) (j6 CV (p0 _ _) (j6 (dF e) (p0 _ _) q))) λz=>X7 z)))
inductive Vs:ϑ->ϑ->Prop|nil:Vs [] []|cons{y:Pv}{r r':ϑ}{x:Pv}{xs:ϑ}(t:zT (y::r) (O (x,r')))(k:Vs r' xs):Vs (y::r) (x::xs)
inductive K_:Str->ϑ->Pv->ϑ->Prop|val{r r':ϑ}{x:Pv}(t:zT r (O (x,r'))):K_ "value" r x r'|vals{r xs:ϑ}(hz:xs.length<=100)(t:Vs r xs):K_ "values" r (.tup xs) []|r_{kd:Str}{r r':ϑ}{x:Pv}(n1:aS kd "value"=a')(n2:aS kd "values"=a')(f:mZ kd r=O (x,r')):K_ kd r x r'
inductive cPt:Ct|mk{kd:Str}{w:Nat}{h:Hs}{Q:Dv->Hs->Prop}{xc:XP}(o:Ob)(r r':ϑ)(x:Pv)(hw:h[w]?=O o)(wr:Wr r o)(e:K_ kd r x r')(q:∀o' l,Wr r' o'->Q (.p x) (h.set w o'++l)):cPt [.p (.str kd),.r w] h Q xc
def Bt{h:Hs}(H:h[w]?=O o):h.set w o=h:=by have(l,e):=ak.mp H;rw[<-e,List.set_getElem_self]
inductive PJ(h:Hs)(w:Nat)(xs:ϑ)(m:Nat):Es->Hs->Prop|mk(ow:Ob)(l:Hs)(r acc b':ϑ)(wr:Wr r ow)(t:Vs r b')(e:acc++b'=xs)(hm:m=b'.length):PJ h w xs m [O (.p (.str "values")),O (.r w),O (.r (h.length+0))] (h.set w ow++.lst acc::l)
def oY(x:Pv):Pv:=match aa7 (d8 x)with|some n=>.int n|none=>.non
def A1(x:Pv):Bool:=gW x&&j8 (d8 x)
inductive OF:Ct|mk{w:Nat}{h:Hs}{Q:Dv->Hs->Prop}{xc:XP}(o:Ob)(r:ϑ)(hw:h[w]?=O o)(wr:Wr r o)(e:r.all A1)(q:∀o',Wr [] o'->Q (.p (.tup (r.map oY))) (h.set w o')):OF [.r w] h Q xc
inductive vG(T:Rp->ϑ->Option (Rp×ϑ)->Prop):Ct|mk{s:Rp}{U ids:Ϙ}{l:Hs}{w:Nat}{o:Ob}{r:ϑ}{oo:Option (Rp×ϑ)}{Q:Dv->Hs->Prop}{xc:XP}(ok:OK l U ids s.ops)(hw:l[w]?=O o)(wr:Wr r o)(e:T s r oo)(q:∀s' r',oo=O (s',r')->∀U' fj l' o',OK l' U' fj s'.ops->l'[w]?=O o'->Wr r' o'->gG U w l U' l'->Q (.p .non) (hR s' fj l'))(q':oo=af->∀h',xc 4 h'):vG T [.r 0,.r (6+w)] (hR s ids l) Q xc
inductive GU:Rp->ϑ->Option (Rp×ϑ)->Prop|mk{s:Rp}{x y:Pv}{r:ϑ}(e1:s.ops=[])(e2:jv 0 s.sec=a')(e3:A1 y)(e4:s.bs.length<=100):GU s (x::y::r) (O ({s with sec:=0,bs:=s.bs++[.tup [x,oY y]]},r))
inductive GY:Rp->ϑ->Option (Rp×ϑ)->Prop|mk{s:Rp}{x:Pv}{r:ϑ}(e1:s.ops=[])(e2:jv 1 s.sec=a')(e3:r.all A1)(e4:s.ls.length<=100):GY s (x::r) (O ({s with sec:=1,ls:=s.ls++[.tup [x,.tup (r.map oY)]]},[]))
def Bb:Dv->Pv|.p x=>x|.r _=>.non
def adm(h:Wr r o):gU r.length=true:=by have(ws,k,a,H,s,g):=h;subst H;refine eO (aE ?_ (dy s));rw[fC];lia
theorem Gd:∀r:ϑ,vK (r.map λx=>Dv.p (oY x))=O (r.map oY)|[]=>rfl|x::r=>by show(match vK (r.map λx=>Dv.p (oY x))with|some X=>O (oY x::X)|none=>af)=_;rw[Gd r];rfl
def Lz{K:Pv->Prop}(h:A1 (.str z))(q:K (oY (.str z))):XH (.str z) K X:=by
 have(a,H):=ah h;have H:j8 z=true:=H;unfold XH;show br (j8 z) (ie (aa7 z) (λn=>K (.int n)) False) (X 4);rw[H];have:=(ah (show(aa4 z.length 1000000&&(!j8 z||(aa7 z).isSome))=J from a)).2;rw[H]at this;have this:(aa7 z).isSome=true:=this;have(n,E):=cq.mp this;have e:oY (.str z)=.int n:=by show(match aa7 z with|some n=>Pv.int n|none=>.non)=_;rw[E]
 rw[e]at q;exact bC E q
@[elab_as_elim]def Uk{P:Pv->Prop}(h:A1 x)(k:∀z,aa4 z.length n9=J->A1 (.str z)->P (.str z)):P x:=by
 cases x<;>first|(cases h;done)|skip
 rename_i z;exact k z (ah (ah h).1).1 h
def OK.Lm(h:OK l U ids []):U=[]/\ids=[]:=by cases h;exact(rfl,rfl)
theorem gG.set:gG U w l U (l.set w o):=(λj a _ h e=>by rw[aB (bX h)];exact e,λ_ h=>.inl h,by rw[a6];exact ay _)
def CS.wn{l:Hs}(h:l[w]?=O (.ins c fs)):∀{V:Ϙ}{ds:List Dv}{C:List Pc},CS l V ds C->w∉V:=by intro V ds C c;induction c with|nil=>simp|p t i=>exact i|l e t i=>exact λz=>(aK.mp z).elim (λz=>by rw[<-z,h]at e;cases e) i
theorem OK.wn(h:l[w]?=O (.ins c fs)):∀{U ids:Ϙ}{ops:List (List Pc×ϑ)},OK l U ids ops->w∉U:=by intro U ids ops c;induction c with|nil=>simp|cons e f C n N n3 H r t i=>exact λz=>(aK.mp z).elim (λz=>by rw[<-z,h]at e;cases e) λz=>(aK.mp z).elim (λz=>by rw[<-z,h]at f;cases f) λz=>(bf.mp z).elim (CS.wn h C) i
seal j9 lY zK lV uS jL jD kM f9 in
def Ak(B:LX ca W)(S:SX W)(I:Di (Lx ca) W 601 2)(D:DX ca W 41 7 (OI zT))(Z:DX ca W 43 6 (xR mZ)):DX ca W 44 8 cPt:=by refine B.e (k:=6) 3 a' [(41,OI zT),(43,xR mZ)] [601] (.seq (.iff (.cmp hW 0 (.s "value")) (.re (.wQ 41 (.u 1))) .nil) (.seq (.iff (.cmp hW 0 (.s "values")) (.seq (.set 2 (.tH .nil)) (.seq (.whG (.val (.xh 601 1)) (.one (.ex (.mt fQ 2 (.u (.wQ 41 (.u 1))))))) (.re (.bi lz (.u 2))))) .nil) (.re (.wQ 43 (.u2 0 1))))) S.DZ rfl (D,Z.up rfl,trivial) (I.le (by ext),trivial) λds h Q M c=>?_;cases c with|@mk g w _ _ _ o r P x H b e q=>refine(rfl,?_);cases e with
 |val t=>exact .mk o r _ H b t (λn R e d l K=>by cases e;exact q d l K) λe=>by cases e|@vals _ xs T t=>
  refine aa9 (PJ h w xs) (ac1 (xs.length,?_) λm v U j=>?_);.have z:=PJ.mk (h:=h) (w:=w) (xs:=xs) (m:=xs.length) o [] r [] xs b t rfl rfl;rw[show h.set w o=h from Bt H]at z;exact z
  .cases j with|mk ow l r a i b t e A=>have p:(h.set w ow++Ob.lst a::l)[w]?=O ow:=bF (cg H);have G:(h.set w ow++Ob.lst a::l)[h.length+0]?=O (.lst a):=fL;have(Y,C,_,_,_,_):=id b;refine f7 p (.mk _ _ p b ?_);cases t with|nil=>rw[aI]at e;subst e;exact jX G (q _ _ b)|@cons y r0 E x X t k=>
    refine aw (K3 G) (.mk _ _ _ p b t (λn R e d L K=>?_) λz=>by cases z);cases e;rw[fq H,aD];refine ir (show(h.set w d++(Ob.lst a::l++L))[h.length+0]?=O (.lst a)from fL) (eO ?_) ?_;.have:=cy ad1 e;rw[aa,ag]at this;exact aE (show a.length+1<=100 by lia) (by ext)
    .rw[nO];exact(X.length,by rw[A];exact fG _,.mk d _ E (a++[x]) X K k (by rw[aD];exact e) rfl)
 |r_ N F f=>refine bB (λz=>by have z:aS g "value"=true:=z;rw[N]at z;cases z) λ_=>bB (λz=>by have z:aS g "values"=true:=z;rw[F]at z;cases z) λ_=>?_;exact .ok _ _ _ _ H b f q
seal j9 lY zK lV uS jL jD kM f9 in
def ui(B:LX ca W)(S:SX W)(I:Di (Lx ca) W 602 2):DX ca W 39 4 OF:=by refine B.e (k:=2) 1 a' [(40,OG)] [602] (.re (.bi lz (.u (.E4 1 [] 0 (.p (.s (.xh 602 0))) .no (.cl 40 [] (.u 0)) J)))) S.wy rfl ((mz B S).up rfl,trivial) (I,trivial) λds h Q X c=>?_;cases c with|@mk w _ _ _ o r f b e q=>
  refine(rfl,?_);have(ws,n,t,v,A,C):=id b;refine f7 f (.ok _ _ _ _ f b rfl λg K=>?_);refine sU (r.map .p) (λpre a H=>a=pre.map (λd=>.p (oY (Bb d)))/\H=h.set w g) ?_ (rfl,rfl) (λpre a H j=>rfl) (λpre y post a H E j=>?_) λa H j=>?_;.rw[ae];exact adm b
  .have(rfl,rfl):=j;have(x,i,rfl):=a0.mp (show y∈r.map .p by rw[E];simp);have gx:=ai.mp e x i;revert E;refine Uk gx λz l G E=>aw (by show(J&&aa4 z.length n9)=J;exact l) (Lz G ?_);exact(by rw[aq];rfl,rfl)
  .have(rfl,rfl):=j;have q:=q g K;have m:vK ((r.map Dv.p).map λd=>.p (oY (Bb d)))=O (r.map oY):=by rw[bK];exact Gd r
   show(match vK ((r.map Dv.p).map λd=>.p (oY (Bb d)))with|some D=>_|none=>False);rw[m];exact tM q
seal j9 lY zK lV uS jL jD kM f9 in
def Cs(B:LX ca W)(S:SX W)(I:Di (Lx ca) W 600 4):DX ca W 45 6 (vG GU):=by refine B.e (k:=4) 3 a' [(54,G4),(40,OG)] [600] (.seq (.ex (.wQ 54 (.u2 0 (.g 12)))) (.seq (.set 2 (.xh 600 1)) (.one (.ex (.mt fQ (.fld 6 1 0) (.u (.tup (.u2 2 (.cl 40 [] (.u (.xh 600 1))))))))))) S.Ip rfl ((sW B S).up rfl,(mz B S).up rfl,trivial) (I,trivial) λds h Q t c=>?_;cases c with|@mk s U i l w o r v _ _ ok H a e q A=>cases e with|@mk x y r E d f j=>refine(rfl,?_);rw[E]at ok;have(rfl,b):=ok.Lm;refine .ok b d ?_;have(ws,C,D,F,L,M):=id a;refine f7 (dF H) (.ok _ _ _ _ (dF H) a rfl λo1 X=>?_);rw[oi];have Y:=cg (o':=o1) H;have(m,K,_,_,_,_):=id X;refine cR (dS uA) (aw (K3 n') (f7 (dF Y) (.ok _ _ _ _ (dF Y) X rfl λn Z=>?_)));rw[oi];revert q;refine Uk f λz p G q=>aw (by show(J&&aa4 z.length n9)=J;exact p) (Lz G ?_);refine ir n' (eO (aE (fH j) (by ext))) ?_;refine q _ _ rfl [] i _ n ?_ (cg Y) Z (by rw[BQ];exact gG.set);rw[b];show OK _ [] [] s.ops;rw[E];exact .nil
seal j9 lY zK lV uS jL jD kM f9 in
def Aj(B:LX ca W)(S:SX W)(I:Di (Lx ca) W 600 4)(D:DX ca W 39 4 OF):DX ca W 46 6 (vG GY):=by refine B.e (k:=4) 3 a' [(54,G4),(39,OF)] [600] (.seq (.ex (.wQ 54 (.u2 0 (.g 13)))) (.seq (.set 2 (.xh 600 1)) (.one (.ex (.mt fQ (.fld 6 2 0) (.u (.tup (.u2 2 (.wQ 39 (.u 1)))))))))) S.DY rfl ((sW B S).up rfl,D.up rfl,trivial) (I,trivial) λds h Q n c=>?_;cases c with|@mk s U i l w o r p _ _ ok H a e q t=>cases e with|@mk x r E d f j=>refine(rfl,?_);rw[E]at ok;have(rfl,b):=ok.Lm;refine .ok b d ?_;have(ws,K,v,z,A,C):=id a;refine f7 (dF H) (.ok _ _ _ _ (dF H) a rfl λo1 X=>?_);rw[oi];have y:=cg (o':=o1) H;refine cR (dS uA) (aw (K3 sr) (.mk _ _ (dF y) X f λm Z=>?_));rw[oi];refine ir sr (eO (aE (fH j) (by ext))) ?_;refine q _ _ rfl [] i _ m ?_ (cg y) Z (by rw[BQ];exact gG.set);rw[b];show OK _ [] [] s.ops;rw[E];exact .nil
def AG(x:Pv):Pv:=match lk (d8 x) dI with|some K=>jP (K.takeWhile λk=>!aS k "rows")|none=>.non
abbrev Tp:Ct:=JJ (λx=>dw x&&(lk (d8 x) dI).isSome) AG
noncomputable def k9(s:Rp):Rp:=match s.ops with|[]=>{s with sec:=3}|_=>s
noncomputable def vo(s:Rp):ϑ:=match s.ops with|[]=>s.rs|(_,b_)::_=>b_
noncomputable def xJ(s:Rp)(x:Pv):Rp:=match s.ops with|[]=>{s with rs:=s.rs++[x]}|(pre,b_)::t=>{s with ops:=(pre,b_++[x])::t}
noncomputable def Q4(s:Rp)(pre:List Pc):Rp:={s with ops:=(pre,[])::s.ops}
def EK(s:Rp):(k9 s).ops=s.ops:=by
 unfold k9;split;.rfl
 .rfl
def EL(s:Rp):vo (k9 s)=vo s:=by
 unfold k9;split;.rename_i h;unfold vo;rw[h]
 .rfl
inductive NT:ϐ->ϑ->ϑ->ϑ->Prop|nil{r:ϑ}:NT [] r [] r|cons{k:Str}{ks:ϐ}{r r1 r2 xs:ϑ}{x:Pv}(p:K_ k r x r1)(t:NT ks r1 xs r2):NT (k::ks) r (x::xs) r2
def wb(ks:ϐ):ϐ:=ks.takeWhile λk=>!aS k "rows"
abbrev Z_:Ct:=mu (λx=>dw x&&(lk (d8 x) dI).isSome) λx K=>ie (lk (d8 x) dI) (λk=>K (jP (wb k))) False
inductive Vj(v:Str)(s:Rp)(ks:ϐ)(xs r':ϑ):Option (Rp×ϑ)->Prop|pl(hk:wb ks=ks)(hz:(vo s).length<100000):Vj v s ks xs r' (O (xJ (k9 s) (.tup (.str v::xs)),r'))|op(hk:(wb ks).length<ks.length)(hx:xs.length<=2)(hz:s.ops.length<100000):Vj v s ks xs r' (O (Q4 (k9 s) ((Pv.str v::xs).map .p),r'))
inductive Vk:Str->Rp->ϑ->Option (Rp×ϑ)->Prop|mk{v:Str}{s:Rp}{ks:ϐ}{xs r r':ϑ}{oo:Option (Rp×ϑ)}(ek:lk v dI=O ks)(e1:jv 3 s.sec=a')(t:NT (wb ks) r xs r')(f:Vj v s ks xs r' oo):Vk v s r oo
inductive J':Ct|mk{v:Str}{s:Rp}{U ids:Ϙ}{l:Hs}{w:Nat}{o:Ob}{r:ϑ}{oo:Option (Rp×ϑ)}{Q:Dv->Hs->Prop}{xc:XP}(ok:OK l U ids s.ops)(hw:l[w]?=O o)(wr:Wr r o)(e:Vk v s r oo)(q:∀s' r',oo=O (s',r')->∀U' fj l' o',OK l' U' fj s'.ops->l'[w]?=O o'->Wr r' o'->gG U w l U' l'->Q (.p .non) (hR s' fj l'))(q':oo=af->∀h',xc 4 h'):J' [.r 0,.p (.str v),.r (6+w)] (hR s ids l) Q xc
def OK.len:∀{U ids:Ϙ}{ops:List (List Pc×ϑ)},OK l U ids ops->ids.length=ops.length:=by intro U ids ops c;induction c with|nil=>rfl|cons e f C n N n3 h H t i=>rw[ag,ag,i]
structure Fld(s:Rp)(U ids:Ϙ)(l:Hs)(n:Nat)(x:Pv):Prop where
 fl:Og s l ids n
 at':(hR s ids l)[n]?=O (.lst (vo s))to:(vo s).length<100000->∃l',(hR s ids l).set n (.lst (vo s++[x]))=hR (xJ s x) ids l'/\OK l' U ids (xJ s x).ops/\(∀j o,j∉U->l[j]?=O o->l'[j]?=O o)/\l'.length=l.length
def Fg(x:Pv)(ok:OK l U ids s.ops):∃n,Fld s U ids l n x:=by have(S,bs,L,fs,r,a):=s;cases ok with|nil=>exact(4,(.top rfl,rfl,λ_=>(l,rfl,.nil,λ_ _ _ e=>e,rfl)))|@cons U V ids a i j ds pre b_ e f c b N n3 h g t=>
  refine(6+j,(.row e,dF f,λH=>(l.set j (.lst (b_++[x])),oi,?_,λk o d e=>?_,a6)))
  .have I:j≠i:=λz=>by rw[z,e]at f;cases f
   exact .cons (by rw[aB I];exact e) (cg f) (CS.set n3 c) b N n3 h (by rw[aa];exact H) (OK.set N t)
  .rw[aB (by intro z;subst z;exact d (ao _ au))];exact e
def MI:Bl (i::ids)=Bl ids++[.r (6+i)]:=by unfold Bl;rw[eV,jE]
theorem η:∀xs:ϑ,CS l [] (xs.map .p) (xs.map .p)|[]=>.nil|_::xs=>.p (η xs)
def X8{xs:ϑ}(h:xs.length<=4)(ok:OK l U ids s.ops):OK (l++[.lst [],.du [.r (6+l.length)],.du (xs.map .p++[.r (6+l.length)])]) ((l.length+2)::l.length::([]++U)) ((l.length+2)::ids) (Q4 s (xs.map .p)).ops:=by
 have lt:=ok.lt;refine .cons (ds:=xs.map .p) ?_ ?_ (η xs) (λz=>?_) (λz=>?_) (by simp) (by rw[ae];exact h) (bA _) ok.app;.rw[aM (by lia),show l.length+2-l.length=2 by lia];rfl
 .rw[aM (by lia),dD];rfl
 .have:=lt _ z;lia
 .have:=lt _ z;lia
def gG.X6:gG U w l ((l.length+2)::l.length::([]++U)) (l++m):=(λj o _ _ e=>bF e,λj h=>by
 rcases aK.mp h with rfl|h;.exact .inr (by lia)
 rcases aK.mp h with rfl|h;.exact .inr (by lia)
 exact .inl h,by rw[aa];lia)
def gG.app:gG U w l U (l++m):=(λj o _ _ e=>bF e,λ_ h=>.inl h,by rw[aa];lia)
def gN{h:Hs}:(h++[o])[h.length]?=O o:=by rw[aM (ay _),dD];rfl
def oS:(hR s ids l).length=6+l.length:=by show l.length+6=_;lia
def LV:hR s ids l++[.lst []]++[.du [.r (hR s ids l).length]]++[.du (xs++[.r (hR s ids l).length])]=hR s ids (l++[.lst [],.du [.r (6+l.length)],.du (xs++[.r (6+l.length)])]):=by rw[oS,aD,aD];rfl
def FR:(hR s ids l++[a]++[b]).length=6+(l.length+2):=by rw[aa,aa,oS];show 6+l.length+1+1=_;lia
def FT:(hR s ids l).set 5 (.du (Bl ids++[.r (6+i)]))=hR s (i::ids) l:=by unfold hR;rw[MI];rfl
def X9(ok:OK l U ids ops)(h:ops.length<100000):(Bl ids).length+1<=sizeLine:=by unfold Bl;rw[jW,dX,ok.len];exact aE h (by ext)
theorem MB:∀r:ϑ,vK (r.map Dv.p)=O r|[]=>rfl|x::r=>by show(match vK (r.map Dv.p)with|some X=>O (x::X)|none=>af)=_;rw[MB r]
def Bp(e:lk w dI=O ks):ks.length<=3:=by
 have:∀(l:List (Str×ϐ)),(l.all λp=>aa4 p.2.length 3)=J->lk w l=O ks->ks.length<=3:=by intro l;induction l with|nil=>intro _ e;cases e|cons p l i=>
   intro h e;rw[aG]at h;unfold lk at e;split at e;.cases e;exact ap.mp (ah h).1
   .exact i (ah h).2 e
 exact this dI (by ext) e
def NT.len(h:NT ks r xs r'):xs.length=ks.length:=by induction h with|nil=>rfl|cons _ _ i=>rw[ag,ag,i]
def vk(ks:ϐ):(ks.map Pv.str).all Az=true:=by rw[eh];exact ai.mpr λ_ _=>rfl
def Fo:(wb ks).length<=ks.length:=(List.takeWhile_sublist _).length_le
inductive CJ(s:Rp)(ids:Ϙ)(l:Hs)(w:Nat)(ks:ϐ)(xs r':ϑ):List Dv->List Dv->Hs->Prop|mk(k1 k2:ϐ)(x1 x2 r:ϑ)(o':Ob)(m:Hs)(e1:ks=k1++k2)(e2:xs=x1++x2)(t:NT k2 r x2 r')(wr:Wr r o'):CJ s ids l w ks xs r' (k1.map λk=>.p (.str k)) (x1.map .p) (hR s ids (l.set w o'++m))
seal j9 lY zK lV uS jL jD kM f9 jV in
def Cy(B:LX ca W)(S:SX W)(M:DX ca W 27 4 Z_)(N:DX ca W 44 8 cPt):DX ca W 52 10 J':=by refine B.e (k:=8) 5 a' [(2,B9 dI),(54,G4),(27,Z_),(44,cPt),(56,EW)] [] (.seq (.iff (.isN a' (.cl 2 [] (.u 1))) (.one (.raise 4 (.s "a row begins with another word"))) .nil) (.cut (.iff (.cmp hW (.bi da (.u (.fld 6 5 0))) (.i 0)) (.one (.ex (.wQ 54 (.u2 0 (.g 15))))) .nil) (.seq (.set 3 (.cl 27 [] (.u 1))) (.seq (.set 4 (.b2 cC (.lst (.u 1)) (.JW 1 [2] 0 (.p (.s 3)) .no (.wQ 44 (.u2 0 1)) J))) (.one (.iff (.cmp hW 3 (.cl 2 [] (.u 1))) (.one (.ex (.mt fQ (.wQ 56 (.u 0)) (.u (.bi lz (.u 4)))))) (.one (.ex (.mt fQ (.fld 6 5 0) (.u (.b2 T_ 4 (.du (.u (.tH .nil)))))))))))))) S.Iw rfl ((rE B S).up rfl,(sW B S).up rfl,M.up rfl,N.up rfl,(J3 B S).up rfl,trivial) trivial λds h Q xc c=>?_;cases c with|@mk v s U ids l w o r oo _ _ ok H Y e q q'=>
 refine(rfl,?_);have(E,e0,Z,ff):=e;rename_i ks xs r';refine aw rfl (bC E ?_);refine aa9 (λσ h=>σ=jN 5 [.r 0,.p (.str v),.r (6+w)]/\h=hR (k9 s) ids l) (ac1 ?_ ?_)
 .refine cR (dS uA) (fM P6 (bB (λz=>?_) λz=>(rfl,?_)))
  .have f:ids=[]:=by have z:jT ((Bl ids).length:Nat) 0=true:=z;unfold Bl at z;rw[cB,jW,dX]at z;exact cX.mp (by lia)
   have C:s.ops=[]:=cX.mp (by rw[<-ok.len,f];rfl);refine .ok f e0 (rfl,?_);unfold k9;rw[C]
  .have f:ids ≠[]:=λf=>by subst f;exact xi (show a'=J from z.symm)
   have C:k9 s=s:=by
    unfold k9;split;.rename_i C;exact absurd (cX.mp (by rw[ok.len,C];rfl)) f
    .rfl
   rw[C];rfl
 rintro _ _ ⟨rfl,rfl⟩;have wn:w∉U:=by have(ws,kk,_,_,_,_):=id Y;exact OK.wn H ok
 have D:OK l U ids (k9 s).ops:=by rw[EK];exact ok
 refine aw (by show(J&&(lk v dI).isSome)=J;rw[E];rfl) (bC E ?_);refine sU ((wb ks).map λk=>.p (.str k)) (CJ (k9 s) ids l w (wb ks) xs r') ?_ ?_ (λ_ _ _ _=>?_) (λpre y post P h' e1 j=>?_) λP h' j=>?_;.rw[ae];exact eO (aE Fo (aE (Bp E) (by ext)))
 .have z:=CJ.mk (s:=k9 s) (ids:=ids) (l:=l) (w:=w) (ks:=wb ks) (xs:=xs) (r':=r') [] (wb ks) [] xs r o [] rfl rfl Z Y;rw[Bt H,aI]at z;exact z
 .rw[bK];rfl
 .cases j with|mk k1 K x1 x2 r1 d m A G t I=>rw[A,aq]at e1;have e1:=qu e1;cases K with|nil=>cases e1|cons k K=>cases e1;cases t with|@cons _ _ _ r2 _ X x p t=>refine .mk _ _ _ _ (dF (bF (cg H))) I p λo2 l2 ZJ=>?_;have z:=CJ.mk (s:=k9 s) (ids:=ids) (l:=l) (w:=w) (ks:=wb ks) (xs:=xs) (r':=r') (k1++[k]) K (x1++[x]) X r2 o2 (m++l2) (by rw[A,aD];rfl) (by rw[G,aD];rfl) t ZJ;rw[aq,aq,<-aD,<-fq (a:=d) H]at z;show CJ _ _ _ _ _ _ _ _ _ ((hR (k9 s) ids (l.set w d++m)).set (6+w) o2++l2);rw[oi];exact z
 .generalize hp:(wb ks).map (λk=>Dv.p (Pv.str k))=pre at j;cases j with|mk k1 K x1 x2 r1 d m A G t I=>
  rw[A,aq]at hp;have k0:K=[]:=by have:=cy ad1 hp;rw[aa,ae,ae]at this;exact cX.mp (by lia)
  subst k0;cases t;rw[aI]at G;subst G;show(match vK (xs.map Dv.p)with|some ys=>_|none=>False);rw[MB];have xl:xs.length<=3:=by rw[Z.len];exact aE Fo (Bp E)
  refine aw (eO (aE (show 1+xs.length<=100 by lia) (by ext))) ?_;refine aw rfl (bC E ?_)
  refine aw (by unfold XT;rw[show SD (jP (wb ks))=J from vk _,show SD (jP ks)=J from vk _];show(_||(_||J))=J;rw[l6,l6]) ?_;have n_:OK (l.set w d++m) U ids (k9 s).ops:=(OK.set wn D).app;cases ff with|pl hk L=>
   have R:jx (jP (wb ks)) (jP ks)=true:=by rw[hk];exact wY (vk ks)
   refine bB (λ_=>?_) λz=>by have z:jx (jP (wb ks)) (jP ks)=false:=z;rw[R]at z;cases z
   have(n,F):=Fg (.tup (.str v::xs)) n_;refine .ok F.fl (aw (K3 F.at') (tM (ir F.at' (eO ?_) ?_)));.rw[EL];exact aE L (by ext)
   .have(l',A,T,k5,n5):=F.to (by rw[EL];exact L);have qq:=q _ _ rfl U ids l' d T (k5 w d wn (bF (cg H))) I (gG.set.trans (gG.app.trans (λj o h1 _=>k5 j o h1,λ_ h=>.inl h,by rw[n5];exact ay _)));rw[<-A]at qq;exact qq|op hk hx L=>
   have R:jx (jP (wb ks)) (jP ks)=false:=a8.mpr λz=>by have:=pR (show kI ((wb ks).map .str) (ks.map .str)=J from z);rw[ae,ae]at this;lia
   refine bB (λz=>by have z:jx (jP (wb ks)) (jP ks)=true:=z;rw[R]at z;cases z) λ_=>?_;refine cR (dS uA) (aw (K2 P6) ?_);refine Oo (h:=hR (k9 s) ids (l.set w d++m)++[.lst []]++[.du [.r (hR (k9 s) ids (l.set w d++m)).length]]) (x:=.p (.lst (.str v::xs))) (a:=(Pv.str v::xs).map .p) (b:=[.r (hR (k9 s) ids (l.set w d++m)).length]) (by rfl) (laD gN) (eO (aE (show((Pv.str v::xs).map Dv.p).length+1<=100 by rw[ae,ag];lia) (by ext))) ?_;rw[LV,FR];refine kZ P6 (eO (X9 D (by rw[EK];exact L))) ?_;rw[FT];exact q _ _ rfl _ _ _ d (X8 (xs:=.str v::xs) (by rw[ag];lia) n_) (bF (bF (cg H))) I (gG.set.trans (gG.app.trans gG.X6))
def yu:hR s ids l++m=hR s ids (l++m):=rfl
inductive G5:Ct|ok{s:Rp}{i:Nat}{ids:Ϙ}{l:Hs}{v:Str}{ds:List Dv}{n:Int}{Q:Dv->Hs->Prop}{xc:XP}(e:l[i]?=O (.du (.p (.str v)::ds)))(hn:n=(ds.length+1:Nat))(q:Q (.r (6+i)) (hR s (i::ids) l)):G5 [.r 0,.p (.str v),.p (.int n)] (hR s (i::ids) l) Q xc|no{s:Rp}{ids:Ϙ}{l:Hs}{v:Str}{n:Int}{Q:Dv->Hs->Prop}{xc:XP}(hi:ids=[])(q:∀h',xc 4 h'):G5 [.r 0,.p (.str v),.p (.int n)] (hR s ids l) Q xc
def Kb{P:Prop}(z:jT ((tK 6 ids++[x]).length:Nat) 0):P:=by rw[cB,aa]at z;have e:[x].length=1:=rfl;lia
def Pd{P:Prop}(h:ids=[])(z:jT ((Bl ids).length:Nat) 0=a'):P:=by subst h;exact xi z.symm
def abu{P:Prop}(z:N5 J (aS v v)):P:=by rw[aQ.mpr rfl]at z;cases z
def XC{P:Prop}(e:a=b)(z:N5 J (jT a b)):P:=by rw[cB.mpr e]at z;cases z
inductive GX:Rp->ϑ->Option (Rp×ϑ)->Prop|ok{s:Rp}{x:Pv}{r b_:ϑ}{t:List (List Pc×ϑ)}(e:s.ops=([.p (.str "try")],b_)::t):GX s (x::r) (O ({s with ops:=([.p (.str "try"),.l b_,.p x],[])::t},r))|no{s:Rp}{r:ϑ}(e:s.ops=[]):GX s r af
inductive Ju:Rp->ϑ->Option (Rp×ϑ)->Prop|mk{s:Rp}{x:Pv}{r b_:ϑ}{t:List (List Pc×ϑ)}(e:s.ops=([.p (.str "if"),.p x],b_)::t):Ju s r (O ({s with ops:=([.p (.str "if"),.p x,.l b_],[])::t},r))
inductive Jx:Rp->ϑ->Option (Rp×ϑ)->Prop|mk{s:Rp}{nm ps x:Pv}{r ows:ϑ}(e:s.ops=[([.p (.str "def"),.p nm,.p ps,.l ows],[])])(hz:ows.length<=100):Jx s (x::r) (O ({s with ops:=[([.p (.str "def"),.p nm,.p ps,.l (ows++[x])],[])]},r))
inductive Jt:Rp->ϑ->Option (Rp×ϑ)->Prop|mk{s:Rp}{x:Pv}{r:ϑ}(e1:s.ops=[])(e2:jv 2 s.sec=a'):Jt s (x::r) (O ({s with sec:=2,ops:=[([.p (.str "def"),.p x,.p (.lst r),.l []],[])]},[]))
seal j9 lY zK lV uS jL jD kM f9 jV in
def mx(B:LX ca W)(S:SX W):DX ca W 55 2 G5:=by refine B.e (k:=0) 4 a' [] [] (.seq (.iff (.cmp hW (.bi da (.u (.fld 6 5 0))) (.i 0)) (.one (.raise 4 (.s "a row stands where it may not"))) .nil) (.seq (.set 3 (.ix (.fld 6 5 0) (.neg (.i 1)))) (.seq (.iff (.bo (Wm.oc (.cmp G6 (.ix 3 (.i 0)) 1) (Wm.o1 (.cmp G6 (.bi da (.u 3)) 2)))) (.one (.raise 4 (.s "a row stands where it may not"))) .nil) (.re 3)))) S.DT rfl trivial trivial λds h Q x c=>?_;cases c with|@ok s i I l v ds n _ _ e H q=>refine(rfl,cR (dS uA) (fM CV (bB (λz=>Kb z) λ_=>cR (dS uA) (j6 CV (p0 _ _) (j6 (dF e) rfl (bB (λz=>abu z) λ_=>?_))))));refine fM (dF e) (bB (λz=>XC (by rw[H,ag]) z) λ_=>q)|@no s I l v n _ _ a q=>exact(rfl,cR (dS uA) (fM P6 (bB (λz=>q _) λz=>Pd a z)))
seal j9 lY zK lV uS jL jD kM f9 jV in
def ye(B:LX ca W)(S:SX W)(v:Di (Lx ca) W 600 4):DX ca W 50 6 (vG GX):=by refine B.e (k:=4) 3 a' [(55,G5)] [600] (.seq (.set 2 (.wQ 55 (.u3 0 (.s "try") (.i 2)))) (.seq (.ex (.mt fQ 2 (.u (.xh 600 1)))) (.one (.ex (.mt fQ 2 (.u (.tH .nil))))))) S.Bh rfl ((mx B S).up rfl,trivial) (v,trivial) λds h Q T c=>?_;cases c with|@mk s U I l w o r Y _ _ ok H a e q y=>refine(rfl,?_);cases e with|no e=>rw[e]at ok;exact .no ok.Lm.2 (y rfl)|@ok x r b_ t e=>
  have wn:w∉U:=by have(ws,A,_,_,_,_):=id a;exact OK.wn H ok
  rw[e]at ok;cases ok with|@cons U V I C i j ds pre b_ E f D n Z n3 hp hr t=>
  have(_,rfl,F):=D.pI;have(rfl,rfl):=F.nI;refine .ok E rfl ?_;have b:w≠i:=λz=>wn (z▸au);have G:w≠j:=λz=>wn (z▸ao _ au);have M:w∉U:=λz=>wn (ao _ (ao _ z));have g:i≠j:=λz=>by rw[z,f]at E;cases E
  have li:=(ak.mp E).1;have lj:=(ak.mp f).1;have(ws,A,_,_,_,_):=id a;refine aw (K2 (dF E)) (f7 (dF H) (.ok _ _ _ _ (dF H) a rfl λo1 X=>?_));rw[oi];have m:(l.set w o1)[i]?=O (.du [.p (.str "try"),.r (6+j)]):=by rw[aB b];exact E
  refine kZ (dF m) rfl ?_;rw[oi];have e3:=cg (o':=.du ([.p (.str "try"),.r (6+j)]++[.p x])) m;have L:((l.set w o1).set i (.du ([.p (.str "try"),.r (6+j)]++[.p x]))).length=l.length:=by rw[a6,a6]
  refine aw (K2 (dF e3)) ?_;refine kZ (bF (dF e3)) rfl ?_;have d:(hR s (i::I) ((l.set w o1).set i (.du ([.p (.str "try"),.r (6+j)]++[.p x])))).length=6+l.length:=by rw[oS,L]
  rw[yu,oi,d];refine q _ _ rfl (i::l.length::([j]++U)) (i::I) _ o1 (.cons (ds:=[.p (.str "try"),.r (6+j),.p x]) (cg (bF e3)) ?_ (.p (.l ?_ (.p .nil))) n λz=>by have:=t.lt _ z;lia λz=>by have:=aV.mp z;lia (show 3<=4 by ext) (bA _) (OK.set n (OK.app (OK.set n (OK.set M t))))) ?_ X (λk o N P R=>?_,λk h=>?_,?_);.rw[aB (by lia),<-L];exact gN
  .rw[aB g];refine bF ?_;rw[aB g,aB G];exact f
  .rw[aB (bX b)];refine bF ?_;rw[aB (bX b)];exact cg H
  .have K:i≠k:=λz=>N (z▸au);rw[aB K];refine bF ?_;rw[aB K,aB (bX P)];exact R
  .rcases aK.mp h with rfl|h;.exact .inl au
   rcases aK.mp h with rfl|h;.exact .inr (ay _)
   rcases aK.mp h with rfl|h;.exact .inl (ao _ au)
   .exact .inl (ao _ (ao _ h))
  .rw[a6,aa,L];lia
seal j9 lY zK lV uS jL jD kM f9 jV in
def Ah(B:LX ca W)(S:SX W):DX ca W 49 6 (vG Ju):=by refine B.e (k:=4) 2 a' [(55,G5)] [] (.one (.ex (.mt fQ (.wQ 55 (.u3 0 (.s "if") (.i 3))) (.u (.tH .nil))))) S.DV rfl ((mx B S).up rfl,trivial) trivial λds h Q X c=>?_;cases c with|@mk s U I l w o r D _ _ ok H a e q F=>refine(rfl,?_);cases e with|@mk x r b_ t e=>
  have wn:w∉U:=by have(ws,K,_,_,_,_):=id a;exact OK.wn H ok
  rw[e]at ok;cases ok with|@cons U V I b i j ds pre b_ E f C n N n3 G L t=>
  have(_,rfl,d):=C.pI;have(_,rfl,g):=d.pI;have(rfl,rfl):=g.nI;refine .ok E rfl ?_;have m:w≠i:=λz=>wn (z▸au);have v:i≠j:=λz=>by rw[z,f]at E;cases E
  have M:=(ak.mp E).1;have P:=(ak.mp f).1;refine aw (K2 (dF E)) (kZ (bF (dF E)) rfl ?_);rw[yu,oi,oS];refine q _ _ rfl (i::l.length::([j]++U)) (i::I) _ o (.cons (ds:=[.p (.str "if"),.p x,.r (6+j)]) (cg (bF E)) ?_ (.p (.p (.l ?_ .nil))) n λz=>by have:=t.lt _ z;lia λz=>by have:=aV.mp z;lia (show 3<=4 by ext) (bA _) (OK.set n (OK.app t))) ?_ a (λk o y R A=>?_,λk h=>?_,?_);.rw[aB (by lia)];exact gN
  .rw[aB v];exact bF f
  .rw[aB (bX m)];exact bF H
  .rw[aB (show i≠k from λz=>y (z▸au))];exact bF A
  .rcases aK.mp h with rfl|h;.exact .inl au
   rcases aK.mp h with rfl|h;.exact .inr (ay _)
   rcases aK.mp h with rfl|h;.exact .inl (ao _ au)
   .exact .inl (ao _ (ao _ h))
  .rw[a6,aa];lia
seal j9 lY zK lV uS jL jD kM f9 jV in
def Cw(B:LX ca W)(S:SX W)(n:Di (Lx ca) W 600 4):DX ca W 48 6 (vG Jx):=by refine B.e (k:=4) 3 a' [(55,G5)] [600] (.seq (.set 2 (.wQ 55 (.u3 0 (.s "def") (.i 5)))) (.seq (.iff (.cmp vW (.bi da (.u (.ix 2 (.i 4)))) (.i 0)) (.one (.raise 4 (.s "an own stands behind a row"))) .nil) (.one (.ex (.mt fQ (.ix 2 (.i 3)) (.u (.xh 600 1))))))) S.Iv rfl ((mx B S).up rfl,trivial) (n,trivial) λds h Q xc c=>?_;cases c with|@mk s U I l w o r oo _ _ ok H g e q q'=>refine(rfl,?_);cases e with|@mk N P x r m e v=>
  have wn:w∉U:=by have(ws,K,_,_,_,_):=id g;exact OK.wn H ok
  rw[e]at ok;cases ok with|@cons U V I y i j ds pre b_ E f C n1 n2 n3 hp hr t=>
  have(_,rfl,A):=C.pI;have(_,rfl,D):=A.pI;have(_,rfl,F):=D.pI;have(k,_,_,rfl,rfl,d,G):=F.lI;have(rfl,rfl):=G.nI;have(rfl,rfl):=t.Lm;refine .ok E rfl ?_;have L:w≠i:=λz=>wn (z▸au);have M:w≠j:=λz=>wn (z▸ao _ au);have wk:w≠k:=λz=>wn (by rw[z];simp);have R:k≠j:=λz=>n3 (by rw[z];simp);have T:k≠i:=λz=>by rw[z,E]at d;cases d
  have(ws,K,_,_,_,_):=id g;refine j6 (dF E) rfl (gR (dF f) ?_);refine j6 (dF E) rfl (aw (K3 (dF d)) (f7 (dF H) (.ok _ _ _ _ (dF H) g rfl λo1 X=>?_)));rw[oi];have b:(l.set w o1)[k]?=O (.lst m):=by rw[aB wk];exact d
  refine ir (dF b) (eO (aE (fH v) (by ext))) ?_;rw[oi];refine q _ _ rfl (i::j::([k]++[])) [i] _ o1 (.cons (ds:=[.p (.str "def"),.p N,.p P,.r (6+k)]) ?_ ?_ (.p (.p (.p (.l (cg b) .nil)))) (by simp) (by simp) n3 (show 4<=4 by ext) (bA _) .nil) ?_ X (λa o Y Z ea=>?_,λk h=>.inl h,?_);.rw[aB T,aB L];exact E
  .rw[aB R,aB M];exact f
  .rw[aB (bX wk)];exact cg H
  .rw[aB (show k≠a from λz=>Y (by rw[z];simp)),aB (bX Z)];exact ea
  .rw[a6,a6];exact ay _
seal j9 lY zK lV uS jL jD kM f9 jV in
def Cu(B:LX ca W)(S:SX W)(I:Di (Lx ca) W 600 4)(v:Di (Lx ca) W 602 2):DX ca W 47 6 (vG Jt):=by refine B.e (k:=4) 3 a' [(54,G4)] [600,602] (.seq (.ex (.wQ 54 (.u2 0 (.g 14)))) (.seq (.set 2 (.xh 600 1)) (.one (.ex (.mt fQ (.fld 6 5 0) (.u (.du (.u5 (.s "def") 2 (.xh 602 1) (.tH .nil) (.tH .nil))))))))) S.Iq rfl ((sW B S).up rfl,trivial) (I,v.le (by ext),trivial) λds h Q P c=>?_;cases c with|@mk s U z l w o r R _ _ ok b i e q T=>cases e with|@mk x r E A=>
 refine(rfl,?_);rw[E]at ok;have(rfl,j):=ok.Lm;refine .ok j A ?_;have(ws,Y,hk,hr,hs,hg):=id i;refine f7 (dF b) (.ok _ _ _ _ (dF b) i rfl λo1 X=>?_);rw[oi];have y:=cg (o':=o1) b;have(d,K,_,_,_,_):=id X;refine cR (dS uA) (aw (K2 P6) (f7 (dF y) (.ok _ _ _ _ (dF y) X rfl λf Z=>?_)));rw[oi];subst j;refine kZ (bF (bF (bF P6))) (by rfl) ?_;have H:=cg (o':=f) y;generalize m:(l.set w (Wo d K)).set w f=L at H⊢;have lL:l.length=L.length:=by rw[<-m,a6,a6]
 have G:(L++[.lst [],.lst [],.du [.p (.str "def"),.p x,.p (.lst r),.r (6+L.length),.r (6+(L.length+1))]])[L.length]?=O (.lst []):=by rw[aM (ay _),dD];rfl
 have C:(L++[.lst [],.lst [],.du [.p (.str "def"),.p x,.p (.lst r),.r (6+L.length),.r (6+(L.length+1))]])[L.length+1]?=O (.lst []):=by rw[aM (by lia),show L.length+1-L.length=1 by lia];rfl
 have D:(L++[.lst [],.lst [],.du [.p (.str "def"),.p x,.p (.lst r),.r (6+L.length),.r (6+(L.length+1))]])[L.length+2]?=O (.du [.p (.str "def"),.p x,.p (.lst r),.r (6+L.length),.r (6+(L.length+1))]):=by rw[aM (by lia),show L.length+2-L.length=2 by lia];rfl
 have F:=q _ _ rfl ((L.length+2)::(L.length+1)::([L.length]++[])) [L.length+2] _ f (.cons (ds:=[.p (.str "def"),.p x,.p (.lst r),.r (6+L.length)]) D C (.p (.p (.p (.l G .nil)))) (by simp) (by simp) (by simp) (show 4<=4 by ext) (bA _) .nil) (bF H) Z (λa o n t M=>bF (by rw[<-m,aB (bX t),aB (bX t)];exact M),λk h=>.inr (by simp at h;lia),by rw[aa];lia);have N:∀S:Rp,(hR S [] L++[Ob.lst []]++[Ob.lst []]++[Ob.du [.p (.str "def"),.p x,.p (.lst r),.r (hR S [] L).length,.r (hR S [] L++[Ob.lst []]).length]]).set 5 (.du (Bl []++[.r (hR S [] L++[Ob.lst []]++[Ob.lst []]).length]))=hR S [L.length+2] (L++[.lst [],.lst [],.du [.p (.str "def"),.p x,.p (.lst r),.r (6+L.length),.r (6+(L.length+1))]]):=λS=>by
  have n:(hR S [] L++[Ob.lst []]).length=6+(L.length+1):=by rw[aa,oS];rfl
  rw[FR,n,oS,aD,aD,yu,FT];rfl
 exact(N {s with sec:=2,ops:=[([.p (.str "def"),.p x,.p (.lst r),.l []],[])]})▸F
noncomputable def Fi:Pc->Pv|.p (.lst X)=>.tup X|.p x=>x|.l X=>.tup X
def QS:Option Bool->Bool|some a'=>J|_=>a'
def ny:Pc->Bool|.p (.lst _)=>J|.p x=>QS (HC 4 x)|.l _=>J
def oM(v:Str)(n:Nat):ϑ:=match aS v "if"&&aa6 n 3 with|true=>[.tup []]|false=>[]
inductive U9(s:Rp)(v:Str)(xs:ϑ)(t:List (List Pc×ϑ)):Rp->Prop|row(h2:aS v "def"=a')(hz:(vo {s with ops:=t}).length<100000):U9 s v xs t (xJ {s with ops:=t} (.tup (.str v::xs)))|df(h2:aS v "def"=J)(hz:s.fs.length<1000):U9 s v xs t {s with ops:=t,fs:=s.fs++[.tup xs]}
inductive Jv:Rp->ϑ->Option (Rp×ϑ)->Prop|mk{s s':Rp}{v:Str}{pre:List Pc}{r b_:ϑ}{t:List (List Pc×ϑ)}(e:s.ops=(.p (.str v)::pre,b_)::t)(h1:(aS v "try"&&aa6 (pre.length+2) 2)=a')(hc:pre.all ny)(f:U9 s v (pre.map Fi++.tup b_::oM v (pre.length+2)) t s'):Jv s r (O (s',r))
inductive FZ(l:Hs):List Dv->ϑ->Prop|nil:FZ l [] []|p{x:Pv}{ds:List Dv}{xs:ϑ}(h:QS (HC 4 x))(t:FZ l ds xs):FZ l (.p x::ds) (x::xs)|u{ys:ϑ}{ds:List Dv}{xs:ϑ}(t:FZ l ds xs):FZ l (.p (.lst ys)::ds) (.tup ys::xs)|l{k:Nat}{ys:ϑ}{ds:List Dv}{xs:ϑ}(e:l[k]?=O (.lst ys))(t:FZ l ds xs):FZ l (.r (6+k)::ds) (.tup ys::xs)
def FZ.P_{l:Hs}:∀{a b:List Dv}{x y:ϑ},FZ l a x->FZ l b y->FZ l (a++b) (x++y):=by intro a b x y h q;induction h with|nil=>exact q|p h t i=>exact .p h i|u t i=>exact .u i|l e t i=>exact .l e i
def FZ.of{l:Hs}:∀{V:Ϙ}{ds:List Dv}{C:List Pc},CS l V ds C->C.all ny->FZ l ds (C.map Fi):=by intro V ds C c h;induction c with
 |nil=>exact .nil|@p _ _ _ x t i=>have(a,H):=ah h;cases x with|lst y=>exact .u (i H)|_=>exact .p a (i H)
 |l e t i=>exact .l e (i (ah h).2)
def FZ.len{l:Hs}:∀{a:List Dv}{x:ϑ},FZ l a x->a.length=x.length:=by intro a x h;induction h with|nil=>rfl|p h t i=>rw[ag,ag,i]|u t i=>rw[ag,ag,i]|l e t i=>rw[ag,ag,i]
theorem FZ.at{l:Hs}:∀{a b:List Dv}{y:Dv}{x:ϑ},FZ l (a++y::b) x->∃z,x[a.length]?=O z/\(y=.p z/\QS (HC 4 z)=J\/(∃ys,y=.p (.lst ys)/\z=.tup ys)\/∃k ys,y=.r (6+k)/\l[k]?=O (.lst ys)/\z=.tup ys)|[],_,_,_,.p h t=>(_,rfl,.inl (rfl,h))|[],_,_,_,.u t=>(_,rfl,.inr (.inl (_,rfl,rfl)))|[],_,_,_,.l e t=>(_,rfl,.inr (.inr (_,_,rfl,e,rfl)))|_::a,_,_,_,.u t=>FZ.at (a:=a) t|_::a,_,_,_,.p h t=>FZ.at (a:=a) t|_::a,_,_,_,.l e t=>FZ.at (a:=a) t
def FZ.mono{l:Hs}(h:∀(k:Nat)(ys:ϑ),l[k]?=O (Ob.lst ys)->m[k]?=O (Ob.lst ys)):∀{a:List Dv}{x:ϑ},FZ l a x->FZ m a x:=by intro a x z;induction z with|nil=>exact .nil|p q t i=>exact .p q i|u t i=>exact .u i|l e t i=>exact .l (h _ _ e) i
def Qr(q:Q (.p (.bl J)) h):yU [.p (.lst ys),.p (.ty 4)] h Q:=q
def so:(hR s ids l)[3]?=O (.lst s.fs):=rfl
def RB:(hR s (i::ids) l).set 5 (.du (tK 6 ids.reverse))=hR s ids l:=rfl
inductive EJ(s:Rp)(U:Ϙ)(l:Hs)(w i:Nat)(v:Str)(xs:ϑ):Es->Hs->Prop|mk(U' ids:Ϙ)(l':Hs)(ds:List Dv)(ok:OK l' U' ids s.ops)(e:l'[i]?=O (.du ds))(fz:FZ l' ds (.str v::xs))(hz:gU ds.length)(kp:gG U w l U' l')(hw:l'[w]?=l[w]?):EJ s U l w i v xs [O (.r 0),O (.r (6+w)),O (.r (6+i)),af] (hR s ids l')
seal j9 lY zK lV uS jL jD kM f9 jV yU in
def Cv(B:LX ca W)(S:SX W):DX ca W 51 6 (vG Jv):=by refine B.e (k:=4) 4 a' [(56,EW)] [] (.seq (.iff (.cmp hW (.bi da (.u (.fld 6 5 0))) (.i 0)) (.one (.raise 4 (.s "an end has no row that it belongs to"))) .nil) (.seq (.set 2 (.m0 Xy (.fld 6 5 0))) (.cut (.iff (.bo (Wm.ac (.cmp hW (.ix 2 (.i 0)) (.s "try")) (Wm.a1 (.cmp hW (.bi da (.u 2)) (.i 2))))) (.one (.raise 4 (.s "a catch lacks"))) .nil) (.cut (.iff (.bo (Wm.ac (.cmp hW (.ix 2 (.i 0)) (.s "if")) (Wm.a1 (.cmp hW (.bi da (.u 2)) (.i 3))))) (.one (.ex (.mt fQ 2 (.u (.tH .nil))))) .nil) (.seq (.set 3 (.bi lz (.u (.E4 1 [] 0 (.l 2) .no (.N2 (.val (.bi j5 (.u2 0 (.ty 4)))) (.bi lz (.u 0)) 0) J)))) (.one (.iff (.cmp hW (.ix 3 (.i 0)) (.s "def")) (.one (.ex (.mt fQ (.fld 6 3 0) (.u (.sl 3 (.of (.i 1)) .no))))) (.one (.ex (.mt fQ (.wQ 56 (.u 0)) (.u 3))))))))))) S.Ir rfl ((J3 B S).up rfl,trivial) trivial λds h Q xc c=>?_;cases c with|@mk s U I l w o r oo _ _ ok H K e q q'=>refine(rfl,?_);cases e with|@mk s' v pre _ b_ t e g hc ff=>
  have wn:w∉U:=by have(ws,kk,_,_,_,_):=id K;exact OK.wn H ok
  rw[e]at ok;cases ok with|@cons D V I ops i j ds _ b_ E f cs n1 n2 n3 hp hr t0=>
  have(ds,rfl,c1):=cs.pI;have TR:pre.length<=3:=jH hp;have f0:=FZ.of c1 hc;have dl:ds.length=pre.length:=by rw[f0.len,ae]
  have x:FZ l (.p (.str v)::ds++[.r (6+j)]) (.str v::(pre.map Fi++[.tup b_])):=.p rfl (FZ.P_ f0 (.l f .nil));have wi:w≠i:=λz=>wn (z▸au);have li:=(ak.mp E).1;refine cR (dS uA) (fM CV (bB (λz=>Kb z) λ_=>cR (dS uA) (aw (K2 CV) (yZ CV (yF _ _) ?_))));rw[kU,RB];refine aa9 (λσ h=>σ=[O (.r 0),O (.r (6+w)),O (.r (6+i)),af]/\h=hR {s with ops:=t} I l) (ac1 ?_ ?_);.refine j6 (dF E) rfl (bB (λZ=>fM (dF E) (bB (λa=>?_) λ_=>(rfl,rfl))) λ_=>(rfl,rfl));have Z:aS v "try"=true:=Z;have a:jT (((.p (.str v)::ds++[Dv.r (6+j)]).length:Nat):Int) 2=true:=a;rw[cB,aa,ag,dl]at a;have e3:[Dv.r (6+j)].length=1:=rfl;rw[Z,show aa6 (pre.length+2) 2=J by rw[show pre.length+2=2 by lia];rfl]at g;cases g
  rintro _ _ ⟨rfl,rfl⟩;refine aa9 (EJ {s with ops:=t} (i::j::(V++D)) l w i v (pre.map Fi++.tup b_::oM v (pre.length+2))) (ac1 ?_ ?_)
  .have L:(.p (.str v)::ds++[Dv.r (6+j)]).length=pre.length+2:=by rw[aa,ag,dl];rfl
   have no:oM v (pre.length+2)=[]->EJ {s with ops:=t} (i::j::(V++D)) l w i v (pre.map Fi++.tup b_::oM v (pre.length+2)) [O (.r 0),O (.r (6+w)),O (.r (6+i)),af] (hR {s with ops:=t} I l):=λM=>by rw[M];exact .mk D I l _ t0 E x (by rw[L];exact eO (aE (show pre.length+2<=100 by lia) (by ext))) (λ_ _ _ _ e=>e,λk h=>.inl (ao _ (ao _ (ba _ h))),ay _) rfl
   refine j6 (dF E) rfl (bB (λZ=>fM (dF E) (bB (λa=>?_) λa=>no ?_)) λZ=>no ?_)
   .have Z:aS v "if"=true:=Z;have a:jT (((.p (.str v)::ds++[Dv.r (6+j)]).length:Nat):Int) 3=true:=a;rw[cB,L]at a;have M:oM v (pre.length+2)=[.tup []]:=by unfold oM;rw[Z,show pre.length+2=3 by lia];rfl
    refine aw (K2 (dF E)) (kZ (bF (dF E)) (by rw[L];exact eO (aE (show pre.length+2+1<=100 by lia) (by ext))) ?_);have N:(hR {s with ops:=t} I l).length=6+l.length:=oS;rw[yu,oi,N,M];have kl:∀(k:Nat)(ys:ϑ),l[k]?=O (Ob.lst ys)->((l++[Ob.lst []]).set i (Ob.du (Dv.p (.str v)::ds++[Dv.r (6+j)]++[Dv.r (6+l.length)])))[k]?=O (Ob.lst ys):=λk ys b=>by rw[aB λz=>by rw[<-z,E]at b;cases b];exact bF b
    refine .mk D I _ _ (OK.set n1 t0.app) (cg (bF E)) ?_ (by rw[aa,L];exact eO (aE (show pre.length+2+1<=100 by lia) (by ext))) (λk o g _ b=>?_,λk h=>.inl (ao _ (ao _ (ba _ h))),by rw[a6,aa];lia) ?_
    .have:=FZ.P_ (FZ.mono kl x) (.l (k:=l.length) (ys:=[]) (by rw[aB (by lia)];exact gN) .nil);have e4:Pv.str v::(pre.map Fi++[.tup b_])++[.tup []]=Pv.str v::(pre.map Fi++[.tup b_,.tup []]):=by rw[hJ,aD];rfl
     rw[e4]at this;exact this
    .rw[aB (show i≠k from λz=>g (z▸au))];exact bF b
    .rw[aB (bX wi),H];exact bF H
   .have a:jT (((.p (.str v)::ds++[Dv.r (6+j)]).length:Nat):Int) 3=false:=a;unfold oM;rw[show aa6 (pre.length+2) 3=a' from a8.mpr λz=>by have:=ax z;have z3:=a8.mp a;rw[Ne,cB,L]at z3;lia,N9]
   .have Z:aS v "if"=false:=Z;unfold oM;rw[Z];rfl
  rintro _ _ ⟨U',R,l',V0,vJ,e',d,T,X,pb⟩;refine aw (by rw[AR (dF e')];rfl) (sU V0 (λP A G=>G=hR {s with ops:=t} R l'/\A=((Pv.str v::(pre.map Fi++.tup b_::oM v (pre.length+2))).take P.length).map .p) T (rfl,rfl) (λP A G j=>?_) (λP y post A G E j=>?_) λA G j=>?_);.have(rfl,_):=j;exact AR (dF e')
  .have(rfl,rfl):=j;rw[E]at d;have(z,ez,cz):=FZ.at d;have Y:((Pv.str v::(pre.map Fi++.tup b_::oM v (pre.length+2))).take P.length).map Dv.p++[.p z]=((Pv.str v::(pre.map Fi++.tup b_::oM v (pre.length+2))).take (P++[y]).length).map .p:=by rw[aa,show[y].length=1 from rfl,kD ez,aq];rfl
   rcases cz with ⟨rfl,hn⟩|⟨ys,rfl,rfl⟩|⟨k,ys,rfl,b,rfl⟩
   .refine Qq ?_ (rfl,Y);unfold QS at hn;split at hn;.assumption
    .cases hn
   .exact Qr (tM (rfl,Y))
   .exact Qp (dF b) (jX (dF b) (rfl,Y))
  .have(rfl,rfl):=j;have fl:=d.len;rw[fl,cY];show(match vK ((Pv.str v::(pre.map Fi++.tup b_::oM v (pre.length+2))).map Dv.p)with|some xs=>_|none=>False);rw[MB];have wU:w∉U':=λz=>(X.u w z).elim wn λz=>by have:=(ak.mp H).1;lia
   refine tM (uG rfl (bB (λz=>?_) λz=>?_));.have z:aS v "def"=true:=z;cases ff with|row C m=>rw[C]at z;cases z|df C m=>refine cR (dS uA) (aw (K3 so) ?_);refine ir (z:=.tup (pre.map Fi++.tup b_::oM v (pre.length+2))) so (eO (aE m (by ext))) ?_;exact q _ _ rfl U' R l' o vJ (pb.trans H) K X
   .have z:aS v "def"=false:=z;cases ff with|df C m=>rw[C]at z;cases z|row C m=>have(n,F):=Fg (.tup (.str v::(pre.map Fi++.tup b_::oM v (pre.length+2)))) vJ;refine .ok F.fl (aw (K3 F.at') (ir F.at' (eO (aE m (by ext))) ?_));have(l2,e2,ok2,k2,n2):=F.to m;have qq:=q _ _ rfl U' R l2 o ok2 (k2 w o wU (pb.trans H)) K (X.trans (λj o g _=>k2 j o g,λ_ h=>.inl h,by rw[n2];exact ay _));rw[<-e2]at qq;exact qq
inductive Sub:Str->Rp->ϑ->Option (Rp×ϑ)->Prop|box{s:Rp}{r:ϑ}{oo:Option (Rp×ϑ)}(t:GU s r oo):Sub "box" s r oo|list{s:Rp}{r:ϑ}{oo:Option (Rp×ϑ)}(t:GY s r oo):Sub "list" s r oo|cat{s:Rp}{r:ϑ}{oo:Option (Rp×ϑ)}(t:GX s r oo):Sub "catch" s r oo|Θ{s:Rp}{r:ϑ}{oo:Option (Rp×ϑ)}(t:Ju s r oo):Sub "else" s r oo|own{s:Rp}{r:ϑ}{oo:Option (Rp×ϑ)}(t:Jx s r oo):Sub "own" s r oo|dfn{s:Rp}{r:ϑ}{oo:Option (Rp×ϑ)}(t:Jt s r oo):Sub "def" s r oo|fin{s:Rp}{r:ϑ}{oo:Option (Rp×ϑ)}(t:Jv s r oo):Sub "end" s r oo|row{v:Str}{s:Rp}{r:ϑ}{oo:Option (Rp×ϑ)}(t:Vk v s r oo):Sub v s r oo
noncomputable def afC:Option (Rp×ϑ)->Option Rp|some (s,[])=>O s|_=>af
theorem yI:∀{l:List (Str×α)},lk v l=O x->∃p∈l,v=p.1
 |[],e=>by cases e|p::l,e=>by
  have e:(match aS v p.1 with|true=>O p.2|false=>lk v l)=O x:=e;split at e;.rename_i h;exact(p,au,aQ.mp h)
  .have(q,H,e):=yI e;exact(q,ao _ H,e)
def QR(e:lk v dI=O ks):lk v HL=none:=by
 have(p,h,e):=yI e;have:∀p∈dI,(lk p.1 HL).isNone=true:=by ext
 rw[e];exact Option.isNone_iff_eq_none.mp (this p h)
inductive rp:Rp->ϑ->Option Rp->Prop|mk{v:Str}{s:Rp}{r:ϑ}{oo:Option (Rp×ϑ)}(e:Sub v s r oo):rp s (.str v::r) (afC oo)
inductive cLine:Ct|mk{s:Rp}{U ids:Ϙ}{l:Hs}{w:Nat}{o:Ob}{r:ϑ}{oo:Option Rp}{Q:Dv->Hs->Prop}{xc:XP}(ok:OK l U ids s.ops)(hw:l[w]?=O o)(wr:Wr r o)(e:rp s r oo)(q:∀s',oo=O s'->∀U' fj l',OK l' U' fj s'.ops->gG U w l U' l'->Q (.p .non) (hR s' fj l'))(q':oo=af->∀h',xc 4 h'):cLine [.r 0,.r (6+w)] (hR s ids l) Q xc
inductive LJ(U:Ϙ)(l:Hs)(w:Nat)(v:Str)(oo:Option (Rp×ϑ)):Es->Hs->Prop|mk(s:Rp)(r:ϑ)(U' fj:Ϙ)(l':Hs)(o:Ob)(e:oo=O (s,r))(ok:OK l' U' fj s.ops)(hw:l'[w]?=O o)(wr:Wr r o)(kp:gG U w l U' l'):LJ U l w v oo [O (.r 0),O (.r (6+w)),O (.p (.str v))] (hR s fj l')
seal j9 lY zK lV uS jL jD kM f9 jV yU in
def Ai(B:LX ca W)(S:SX W)(T:Di (Lx ca) W 600 4)(Y:Di (Lx ca) W 601 2)(D:DX ca W 45 6 (vG GU))(i:DX ca W 46 6 (vG GY))(j:DX ca W 47 6 (vG Jt))(m:DX ca W 48 6 (vG Jx))(A:DX ca W 49 6 (vG Ju))(C:DX ca W 50 6 (vG GX))(E:DX ca W 51 6 (vG Jv))(F:DX ca W 52 10 J'):DX ca W 53 12 cLine:=by refine B.e (k:=10) 3 a' [(45,vG GU),(46,vG GY),(47,vG Jt),(48,vG Jx),(49,vG Ju),(50,vG GX),(51,vG Jv),(52,J')] [600,601] (.seq (.set 2 (.xh 600 1)) (.cut (.iff (.tin 100 2) (.one (.ex (.clf 100 2 (.u2 0 1)))) (.one (.ex (.wQ 52 (.u3 0 2 1))))) (.one (.iff (.val (.xh 601 1)) (.one (.raise 4 (.s "a row has more words than it may have"))) .nil)))) S.DW rfl (D.up rfl,i.up rfl,j.up rfl,m.up rfl,A.up rfl,C.up rfl,E.up rfl,F.up rfl,trivial) (T.le (by ext),Y.le (by ext),trivial) λds h Q xc c=>?_;cases c with|@mk s U I l w o r G _ _ ok H M e q g=>cases e with|@mk v _ r G e=>
 refine(rfl,?_);have(ws,kk,_,_,_,_):=id M;have wn:=OK.wn H ok;refine f7 (dF H) (.ok _ _ _ _ (dF H) M rfl λo1 X=>?_);rw[oi];have N:=OK.set (o:=o1) wn ok;have y:=cg (o':=o1) H;refine aa9 (LJ U l w v G) (ac1 ?_ ?_);.cases e with|box t=>exact .mk N y X t (λa R e u f L o' b P K d=>.mk a R u f L o' e b P K (gG.set.trans d)) λe=>g (by rw[e];rfl)|list t=>exact .mk N y X t (λa R e u f L o' b P K d=>.mk a R u f L o' e b P K (gG.set.trans d)) λe=>g (by rw[e];rfl)|cat t=>exact .mk N y X t (λa R e u f L o' b P K d=>.mk a R u f L o' e b P K (gG.set.trans d)) λe=>g (by rw[e];rfl)|Θ t=>exact .mk N y X t (λa R e u f L o' b P K d=>.mk a R u f L o' e b P K (gG.set.trans d)) λe=>g (by rw[e];rfl)|own t=>exact .mk N y X t (λa R e u f L o' b P K d=>.mk a R u f L o' e b P K (gG.set.trans d)) λe=>g (by rw[e];rfl)|dfn t=>exact .mk N y X t (λa R e u f L o' b P K d=>.mk a R u f L o' e b P K (gG.set.trans d)) λe=>g (by rw[e];rfl)|fin t=>exact .mk N y X t (λa R e u f L o' b P K d=>.mk a R u f L o' e b P K (gG.set.trans d)) λe=>g (by rw[e];rfl)|row t=>have go:J' [.r 0,.p (.str v),.r (6+w)] (hR s I (l.set w o1)) (λ_ Z=>LJ U l w v G [O (.r 0),O (.r (6+w)),O (.p (.str v))] Z) xc:=.mk N y X t (λa R e u f L o' b P K d=>.mk a R u f L o' e b P K (gG.set.trans d)) λe=>g (by rw[e];rfl);have(ek,_,_,_):=id t;have nl:=QR ek;refine bB (λz=>?_) λ_=>go;have z:((lk v HL).map λn=>aa5 n ("":Str)).isSome=true:=z;rw[nl]at z;cases z
 .rintro _ _ ⟨a,R,u,f,L,o',e',b,P,K,d⟩;subst e';have(SY,kk',_,_,_,_):=id K;refine f7 (dF P) (.mk _ _ (dF P) K ?_);cases R with|nil=>exact q a rfl u f L b d|cons x R=>exact g rfl _
def qU:Pv->Bool|.str z=>!aS z ""|_=>a'
def gT(z:Str):ϑ:=((ac5 z " ").map Pv.str).filter qU
def QA(n:Nat)(x:Pv):Bool:=dw x&&aa4 (d8 x).length n
noncomputable def kf:Pv->Bool|.lst (.str z::_)=>!Txt.startswith z "#"|_=>a'
def cO(t:Str):ϑ:=((ac5 t "\n").map λz=>Pv.lst (gT z)).filter kf
def BO:Pv->Ob|.lst ws=>Wo ws 0|_=>.lst []
noncomputable def D6(n:Nat):List Dv:=(ac7 n).map λk=>.r k
def Br{h:Hs}{a:Ob}:(h++[a]).set h.length b=h++[b]:=by rw[Jo,bL (cI _),dD];rfl
inductive OL:Ct|mk{t:Str}{Q:Dv->Hs->Prop}{xc:XP}(ht:t.length<=900000)(q:Q (.r (cO t).length) ((cO t).map BO++[.du (D6 (cO t).length)])):OL [.p (.str t)] [] Q xc
def qi(h:y.length=1)(H:z.length<=900000):(!Nat.beq y.length 0&&(gU z.length&&(gU (ad5 z (ab9 z y 0 z.length (z.length+1)) y.length).length&&gU (ac5 z y).length)))=true:=by have h1:=IN z y;have h2:=PyProof.Rows.len_partsBetween z (ab9 z y 0 z.length (z.length+1)) y.length;have a:=StrLaws.occ_length_le z y 0 z.length (z.length+1);rw[h]at h2⊢;rw[dW (show z.length<=n9 from aE H (by ext)),dW (show(ac5 z y).length<=n9 from aE h1 (by show z.length+2<=1000000;lia)),dW (show(ad5 z (ab9 z y 0 z.length (z.length+1)) 1).length<=n9 by rw[h2];show _<=1000000;lia)];rfl
def CA(B:LX ca W)(S:SX W):DX ca W 38 2 (JJ (QA 900000) λx=>.lst (gT (d8 x))):=by
 refine B.e (k:=0) 1 J [] [] (.re (.comp 1 [] (.one 0) (.s (.mt QG 0 (.u (.s " ")))) (.one (.cmp G6 0 (.s ""))) 0)) S.Iy rfl trivial trivial (zJ λx Q X H=>?_);have(a,h):=ah H;revert h;refine lM a λz h q=>?_;refine aw (qi rfl (ap.mp h)) ?_;refine nz qU id rfl (λy b=>?_) ?_;.have(w,_,rfl):=a0.mp b;exact(λR q=>q,λ_ R q=>q)
 .rw[IS];exact q
def Ao(B:LX ca W)(S:SX W)(I:Di (Lx ca) W 5 2):DX ca W 37 4 OL:=by refine B.e (k:=2) 2 a' [(38,JJ (QA 900000) λx=>.lst (gT (d8 x)))] [5] (.seq (.setC 1 1 [] (.one 0) (.s (.mt QG 0 (.u (.s "\n")))) .no (.cl 38 [] (.u 0))) (.re (.E4 1 [] 0 (.p (.s 1)) (.one (.bo (Wm.ac (.cmp vW (.bi da (.u 0)) (.i 0)) (Wm.a1 (.not (.val (.mt y8 (.ix 0 (.i 0)) (.u (.s "#"))))))))) (.nw 5 (.u 0)) a'))) S.D1 rfl ((CA B S).up rfl,trivial) (I,trivial) λds h Q X c=>?_;cases c with|@mk t Q _ b q=>
 refine(rfl,aw (qi rfl b) ?_);have f:∀z∈ac5 t "\n",z.length<=900000:=λz d=>aE (PyProof.Rows.part_short d) b;refine eX (λy=>.lst (gT (d8 y))) rfl (λy g=>?_) ?_;.have(w,m,rfl):=a0.mp g;exact λR q=>aw (show QA 900000 (.str w)=J by unfold QA;rw[show aa4 (d8 (.str w)).length 900000=J from ap.mpr (f w m)];rfl) q
 .rw[bK];refine sU (((ac5 t "\n").map λz=>Pv.lst (gT z)).map Dv.p) (λpre a H=>H=((pre.map Bb).filter kf).map BO/\a=D6 ((pre.map Bb).filter kf).length) ?_ (rfl,rfl) (λpre a H j=>rfl) (λpre y post a H E j=>?_) λa H j=>?_;.rw[ae,ae];have:=IN t "\n";exact dW (aE this (by show _<=1000000;lia))
  .have(rfl,rfl):=j;have(p,n,rfl):=a0.mp (show y∈((ac5 t "\n").map λz=>Pv.lst (gT z)).map Dv.p by rw[E];simp);have(z,d,rfl):=a0.mp n;clear E;have no:kf (.lst (gT z))=a'->((pre.map Bb).filter kf).map BO=(((pre++[Dv.p (.lst (gT z))]).map Bb).filter kf).map BO/\D6 ((pre.map Bb).filter kf).length=D6 (((pre++[Dv.p (.lst (gT z))]).map Bb).filter kf).length:=λe=>by rw[aq,b7,show([Dv.p (.lst (gT z))].map Bb).filter kf=[]from jn (by show ¬kf (.lst (gT z))=J;rw[e];exact aL),aI];exact(rfl,rfl)
   have Y:kf (.lst (gT z))->((pre.map Bb).filter kf).map BO++[Wo (gT z) 0]=(((pre++[Dv.p (.lst (gT z))]).map Bb).filter kf).map BO/\D6 ((pre.map Bb).filter kf).length++[.r (((pre.map Bb).filter kf).map BO).length]=D6 (((pre++[Dv.p (.lst (gT z))]).map Bb).filter kf).length:=λe=>by rw[aq,b7,show([Dv.p (.lst (gT z))].map Bb).filter kf=[.lst (gT z)]from cD e,aq,aa,ae];exact(rfl,by show _=D6 (_+1);unfold D6;rw[List.range_succ,aq];rfl)
   have st:∀x∈gT z,∃w,x=Pv.str w:=λx o=>by have(w,_,rfl):=a0.mp (sQ.mp o).1;exact(w,rfl)
   revert no Y st;cases gT z with|nil=>exact λno _ _=>no rfl|cons x ws=>intro no Y st;have(w,rfl):=st x au;refine bB (λe=>OH.mk gN ?_) λe=>no e;rw[Br];exact Y e
  .have(rfl,rfl):=j;have v:(((ac5 t "\n").map λz=>Pv.lst (gT z)).map Dv.p).map Bb=(ac5 t "\n").map λz=>Pv.lst (gT z):=by rw[bK];exact IS _
   rw[v];have l:((cO t).map BO).length=(cO t).length:=ae ..;rw[<-l]at q;rw[l]at q;have q:Q (.r ((cO t).map BO).length) ((cO t).map BO++[.du (D6 (cO t).length)]):=by rw[l];exact q
   exact q
inductive Run:Rp->ϑ->Option Rp->Prop|nil{s:Rp}:Run s [] (O s)|cons{s s':Rp}{r:ϑ}{rs:ϑ}{o:Option Rp}(e:rp s r (O s'))(t:Run s' rs o):Run s (.lst r::rs) o|no{s:Rp}{r:ϑ}{rs:ϑ}(e:rp s r af):Run s (.lst r::rs) af
def s0:Rp:=(0,[],[],[],[],[])
def Kc(o:Option Rp)(K:Pv->Prop)(X:Nat->Prop):Prop:=match o with|none=>X 4|some s=>match s.ops with|[]=>gd (dz (.tup [.tup s.bs,.tup s.ls,.tup s.fs,.tup s.rs])) (ie (wD (.tup s.bs) (.tup s.ls) (.tup s.fs) (.tup s.rs)) X (K (.tup [.tup s.bs,.tup s.ls,.tup s.fs,.tup s.rs])))|_=>X 4
def Hr:Pv->Bool|.lst ws=>ws.all gW&&aa4 ws.length n9|_=>a'
inductive JQ:Ct|mk{t:Str}{o:Option Rp}{Q:Dv->Hs->Prop}{xc:XP}(ht:t.length<=900000)(hg:(cO t).all Hr)(e:Run s0 (cO t) o)(q:Kc o (λx=>Q (.p x) []) λc=>xc c []):JQ [.p (.str t)] [] Q xc
def QJ{os:Hs}:QI [] n [] os h=h++os.map (IW [] n):=by cases os with|nil=>rw[b8,aI];rfl|cons _ _=>rfl
theorem Lg:∀{b_:ϑ},b_.all Hr=J->(b_.map BO).map (IW [] n)=b_.map BO|[],_=>rfl|.lst ws::b_,h=>by rw[aH,aH,Lg (ah h).2];rfl|.non::_,h=>by cases h|.bl _::_,h=>by cases h|.int _::_,h=>by cases h|.str _::_,h=>by cases h|.tup _::_,h=>by cases h|.scr _::_,h=>by cases h|.dct _ _::_,h=>by cases h|.obj _ _::_,h=>by cases h|.fn _::_,h=>by cases h|.ty _::_,h=>by cases h
def acA:(D6 m).map (Tj [] n)=tK n (ac7 m):=by unfold D6 tK;rw[bK];rfl
def YW{b_:ϑ}(h:b_.all Hr)(H:k<b_.length):∃ws,b_[k]?=O (.lst ws)/\Hr (.lst ws)=true:=by have e:=aN H;have g:=ai.mp h _ (hU H);revert e g;cases b_[k]<;>first|(intro e g;cases g;done)|exact λe g=>(_,e,g)
inductive RJ(t:Str)(b_:ϑ)(o:Option Rp):List Dv->List Dv->Es->Hs->Prop|mk(pre post:List Dv)(s:Rp)(U ids:Ϙ)(l:Hs)(v:Option Dv)(ok:OK l U ids s.ops)(hN:l[b_.length]?=O (.du (tK 6 (ac7 b_.length))))(nN:b_.length∉U)(hk:∀k ws,pre.length<=k->b_[k]?=O (.lst ws)->l[k]?=O (Wo ws 0)/\k∉U)(e:Run s (b_.drop pre.length) o):RJ t b_ o pre post [O (.p (.str t)),O (.r 0),v] (hR s ids l)
seal j9 lY zK lV uS jL jD kM f9 jV yU in
def VX(B:LX ca W)(S:SX W)(I6:Di (Lx ca) W 6 2)(D:DX ca W 37 4 OL)(A:DX ca W 53 12 cLine)(C:DX ca W 12 29 JO):DX ca W 36 30 JQ:=by refine B.e (k:=28) 3 J [(37,OL),(53,cLine),(12,JO)] [6] (.seq (.set 1 (.nw0 6)) (.seq (.foG 2 (.l (.cl 37 [] (.u 0))) (.one (.ex (.wQ 53 (.u2 1 2))))) (.seq (.iff (.cmp vW (.bi da (.u (.fld 6 5 1))) (.i 0)) (.one (.raise 4 (.s "an end lacks"))) .nil) (.re (.cl 12 [] (.u4 (.bi lz (.u (.fld 6 1 1))) (.bi lz (.u (.fld 6 2 1))) (.bi lz (.u (.fld 6 3 1))) (.bi lz (.u (.fld 6 4 1))))))))) S.ack rfl (D.up rfl,A.up rfl,C,trivial) (I6.le (by ext),trivial) λds h Q X c=>?_;cases c with|@mk t o Q X ht L e q=>
 refine(rfl,.mk rfl (.mk ht ?_));rw[QJ,aq,Lg L];have f:((cO t).map BO++[Ob.du (tK 6 (ac7 (cO t).length))])[(cO t).length]?=O (.du (tK 6 (ac7 (cO t).length))):=by have:=gN (h:=(cO t).map BO) (o:=Ob.du (tK 6 (ac7 (cO t).length)));rw[ae]at this;exact this
 have e0:[Ob.du (D6 (cO t).length)].map (IW [] 6)=[Ob.du (tK 6 (ac7 (cO t).length))]:=by show[Ob.du ((D6 (cO t).length).map (Tj [] 6))]=_;rw[acA]
 refine aw ?_ (Pr (tK 6 (ac7 (cO t).length)) (RJ t (cO t) o) ?_ (λpre post g F j=>?_) (λpre x post g F M j=>?_) λg F j=>?_);.show(mM (hR s0 [] ((cO t).map BO++[Ob.du (D6 (cO t).length)].map (IW [] 6))) (.r (6+(cO t).length))).isSome=J;rw[e0,AR (dF f)];rfl
 .show RJ t (cO t) o [] _ [O (.p (.str t)),O (.r 0),af] (hR s0 [] ((cO t).map BO++[Ob.du (D6 (cO t).length)].map (IW [] 6)));rw[e0];refine .mk [] _ s0 [] [] _ af .nil f (by simp) (λk ws _ d=>(?_,by simp)) e;refine bF ?_;rw[bN,d];rfl
 .cases j with|mk s U I l v ok N w d e=>exact AR (dF N)
 .have P:pre.length<(cO t).length:=by have:=cy ad1 M;rw[jW,cP,aa,ag]at this;lia
  have hx:x=.r (6+pre.length):=by
   have H:(pre++x::post)[pre.length]?=O x:=by rw[aM (ay _),dD];rfl
   rw[<-M]at H;unfold tK at H;rw[bN,xC P]at H;cases H;rfl
  subst hx;cases j with|mk s U I l v ok N w d e=>
  have(ws,m,G):=YW L P;have ed:(cO t).drop pre.length=.lst ws::(cO t).drop (pre.length+1):=by have(hl,E):=ak.mp m;rw[<-E,fT]
  rw[ed]at e;have(T,wU):=d pre.length ws (ay _) m;have Y:Wr ws (Wo ws 0):=(ws,0,bA _,rfl,dW (ap.mp (ah G).2),(ah G).1);have wN:(cO t).length≠pre.length:=by lia
  cases e with|@cons _ s' _ _ _ E t'=>
   refine .mk ok T Y E (λs2 K U' fj l' vJ R=>?_) (λe=>by cases e);cases K;refine .mk _ _ s' U' fj l' _ vJ (R.k _ _ w wN N) (λz=>(R.u _ z).elim w λz=>by have:=(ak.mp N).1;lia) (λk SY H h2=>?_) (by rw[aa];exact t');have H:pre.length+1<=k:=by rw[aa]at H;exact H
   have(Z,h4):=d k SY (by lia) h2;exact(R.k _ _ h4 (by lia) Z,λz=>(R.u _ z).elim h4 λz=>by have:=(ak.mp Z).1;lia)|no E=>exact .mk ok T Y E (λs2 K=>by cases K) λ_ F=>q
 .cases j with|mk s U I l v ok N w d e=>
  rw[jW,cP,ky]at e;cases e;have n:=ok.len;have q:match s.ops with|[]=>gd (dz (.tup [.tup s.bs,.tup s.ls,.tup s.fs,.tup s.rs])) (ie (wD (.tup s.bs) (.tup s.ls) (.tup s.fs) (.tup s.rs)) (λc=>X c []) (Q (.p (.tup [.tup s.bs,.tup s.ls,.tup s.fs,.tup s.rs])) []))|_=>X 4 []:=q;refine cR (dS uA) (fM P6 (bB (λz=>?_) λz=>?_));.have z:jv 0 ((Bl I).length:Nat)=true:=z;unfold Bl at z;rw[cw,jW,dX,n]at z;cases y:s.ops with|nil=>rw[y]at z;exact absurd z (by ext)|cons a b=>rw[y]at q;exact q
  .have z:jv 0 ((Bl I).length:Nat)=false:=z;have y:s.ops=[]:=by have z:=a8.mp z;unfold Bl at z;rw[Ne,cw,jW,dX,n]at z;exact cX.mp (by lia)
   rw[y]at q;refine cR (dS uA) (jX n' (cR (dS uA) (jX sr (cR (dS uA) (jX so (cR (dS uA) (jX hr4 ?_)))))));exact q
end
end W2
namespace F
open L2
section
variable{Γ:Gm}{t:Tb}
def uc{H:Hs}{xs:ϑ}{e:Pv->Option Es}{A:Es->Hs->KP->Prop}{Q:ϑ->Hs->Prop}(a:ϑ->ϑ->Hs->Prop)(f:a [] [] H)(step:∀pre y post acc h',xs=pre++y::post->a pre acc h'->match e y with
   |some b=>A b h' λys g=>match ys with|[.p v]=>OW H.length (a (pre++[y]) (acc++[v])) g|_=>False
   |none=>False)(fin:∀acc h',a xs acc h'->Q acc h'):Cf H xs e (λ_ h R=>R [.p (.bl J)] h) A Q:=by unfold Cf;refine(λi acc h'=>a (xs.take i) acc h',by dsimp only;rw[fF];exact f,λi y acc h' c j=>?_,λacc h' j=>fin acc h' (by dsimp only at j;rw[cY]at j;exact j));have z:=step _ y _ acc h' (kJ c) j;rw[<-kD c]at z;cases d:e y with|none=>rw[d]at z;exact z|some b=>rw[d]at z;exact z
end
end F
namespace W2
open L2 F
def yJ(c:Nat):sH (.str ⟨#[c]⟩)=Gx c:=by show(!decide ((⟨#[c]⟩:Str).cps.toList<("a":Str).cps.toList)&&!decide (("z":Str).cps.toList<(⟨#[c]⟩:Str).cps.toList))=Gx c;rw[agL,agM];rfl
def fS(n:Int):Bool:=ic 0 n&&jv n 2147483629
def Eh:fS n=J↔0<=n/\n<2147483629:=by unfold fS;rw[aO,bM,cw]
def AL:Pv->Bool|.scr x=>x.all isInt|_=>a'
def aaW:Pv->Bool|.int (.ofNat _)=>J|_=>a'
abbrev JK:Ct:=WO (λs k=>AL s&&aaW k) λ_ _ K=>∀i:Int,K (.int i)
def xT:Ct:=λds h Q _=>iC ds λ_ r=>iC r λ_ r=>nC r (nC h (∀n:Int,fS n=J->Q (.r 0) [.lst [.int n]]))
def mq:Ct:=λds h Q _=>rC ds λi r=>iC r λm r=>nC r (mC h λn g=>nC g (gd (aa6 i 0&&(fS n&&(ic 1 m&&ic m 1000000))) (∀(N:Int)(k:Nat),fS N=J->(k:Int)<m->Q (.p (.int (k:Nat))) [.lst [.int N]])))
def Jf(h:fS n)(H:1<=m)(a:m<=1000000):(J&&(fS n&&(ic 1 m&&ic m 1000000)))=true:=by rw[h,bM.mpr H,bM.mpr a];rfl
def kx(h:fS n)(H:(ic 1 m&&ic m 1000000)):(J&&(fS n&&(ic 1 m&&ic m 1000000)))=true:=by rw[h,H];rfl
def kG{xs:ϑ}{k:Nat}(h:(k:Int)<(xs.length:Nat)):∃x,x∈xs/\nk xs (k:Nat)=O x:=by
 have h:k<xs.length:=by lia
 exact(xs[k],hU h,aN h)
def aaj{b:Ss}(H:∀(m v:Int)(Q:Dv->Hs->Prop)(x:XP),fS v=J->1<=m->m<=1000000->(∀(N:Int)(k:Nat),fS N=J->(k:Int)<m->Q (.p (.int (k:Nat))) [.lst [.int N]])->b (eA J 1 Q x) (jN n [.r 0,.p (.int m)]) [.lst [.int v]]):∀ds h Q x,mq ds h Q x->ds.length=2/\b (eA J h.length Q x) (jN n ds) h:=by intro ds h Q x c;unfold mq at c;refine sJ c λi _ c=>uB c λm _ c=>fh c λc=>wo c λn _ c=>fh c λc=>?_;have(a,c):=bq c;have(d,e,f,g):=iN a;rw[ax d];exact(rfl,H _ _ Q x e (bM.mp f) (bM.mp g) c)
def uy(h:S_ i):xQ i j=true:=by unfold xQ;rw[h,l6]
def XA(h:0<=j)(H:j<2147483647):xQ i j=true:=by unfold xQ S_;rw[a9 (by lia),a9 (by lia)];rfl
def HK(c:Nat):Str:=⟨#[97+c]⟩
structure Ol(sh k:Nat)(ws:ϐ):Prop where
 len:ws.length=k
 nd:ws.Nodup
 nm:∀w∈ws,aY (.str w)=J
 one:∀w∈ws,w.length=1->∃j,j<k/\w=HK ((sh+j)%26)
def ZV(z:Str)(n:Nat):Prop:=z.length=n/\(ig z).all sH=J
def M7(h:ZV z n)(H:1<=n)(a:n<=6):aY (.str z)=true:=by show(aa4 1 z.length&&(aa4 z.length 6&&(ig z).all sH))=J;rw[h.1,h.2,ap.mpr H,ap.mpr a];rfl
def R0(x y:Str):ig (x++y)=ig x++ig y:=by unfold ig;rw[Ck,xy,aq]
def R5(a:ZV x n)(b:ZV y m):ZV (x++y) (n+m):=(by rw[bt,a.1,b.1],by rw[R0,aX,a.2,b.2];rfl)
def Ed(h:c<26):ZV (HK c) 1:=(rfl,by show(sH (.str ⟨#[97+c]⟩)&&J)=J;rw[yJ,zA];unfold Gx;rw[a9 (by lia),a9 (by lia)];rfl)
def EE{i:Int}(H:0<=i)(a:i<26):∃c:Nat,c<26/\i=(c:Nat)/\nk ZY.cps.toList i=O (97+c):=by
 have(c,rfl):=cW H;have h:c<26:=by lia
 refine(c,h,rfl,?_);show ZY.cps.toList[c]?=O (97+c);rw[Jy];have:∀d,d<26->[97,98,99,100,101,102,103,104,105,106,107,108,109,110,111,112,113,114,115,116,117,118,119,120,121,122][d]?=O (97+d):=by ext
 exact this c h
theorem yC:∀{ws:ϐ},g8 (.str x) (ws.map .str)=J↔x∈ws|[]=>Iff.intro (λh=>xi h) λh=>nomatch h|w::ws=>by show(aS w x||g8 (.str x) (ws.map .str))=J↔_;rw[cH,aQ,yC,aK];exact(λh=>h.elim (λe=>.inl e.symm) .inr,λh=>h.elim (λe=>.inl e.symm) .inr)
theorem wZ:∀{ws:ϐ},fP (ws.map .str)=J|[]=>rfl|_::ws=>wZ (ws:=ws)
def Xx(h:HK a=HK b):a=b:=by
 unfold HK at h;injection h with h;have:[97+a]=[97+b]:=by simpa using cy Array.toList h
 injection this with h;lia
def Ol.base(h:Ol s k ws)(g:k<26):Ol s (k+1) (ws++[HK ((s+k)%26)])where
 len:=by rw[aa,h.len];rfl
 nd:=de.mpr (h.nd,by simp,λa c b d e=>by rw[aV.mp d]at e;subst e;have(j,f,e):=h.one _ c rfl;have:=Xx e;lia);nm:=λw H=>(bf.mp H).elim (h.nm w) λz=>by rw[aV.mp z];exact M7 (Ed (Nat.mod_lt _ (by ext))) (by ext) (by ext)
 one:=λw H l=>(bf.mp H).elim (λz=>let (j,f,e):=h.one w z l;(j,by lia,e)) λz=>(k,by lia,aV.mp z)
def Ol.more(h:Ol s k ws)(n:z∉ws)(nm:aY (.str z))(one:z.length=1->z=HK ((s+k)%26)):Ol s (k+1) (ws++[z])where
 len:=by rw[aa,h.len];rfl
 nd:=de.mpr (h.nd,by simp,λa c b d e=>by rw[aV.mp d]at e;subst e;exact n c);nm:=λw H=>(bf.mp H).elim (h.nm w) λz=>by rw[aV.mp z];exact nm
 one:=λw H l=>(bf.mp H).elim (λz=>let (j,f,e):=h.one w z l;(j,by lia,e)) λz=>(k,by lia,by rw[aV.mp z]at l⊢;exact one l)
structure GZ(k:Nat)(xs:ϑ):Prop where
 len:xs.length=k
 nm:xs.all aY=J
 un:zt xs=J
def Ol.out(h:Ol s k ws):GZ k (ws.map .str)where
 len:=by rw[ae,h.len]
 nm:=by rw[eh];exact ai.mpr h.nm
 un:=by unfold zt jO;rw[bK];show Je (ws.map λz=>z)=J;rw[List.map_id',p8];exact h.nd
def D7(e:lJ 0 n=pre++x::post):x=.int (0+(pre.length:Nat))/\pre.length<n:=by
 have h:(lJ 0 n)[pre.length]?=O x:=by rw[e];simp
 unfold lJ at h;rw[bN]at h;have H:pre.length<n:=by
  have:(lJ 0 n).length=(pre++x::post).length:=by rw[e]
  unfold lJ at this;rw[ae,cP,aa,ag]at this;lia
 rw[xC H]at h;cases h;exact(rfl,H)
noncomputable def UX:ϑ:=[.str "box",.str "list",.str "def",.str "end",.str "else",.str "catch",.str "own",.str "set",.str "push",.str "while",.str "try"]++[.str "number",.str "size",.str "plus",.str "item",.str "not",.str "ask"]
def pH:Ct:=λds h Q _=>rC ds λi r=>iC r λa r=>nC r (mC h λn g=>nC g (gd (aa6 i 0&&(fS n&&(ic 0 a&&ic a 9))) (∀(N:Int)(x:ϑ),fS N=J->GZ a.toNat x->Q (.p (.lst x)) [.lst [.int N]])))
def PQ{b:Ss}(H:∀(a:Nat)(v:Int)(Q:Dv->Hs->Prop)(x:XP),fS v=J->a<=9->(∀(N:Int)(xs:ϑ),fS N=J->GZ a xs->Q (.p (.lst xs)) [.lst [.int N]])->b (eA J 1 Q x) (jN n [.r 0,.p (.int (a:Nat))]) [.lst [.int v]]):∀ds h Q x,pH ds h Q x->ds.length=2/\b (eA J h.length Q x) (jN n ds) h:=by intro ds h Q x c;unfold pH at c;refine sJ c λi _ c=>uB c λa _ c=>fh c λc=>wo c λn _ c=>fh c λc=>?_;have(d,c):=bq c;have(e,f,g,j):=iN d;rw[ax e];refine(rfl,?_);have(a,rfl):=cW (bM.mp g);exact H a _ Q x f (by have:=bM.mp j;lia) c
section
variable{ca:Nat->Addr}{W:Wd}
def VR(B:LX ca W)(S:SX W):DX ca W 28 2 JK:=by
 refine B.e (k:=0) 2 J [] [] (.seq (.iff (.cmp Tq 1 (.bi da (.u 0))) (.re (.ix 0 1)) .nil) (.re (.i 0))) S.wt rfl trivial trivial (oe λs k Q X p q=>?_);have(h,H):=ah p;cases s<;>first|(cases h;done)|skip
 rename_i xs;cases k<;>first|(cases H;done)|skip
 rename_i k;cases k with|negSucc k=>cases H|ofNat k=>refine bB (λc=>?_) λ_=>q 0;have(x,a,e):=kG (xs:=xs) (k:=k) (cw.mp c);have hi:=ai.mp (show xs.all isInt=J from h) x a;revert e;exact KD hi λi e=>bC e (q i)
def O7(B:LX ca W)(S:SX W):DX ca W 29 2 xT:=by refine B.e (k:=0) 3 a' [] [] (.seq (.set 2 (.b2 B5 (.b2 B6 (.b2 cC (.b2 cC 0 (.b2 B6 (.i 7919) 1)) (.i 1)) (.i 48271)) (.i 2147483647))) (.re (.tH (.u (.b2 B5 (.b2 cC (.b2 cC (.b2 B6 2 2) (.b2 B6 (.i 7) 2)) 1) (.i 2147483629)))))) S.Bf rfl trivial trivial λds h Q X c=>?_;unfold xT at c;refine uB c λx _ c=>uB c λk _ c=>fh c λc=>fh c λc=>(rfl,?_);have H:0<=(x+7919*k+1)*48271%2147483647:=lR _ (by ext);have a:(x+7919*k+1)*48271%2147483647<2147483647:=iX _ (by ext);exact aw (uy rfl) (aw (XA H a) (aw (uy rfl) (c _ (Eh.mpr (lR _ (by ext),iX _ (by ext))))))
def my(B:LX ca W)(S:SX W):DX ca W 30 2 mq:=by refine B.e (k:=0) 3 J [] [] (.seq (.put (.b2 B5 (.b2 cC (.b2 B6 (.ix 0 (.i 0)) (.i 69621)) (.i 11)) (.i 2147483629)) 0 (.i 0)) (.seq (.set 2 (.b2 B5 (.b2 B6 (.ix 0 (.i 0)) (.ix 0 (.i 0))) (.i 2147483587))) (.re (.b2 B5 (.b2 Vv 2 (.i 7)) 1)))) S.DQ rfl trivial trivial (aaj λm v Q x H b c q=>?_);have h:fS ((v*69621+11)%2147483629)=true:=Eh.mpr (lR _ (by ext),iX _ (by ext));have(g,G):=Eh.mp h;refine aw (XA (j:=(v*69621+11)%2147483629) g (by lia)) ?_;refine aw (a9 (show(0:Int)<m by lia)) ?_;have K:0<=(v*69621+11)%2147483629*((v*69621+11)%2147483629)%2147483587/7%m:=lR _ (by lia);have a:(v*69621+11)%2147483629*((v*69621+11)%2147483629)%2147483587/7%m<m:=iX _ (by lia);have q:=q _ ((v*69621+11)%2147483629*((v*69621+11)%2147483629)%2147483587/7%m).toNat h (by rw[xB K];exact a);rw[xB K]at q;exact q
def O0(B:LX ca W)(S:SX W):DX ca W 31 3 pH:=by
 refine B.e (k:=1) 9 J [(30,mq)] [] (.seq (.set 2 (.s "abcdefghijklmnopqrstuvwxyz")) (.seq (.set 3 (.cl 30 [0] (.u2 0 (.i 26)))) (.seq (.set 4 (.tH .nil)) (.seq (.fo (.one 5) (.r (.u 1)) (.seq (.set 6 (.ix 2 (.b2 B5 (.b2 cC 3 5) (.i 26)))) (.seq (.fo (.one 7) (.r (.u (.ix (.lst (.u5 (.i 0) (.i 0) (.i 1) (.i 5) (.cl 30 [0] (.u2 0 (.i 6))))) (.cl 30 [0] (.u2 0 (.i 5)))))) (.one (.set 6 (.b2 cC (.ix 2 (.cl 30 [0] (.u2 0 (.i 26)))) 6)))) (.cut (.iff (.cmp hW (.cl 30 [0] (.u2 0 (.i 6))) (.i 0)) (.seq (.set 8 (.lst (.cons (.s "box") (.cons (.s "list") (.cons (.s "def") (.cons (.s "end") (.cons (.s "else") (.cons (.s "catch") (.u5 (.s "own") (.s "set") (.s "push") (.s "while") (.s "try")))))))))) (.one (.set 6 (.ix (.b2 cC 8 (.lst (.cons (.s "number") (.u5 (.s "size") (.s "plus") (.s "item") (.s "not") (.s "ask"))))) (.cl 30 [0] (.u2 0 (.i 17))))))) .nil) (.seq (.iff (.cmp OD 6 4) (.one (.set 6 (.ix 2 (.b2 B5 (.b2 cC 3 5) (.i 26))))) .nil) (.one (.ex (.mt fQ 4 (.u 6))))))))) (.re 4))))) S.Bd rfl (my B S,trivial) trivial (PQ λa v Q xc hv ha q=>?_);refine aw (kx hv rfl) λv1 l Fq hsh=>?_;have ez:Int.toNat (a:Nat)=a:=rfl;refine aw (by show(gU a&&decide ((-4611686018427387904:Int)<=(a:Nat)))=J;rw[dW (aE (show a<=9 from ha) (by ext)),a9 (by lia)];rfl) ?_;refine eW (λpre post σ h=>(∃n ws,h=[.lst [.int n],.lst (ws.map .str)]/\fS n=J/\Ol l pre.length ws)/\∃F I b f,σ=[O (.r 0),O (.p (.int (a:Nat))),O (.p (.str ZY)),O (.p (.int (l:Nat))),O (.r 1),F,I,b,f]) ((v1,[],rfl,Fq,(rfl,fE,(λ_ h=>by cases h),λ_ h=>by cases h)),_,_,_,_,rfl) (λpre x post σ h e j=>?_) λσ h j=>?_
 .obtain⟨⟨n,ws,rfl,K,o⟩,F,I,b,f,rfl⟩:=j;have(rfl,Z):=D7 e;have Z:pre.length<a:=Z;have(c,hc,L,C):=EE (i:=((l:Nat)+(0+(pre.length:Nat)):Int)%26) (lR _ (by ext)) (iX _ (by ext));have L:c=(l+pre.length)%26:=by lia
  refine bC C ?_;refine aw (kx K rfl) λn2 t WL ht=>aw (kx WL rfl) λn3 u P hu=>?_;have ht:(t:Int)<6:=ht;obtain⟨τ,R,T⟩:∃τ:Nat,τ<=5/\nk [Pv.int 0,.int 0,.int 1,.int 5,.int (t:Nat)] (u:Nat)=O (.int (τ:Nat)):=by
   have hu:u<5:=by have hu:(u:Int)<5:=hu;lia
   rcases u with _|_|_|_|_|u;.exact(0,by ext,rfl)
   .exact(0,by ext,rfl)
   .exact(1,by ext,rfl)
   .exact(5,by ext,rfl)
   .exact(t,by lia,rfl)
   .lia
  refine bC T (aw (by show(gU τ&&decide ((-4611686018427387904:Int)<=(τ:Nat)))=J;rw[dW (aE R (by ext)),a9 (by lia)];rfl) ?_);refine eW (λm rT σ h=>∃n z,h=[.lst [.int n],.lst (ws.map .str)]/\fS n=J/\ZV z (1+m.length)/\(z.length=1->z=HK c)/\∃b f,σ=[O (.r 0),O (.p (.int (a:Nat))),O (.p (.str ZY)),O (.p (.int (l:Nat))),O (.r 1),O (.p (.int (0+(pre.length:Nat)))),O (.p (.str z)),b,f]) (n3,HK c,rfl,P,Ed hc,λ_=>rfl,_,_,rfl) (λm x2 rT σ h e2 j=>?_) λσ h j=>?_
  .have(n4,z,rfl,H,sz,E,b,f,rfl):=j;refine aw (kx H rfl) λN y M hy=>?_;have(d,hd,ed,k9):=EE (i:=(y:Nat)) (by lia) hy;have hl:m.length<τ:=(D7 e2).2;have D:=R5 (Ed hd) sz;refine bC k9 (aw (dW (aE (show(HK d).length+z.length<=7 by rw[sz.1];show 1+_<=7;lia) (by ext))) ?_);refine(N,HK d++z,rfl,M,?_,λh=>?_,_,_,rfl)
   .rw[aa];have:1+(1+m.length)=1+(m.length+[x2].length):=by show _=1+(m.length+1);lia
    rw[<-this];exact D
   .rw[D.1]at h;lia
  .have(n4,z,rfl,H,sz,E,b,f,rfl):=j;have U:aY (.str z)=true:=M7 sz (by lia) (by
    have:(lJ 0 (Int.toNat (τ:Nat))).length=τ:=by unfold lJ;rw[ae,cP];rfl
    rw[this];lia);refine aa9 (λσ h=>∃n z b f,h=[.lst [.int n],.lst (ws.map .str)]/\σ=[O (.r 0),O (.p (.int (a:Nat))),O (.p (.str ZY)),O (.p (.int (l:Nat))),O (.r 1),O (.p (.int (0+(pre.length:Nat)))),O (.p (.str z)),b,f]/\fS n=J/\aY (.str z)=J/\(z.length=1->z=HK c)) (ac1 ?_ ?_);.refine aw (kx H rfl) λN y M hy=>bB (λ_=>?_) λ_=>(N,z,_,_,rfl,rfl,M,U,E);refine aw (kx M rfl) λn6 k6 X Y=>?_;have(w,hw,A):=kG (xs:=UX) Y;have G:=ai.mp (show(UX.all λw=>dw w&&(aY w&&aa4 2 (d8 w).length))=J by ext) w hw;have(g1,g):=ah G;revert A g;refine lM g1 λw A g=>bC A ?_;exact(n6,w,_,_,rfl,rfl,X,(ah g).1,λh=>by have:=ap.mp (ah g).2;have h2:(d8 (.str w)).length=w.length:=rfl;lia)
   .rintro σ' h' ⟨N,z,b,f,rfl,rfl,M,U,E⟩;have lw:(ws.map Pv.str).length=pre.length:=by rw[ae,o.len]
    refine aw (by show(J&&fP (ws.map .str))=J;rw[wZ];rfl) (bB (c:=g8 (.str z) (ws.map .str)) (λ_=>?_) λcn=>?_);.refine bC C (aw (dW (aE (show(ws.map Pv.str).length+1<=10 by lia) (by ext))) ?_);refine((N,ws++[HK c],by rw[aq];rfl,M,?_),_,_,_,_,rfl);rw[aa,L];exact o.base (by lia)
    .refine aw (dW (aE (show(ws.map Pv.str).length+1<=10 by lia) (by ext))) ?_;refine((N,ws++[z],by rw[aq];rfl,M,?_),_,_,_,_,rfl);rw[aa];exact o.more (λh=>by rw[yC.mpr h]at cn;cases cn) U λh=>by rw[<-L];exact E h
 .obtain⟨⟨n,ws,rfl,K,o⟩,F,I,b,f,rfl⟩:=j;have:=o.out;rw[show(lJ 0 (Int.toNat (a:Nat))).length=a by unfold lJ;rw[ae,cP];rfl]at this;exact q n _ K this
end
def pF{c d:Bool}(a:c->d->A)(b:B):br c (br d A B) B:=by cases c with|false=>exact b|true=>cases d with|true=>exact a rfl rfl|false=>exact b
def OA(a:A)(k:c=a'->d=a'->B):br c A (br d A B):=by cases c with|true=>exact a|false=>cases d with|true=>exact a|false=>exact k rfl rfl
structure GV(d:Nat)(bs ls:ϑ)(v:Pv):Prop where
 vv:val d bs ls v=J
 dd:fZ v=J
 ss:eZ v<=13*(2^d-1)
theorem nD:∀{l:ϑ},l.all aY=J->x∈l->g8 x l/\aY x=J
 |[],_,h=>nomatch h|y::r,n,h=>by
  rw[aG]at n;show(jx y x||g8 x r)=J/\_;rcases aK.mp h with rfl|h;.refine(?_,(ah n).1);refine lM (a:=x) (j7 (ah n).1) λz=>?_;show(aS z z||_)=J;rw[aQ.mpr rfl];rfl
  .have(a,b):=nD (ah n).2 h;exact(by rw[a,l6],b)
def jB(h:aY x):fZ x/\eZ x<=7:=by
 cases x<;>first|(cases h;done)|skip
 refine(rfl,?_);have:=ap.mp (ah (ah h).2).1;show 1+_<=7;lia
def ef(h:1<=d):2<=2^d:=by obtain⟨e,rfl⟩:∃e,d=e+1:=(d-1,by lia);rw[fV];have:=eH (n:=e);lia
section
variable{d:Nat}{bs ls:ϑ}{x v u:Pv}
def CM(H:1<=d)(b:bs.all aY)(a:x∈bs):GV d bs ls (.tup [.str "box",x]):=by
 obtain⟨e,rfl⟩:∃e,d=e+1:=(d-1,by lia);have(c,h):=nD b a;have(f,g):=jB h;have:=ef H;refine(?_,?_,?_);.show(aY x&&g8 x bs&&J)=J;rw[c,h];rfl
 .show(J&&(fZ x&&J))=J;rw[f];rfl
 .show 1+(1+3+(eZ x+0))<=_;lia
def PM(H:1<=d)(b:ls.all aY)(a:x∈ls):GV d bs ls (.tup [.str "size",x]):=by
 obtain⟨e,rfl⟩:∃e,d=e+1:=(d-1,by lia);have(c,h):=nD b a;have(f,g):=jB h;have:=ef H;refine(?_,?_,?_);.show(aY x&&g8 x ls&&J)=J;rw[c,h];rfl
 .show(J&&(fZ x&&J))=J;rw[f];rfl
 .show 1+(1+4+(eZ x+0))<=_;lia
def ux(H:1<=d)(h:i<=999999):GV d bs ls (.tup [.str "number",.int (i:Nat)]):=by
 obtain⟨e,rfl⟩:∃e,d=e+1:=(d-1,by lia);have:=ef H;refine(?_,rfl,?_);.show(ic 0 (i:Nat)&&ic (i:Nat) 999999&&J)=J;rw[bM.mpr (by lia),bM.mpr (by lia)];rfl
 .show 1+(1+6+(1+0))<=_;lia
def Wy(h:GV d bs ls v):GV (d+1) bs ls (.tup [.str "not",v]):=by
 have h1:=h.ss;have h2:=eH (n:=d);refine(?_,?_,?_);.show(val d bs ls v&&J)=J;rw[h.vv];rfl
 .show(J&&(fZ v&&J))=J;rw[h.dd];rfl
 .show 1+(1+3+(eZ v+0))<=_;rw[fV];lia
def PL(H:ls.all aY)(a:x∈ls)(h:GV d bs ls v):GV (d+1) bs ls (.tup [.str "item",x,v]):=by
 have(G,g):=nD H a;have(b,c):=jB g;have h1:=h.ss;have h2:=eH (n:=d);refine(?_,?_,?_);.show(aY x&&g8 x ls&&(val d bs ls v&&J))=J;rw[G,g,h.vv];rfl
 .show(J&&(fZ x&&(fZ v&&J)))=J;rw[b,h.dd];rfl
 .show 1+(1+4+(eZ x+(eZ v+0)))<=_;rw[fV];lia
def Vz(w:Pv):Bool:=dw w&&(aa4 (d8 w).length 5&&match lk (d8 w) eJ with|some k=>vj k ["value","value"]|none=>a')
def Ku(H:Vz (.str w))(h:GV d bs ls v)(g:GV d bs ls u):GV (d+1) bs ls (.tup [.str w,v,u]):=by
 have H:(aa4 w.length 5&&match lk w eJ with|some k=>vj k ["value","value"]|none=>a')=true:=H;have(a,W):=ah H;have a:=ap.mp a;have h1:=h.ss;have h2:=g.ss;have b:=eH (n:=d);refine(?_,?_,?_);.show qp (val d bs ls) bs ls [v,u] (lk w eJ)=J;cases e:lk w eJ with|none=>rw[e]at W;cases W|some k=>rw[e]at W;rw[rh W];show(val d bs ls v&&(val d bs ls u&&J))=J;rw[h.vv,g.vv];rfl
 .show(J&&(fZ v&&(fZ u&&J)))=J;rw[h.dd,g.dd];rfl
 .show 1+(1+w.length+(eZ v+(eZ u+0)))<=_;rw[fV];lia
end
structure IU(l:ϑ):Prop where
 n:l.all aY=J
 m:l.length<=100
def HN(l:ϑ):Bool:=l.all aY&&aa4 l.length 100
def qd:HN l=J↔IU l:=by unfold HN;rw[aO,ap];exact(λh=>(h.1,h.2),λh=>(h.n,h.m))
def lN(n:Nat):Ct:=λds h Q _=>rC ds λi r=>iC r λd r=>lC r λbs r=>lC r λl r=>nC r (mC h λm g=>nC g (gd (aa6 i 0&&(fS m&&(ic 1 d&&(ic d n&&(HN bs&&HN l))))) (∀(M:Int)v,fS M=J->GV d.toNat bs l v->Q (.p v) [.lst [.int M]])))
def V1{n:Nat}{d:Int}(h:fS m)(H:1<=d)(a:d<=n)(b:IU bs)(l:IU ls):(J&&(fS m&&(ic 1 d&&(ic d n&&(HN bs&&HN ls)))))=true:=by rw[h,bM.mpr H,bM.mpr a,qd.mpr b,qd.mpr l];rfl
def aai{b:Ss}(H:∀(d:Nat)(m:Int)bs ls(Q:Dv->Hs->Prop)(x:XP),fS m=J->1<=d->d<=n->IU bs->IU ls->(∀(M:Int)v,fS M=J->GV d bs ls v->Q (.p v) [.lst [.int M]])->b (eA J 1 Q x) (jN k [.r 0,.p (.int (d:Nat)),.p (.lst bs),.p (.lst ls)]) [.lst [.int m]]):∀ds h Q x,lN n ds h Q x->ds.length=4/\b (eA J h.length Q x) (jN k ds) h:=by intro ds h Q x c;unfold lN at c;refine sJ c λi _ c=>uB c λd _ c=>Qy c λbs _ c=>Qy c λls _ c=>fh c λc=>wo c λm _ c=>fh c λc=>?_;have(j,c):=bq c;have(l,o,e,f,g):=Vp j;rw[ax l];refine(rfl,?_);have e:=bM.mp e;have f:=bM.mp f;have(a,rfl):=cW (show 0<=d by lia);exact H a _ _ _ Q x o (by lia) (by lia) (qd.mp (ah g).1) (qd.mp (ah g).2) c
def XE(c:lN 0 ds h Q x):False:=by unfold lN at c;refine sJ c λi _ c=>uB c λd _ c=>Qy c λbs _ c=>Qy c λl _ c=>fh c λc=>wo c λm _ c=>fh c λc=>?_;have(H,_):=bq c;have(_,_,a,H):=iN H;have a:=bM.mp a;have b:=bM.mp (ah H).1;lia
noncomputable def ZG:ϑ:=[.str "plus",.str "minus",.str "less",.str "same",.str "times",.str "over",.str "rest"]
section
variable{ca:Nat->Addr}{W:Wd}
theorem J2(B:LX ca W)(S:SX W):∀n,DX ca W 32 (n+3) (lN n)
 |0=>Dt.imp (C:=Tr) (Dt.no S.rY) λ_ _ _ _ c=>XE c|n+1=>by
  refine B.e (k:=n+2) 8 J [(30,mq),(32,lN n)] [] (.seq (.set 4 (.cl 30 [0] (.u2 0 (.i 10)))) (.seq (.iff (.bo (Wm.oc (.cmp Tq 1 (.i 2)) (Wm.o1 (.cmp Tq 4 (.i 4))))) (.cut (.iff (.bo (Wm.ac (.cmp vW (.bi da (.u 2)) (.i 0)) (Wm.a1 (.cmp vW (.cl 30 [0] (.u2 0 (.i 3))) (.i 0))))) (.re (.tup (.u2 (.s "box") (.ix 2 (.cl 30 [0] (.u2 0 (.bi da (.u 2)))))))) .nil) (.cut (.iff (.bo (Wm.ac (.cmp vW (.bi da (.u 3)) (.i 0)) (Wm.a1 (.cmp hW (.cl 30 [0] (.u2 0 (.i 6))) (.i 0))))) (.re (.tup (.u2 (.s "size") (.ix 3 (.cl 30 [0] (.u2 0 (.bi da (.u 3)))))))) .nil) (.re (.tup (.u2 (.s "number") (.ix (.lst (.u2 (.cl 30 [0] (.u2 0 (.i 4))) (.cl 30 [0] (.u2 0 (.i 1000000))))) (.b2 Vv (.cl 30 [0] (.u2 0 (.i 6))) (.i 5)))))))) .nil) (.seq (.set 5 (.cl 32 [0] (.u4 0 (.b2 vU 1 (.i 1)) 2 3))) (.seq (.iff (.cmp hW 4 (.i 4)) (.re (.tup (.u2 (.s "not") 5))) .nil) (.seq (.iff (.bo (Wm.ac (.cmp hW 4 (.i 5)) (Wm.a1 (.cmp vW (.bi da (.u 3)) (.i 0))))) (.re (.tup (.u3 (.s "item") (.ix 3 (.cl 30 [0] (.u2 0 (.bi da (.u 3))))) 5))) .nil) (.seq (.set 6 (.lst (.cons (.s "plus") (.cons (.s "minus") (.u5 (.s "less") (.s "same") (.s "times") (.s "over") (.s "rest")))))) (.seq (.set 7 (.ix 6 (.ix (.lst (.u5 (.i 0) (.i 1) (.i 2) (.i 3) (.cl 30 [0] (.u2 0 (.i 7))))) (.cl 30 [0] (.u2 0 (.i 5)))))) (.re (.tup (.u3 7 5 (.cl 32 [0] (.u4 0 (.b2 vU 1 (.i 1)) 2 3)))))))))))) S.rY rfl ((my B S).le (by lia),J2 B S n,trivial) trivial (aai λd m bs l Q xc hm D d2 o b q=>?_);refine aw (kx hm rfl) λm1 P E hkd=>OA ?_ λF c2=>?_
  .refine aa9 (λσ h=>∃m,h=[.lst [.int m]]/\fS m=J/\σ=[O (.r 0),O (.p (.int (d:Nat))),O (.p (.lst bs)),O (.p (.lst l)),O (.p (.int (P:Nat))),af,af,af]) (ac1 ?_ ?_)
   .refine bB (λc=>?_) λ_=>(m1,rfl,E,rfl);have H:0<bs.length:=by have:(0:Int)<(bs.length:Nat):=cw.mp c;lia
    refine aw (kx E rfl) λM t R _=>bB (λ_=>?_) λ_=>(M,rfl,R,rfl);refine aw (Jf R (by lia) (by have:=o.m;lia)) λy t3 U P8=>?_;have(x,f,e):=kG P8;exact bC e (q _ _ U (CM D o.n f))
   .rintro I h' ⟨M,rfl,R,rfl⟩;refine aa9 (λσ h=>∃m,h=[.lst [.int m]]/\fS m=J/\σ=[O (.r 0),O (.p (.int (d:Nat))),O (.p (.lst bs)),O (.p (.lst l)),O (.p (.int (P:Nat))),af,af,af]) (ac1 ?_ ?_)
    .refine bB (λc=>?_) λ_=>(M,rfl,R,rfl);have H:0<l.length:=by have:(0:Int)<(l.length:Nat):=cw.mp c;lia
     refine aw (kx R rfl) λy t U _=>bB (λ_=>?_) λ_=>(y,rfl,U,rfl);refine aw (Jf U (by lia) (by have:=b.m;lia)) λK j a T=>?_;have(x,f,e):=kG T;exact bC e (q _ _ a (PM D b.n f))
    .rintro I h' ⟨y,rfl,U,rfl⟩;refine aw (kx U rfl) λK j a T=>aw (kx a rfl) λm5 L Y X=>aw (kx Y rfl) λm6 A wc Z=>?_;have T:(j:Int)<4:=T;have X:(L:Int)<1000000:=X;have Z:(A:Int)<6:=Z;obtain⟨i,hi,e⟩:∃i:Nat,i<=999999/\nk [Pv.int (j:Nat),.int (L:Nat)] ((A:Int)/5)=O (.int (i:Nat)):=by
      have h6:(A:Int)/5=0\/(A:Int)/5=1:=by lia
      rcases h6 with h|h;.exact(j,by lia,by rw[h];rfl)
      .exact(L,by lia,by rw[h];rfl)
     exact bC e (q _ _ wc (ux D hi))
  .have F:¬(d:Int)<2:=λz=>by rw[cw.mpr z]at F;cases F
   obtain⟨d',rfl⟩:∃d',d=d'+1:=(d-1,by lia);have ed:(((d'+1:Nat):Int)-1).toNat=d':=by lia
   refine aw (V1 (d:=((d'+1:Nat):Int)-1) E (by lia) (by lia) o b) λM v R G=>?_;rw[ed]at G;refine bB (λ_=>q _ _ R (Wy G)) λ_=>pF (λ_ c=>?_) ?_
   .have H:0<l.length:=by have:(0:Int)<(l.length:Nat):=cw.mp c;lia
    refine aw (Jf R (by lia) (by have:=b.m;lia)) λK j a T=>?_;have(x,f,e):=kG T;exact bC e (q _ _ a (PL b.n f G))
   .refine aw (kx R rfl) λy t U ht=>aw (kx U rfl) λK u a hu=>?_;have ht:(t:Int)<7:=ht;obtain⟨τ,hτ,N⟩:∃τ:Nat,τ<7/\nk [Pv.int 0,.int 1,.int 2,.int 3,.int (t:Nat)] (u:Nat)=O (.int (τ:Nat)):=by
     have hu:u<5:=by have hu:(u:Int)<5:=hu;lia
     rcases u with _|_|_|_|_|u;.exact(0,by ext,rfl)
     .exact(1,by ext,rfl)
     .exact(2,by ext,rfl)
     .exact(3,by ext,rfl)
     .exact(t,by lia,rfl)
     .lia
    refine bC N ?_;have(w,hw,k9):=kG (xs:=ZG) (k:=τ) (by show(τ:Int)<7;lia);have g:=ai.mp (show ZG.all Vz=J by ext) w hw;revert k9 g;refine lM (ah (ai.mp (show ZG.all Vz=J by ext) w hw)).1 λw k9 g=>bC k9 ?_;refine aw (V1 (d:=((d'+1:Nat):Int)-1) a (by lia) (by lia) o b) λm5 u Y gu=>?_;rw[ed]at gu;exact q _ _ Y (Ku g G gu)
end
noncomputable def fO:ϑ->ϑ->ϑ|k::K,u::U=>.tup [k,u]::fO K U|_,_=>[]
structure Sc.Ok(s:Sc):Prop where
 b:s.bs.all aY=J
 l:s.ls.all aY=J
 k:s.ks.all aY=J
 n:zt s.ks=J
 i:s.us.all isInt=J
 e:s.ks.length=s.us.length
 m:s.ks.length<=100
def HW(i:∀x,f x=J->g x)(h:rS f bs ls k p):rS g bs ls k p=true:=by
 unfold rS at h⊢;split at h;.exact h
 .split at h;.exact h
  .split at h;.exact h
   .exact i _ h
theorem BC:∀{n:Nat}{x:Pv},val n bs ls x=J->val (n+1) bs ls x=J|0,_,h=>xi h|n+1,x,h=>by cases x with
  |tup X=>cases X with|nil=>exact xi h|cons a r=>cases a with
    |str w=>have h:qp (val n bs ls) bs ls r (lk w eJ)=true:=h;show qp (val (n+1) bs ls) bs ls r (lk w eJ)=J;cases e:lk w eJ with|none=>rw[e]at h;cases h|some K=>rw[e]at h;have(b,c):=ah h;show(_&&_)=J;rw[b,zC,ai];intro y H;have:=ai.mp c y H;have(k,p,_,_,rfl):=nU H;exact HW (λz d=>BC d) this
    |_=>exact xi h
  |_=>exact xi h
def ZC(h:val n bs ls x)(l:n<=m):val m bs ls x=true:=by obtain⟨k,rfl⟩:∃k,m=n+k:=(m-n,by lia);clear l;induction k with|zero=>exact h|succ k i=>exact BC i
structure V4(s:Sc)(v:Pv):Prop where
 vv:val 4 s.bs s.ls v=J
 dd:fZ v=J
 ss:eZ v<=100
def GV.v4(h:GV d s.bs s.ls v)(H:d<=3):V4 s v:=(ZC h.vv (by lia),h.dd,by have:=h.ss;have:2^d<=2^3:=Fp (by ext) H;lia)
structure GP(s:Sc)(x:Pv):Prop where
 r:∀n,row (n+1) s x=J
 d:fZ x=J
 z:eZ x<=900c:eu 5 x=1
def w8:Pv->Bool|.int (.ofNat k)=>aa4 k 3|_=>a'
structure GS(s:Sc)(ds:ϑ):Prop where
 o:s.Ok
 b:s.bs.length<=100l:s.ls.length<=100u:s.us.all w8=J
 d:IU ds
def XD(s:Sc)(ds:ϑ):Pv:=.tup [.lst s.bs,.lst s.ls,.lst (fO s.ks s.us),.lst ds,.bl s.rt]
section
variable{s:Sc}{x y v u:Pv}
def tU(h:s.bs.all aY)(H:x∈s.bs):(aY x&&g8 x s.bs)/\fZ x/\eZ x<=7:=by have(a,b):=nD h H;exact(by rw[a,b];rfl,jB b)
def Fn(h:V4 s v):GP s (.tup [.str "tell",v]):=(λn=>by show(val 4 s.bs s.ls v&&J&&J)=J;rw[h.vv];rfl,by show(J&&(fZ v&&J))=J;rw[h.dd];rfl,by have:=h.ss;show 1+(1+4+(eZ v+0))<=_;lia,rfl)
def PK(h:V4 s v):GP s (.tup [.str "fail",v]):=(λn=>by show(val 4 s.bs s.ls v&&J&&J)=J;rw[h.vv];rfl,by show(J&&(fZ v&&J))=J;rw[h.dd];rfl,by have:=h.ss;show 1+(1+4+(eZ v+0))<=_;lia,rfl)
def Ks(H:s.rt)(h:V4 s v):GP s (.tup [.str "return",v]):=(λn=>by show(!(J&&!s.rt)&&(val 4 s.bs s.ls v&&J&&J))=J;rw[h.vv,H];rfl,by show(J&&(fZ v&&J))=J;rw[h.dd];rfl,by have:=h.ss;show 1+(1+6+(eZ v+0))<=_;lia,rfl)
def yt(o:s.Ok)(H:x∈s.bs)(h:V4 s v):GP s (.tup [.str "set",x,v]):=by have(a,b,c):=tU o.b H;exact(λn=>by show(aY x&&g8 x s.bs&&(val 4 s.bs s.ls v&&J)&&J)=J;rw[a,h.vv];rfl,by show(J&&(fZ x&&(fZ v&&J)))=J;rw[b,h.dd];rfl,by have:=h.ss;show 1+(1+3+(eZ x+(eZ v+0)))<=_;lia,rfl)
def Dl(h:s.ls.all aY)(H:x∈s.ls):(aY x&&g8 x s.ls)/\fZ x/\eZ x<=7:=by have(a,b):=nD h H;exact(by rw[a,b];rfl,jB b)
def Fj(o:s.Ok)(H:x∈s.ls)(h:V4 s v):GP s (.tup [.str "push",x,v]):=by have(a,b,c):=Dl o.l H;exact(λn=>by show(aY x&&g8 x s.ls&&(val 4 s.bs s.ls v&&J)&&J)=J;rw[a,h.vv];rfl,by show(J&&(fZ x&&(fZ v&&J)))=J;rw[b,h.dd];rfl,by have:=h.ss;show 1+(1+4+(eZ x+(eZ v+0)))<=_;lia,rfl)
def Wv(o:s.Ok)(h:x∈s.bs)(H:y∈s.ls):GP s (.tup [.str "pop",x,y]):=by have(a,b,c):=tU o.b h;have(A,B,C):=Dl o.l H;exact(λn=>by show(aY x&&g8 x s.bs&&(aY y&&g8 y s.ls&&J)&&J)=J;rw[a,A];rfl,by show(J&&(fZ x&&(fZ y&&J)))=J;rw[b,B];rfl,by show 1+(1+3+(eZ x+(eZ y+0)))<=_;lia,rfl)
def Ww(o:s.Ok)(H:x∈s.ls)(g:V4 s u)(h:V4 s v):GP s (.tup [.str "put",x,u,v]):=by have(a,b,c):=Dl o.l H;exact(λn=>by show(aY x&&g8 x s.ls&&(val 4 s.bs s.ls u&&(val 4 s.bs s.ls v&&J))&&J)=J;rw[a,g.vv,h.vv];rfl,by show(J&&(fZ x&&(fZ u&&(fZ v&&J))))=J;rw[b,g.dd,h.dd];rfl,by have:=h.ss;have:=g.ss;show 1+(1+3+(eZ x+(eZ u+(eZ v+0))))<=_;lia,rfl)
def Wu(o:s.Ok)(H:x∈s.bs)(h:aY y):GP s (.tup [.str "ask",x,y]):=by have(a,b,c):=tU o.b H;have(B,C):=jB h;exact(λn=>by show(aY x&&g8 x s.bs&&(aY y&&J&&J)&&J)=J;rw[a,h];rfl,by show(J&&(fZ x&&(fZ y&&J)))=J;rw[b,B];rfl,by show 1+(1+3+(eZ x+(eZ y+0)))<=_;lia,rfl)
theorem Nz:∀{vs:ϑ},(∀v∈vs,V4 s v)->vs.all (val 4 s.bs s.ls)/\eP vs/\dg vs<=100*vs.length|[],_=>(rfl,rfl,ay _)|v::vs,h=>by have(a,b,c):=Nz λv H=>h v (ao _ H);have g:=h v au;have:=g.ss;exact(by rw[aG,g.vv,a];rfl,by show(fZ v&&eP vs)=J;rw[g.dd,b];rfl,by show eZ v+dg vs<=100*(vs.length+1);lia)
def PH(o:s.Ok)(H:x∈s.bs)(h:aY (.str f))(g:iO (.str f) s.ks s.us=O (.int (k:Nat)))(e:k<=3)(l:vs.length=k)(d:∀v∈vs,V4 s v):GP s (.tup [.str "call",x,.str f,.tup vs]):=by
 have(a,b,c):=tU o.b H;have(B,C):=jB h;have(A,b2,i):=Nz d;refine(λn=>?_,?_,?_,rfl);.show(aY x&&g8 x s.bs&&(aY (.str f)&&(iO (.str f) s.ks s.us).isSome&&(vs.all (val 4 s.bs s.ls)&&J))&&match iO (.str f) s.ks s.us with|some c=>jT (vs.length:Nat) (sE c)|none=>a')=J;rw[a,h,g,A];show jT (vs.length:Nat) (k:Nat)=J;rw[l];exact cB.mpr rfl
 .show(J&&(fZ x&&(J&&(eP vs&&J))))=J;rw[b,b2];rfl
 .show 1+(1+4+(eZ x+(eZ (.str f)+(1+dg vs+0))))<=_;lia
end
def tW:Ct:=λds h Q _=>rC ds λi r=>pC r λx r=>nC r (mC h λm g=>nC g (∃s d,x=XD s d/\GS s d/\gd (aa6 i 0&&fS m) (∀(M:Int)v,fS M=J->GP s v->Q (.p v) [.lst [.int M]])))
def WA{b:Ss}(H:∀(m:Int)s dd(Q:Dv->Hs->Prop)(X:XP),fS m=J->GS s dd->(∀(M:Int)v,fS M=J->GP s v->Q (.p v) [.lst [.int M]])->b (eA J 1 Q X) (jN k [.r 0,.p (XD s dd)]) [.lst [.int m]]):∀ds h Q X,tW ds h Q X->ds.length=2/\b (eA J h.length Q X) (jN k ds) h:=by intro ds h Q X c;unfold tW at c;refine sJ c λi _ c=>iI c λx _ c=>fh c λc=>wo c λm _ c=>fh c λc=>?_;have(s,dd,rfl,g,C):=c;have(a,C):=bq C;have(d,a):=ah a;rw[ax d];exact(rfl,H _ s dd Q X a g C)
theorem tJ:∀ks us:ϑ,(fO ks us).length<=ks.length|[],_=>ay _|_::_,[]=>bA _|_::ks,_::us=>fH (tJ ks us)
def YH(g:GS s ds){k:Nat}(h:(k:Int)<((fO s.ks s.us).length:Nat)):∃(f:Str)(c:Nat),nk (fO s.ks s.us) (k:Nat)=O (.tup [.str f,.int (c:Nat)])/\aY (.str f)/\c<=3/\iO (.str f) s.ks s.us=O (.int (c:Nat)):=by
 have h:k<(fO s.ks s.us).length:=by lia
 have K:∀(ks U:ϑ)(k:Nat),ks.all aY=J->U.all w8->Je (jO ks)->k<(fO ks U).length->∃(f:Str)(c:Nat),(fO ks U)[k]?=O (.tup [.str f,.int (c:Nat)])/\aY (.str f)/\c<=3/\iO (.str f) ks U=O (.int (c:Nat))/\f∈jO ks:=by intro ks;induction ks with|nil=>intro U k _ _ _ h;simp[fO]at h|cons a ks I=>
   intro U k b d H h;cases U with|nil=>simp[fO]at h|cons u U=>rw[aG]at b d;have H:(!jf (d8 a) (jO ks)&&Je (jO ks))=true:=H;have(H,m):=ah H;cases k with|zero=>
     have N:=(ah d).1;obtain⟨c,rfl,p⟩:∃c:Nat,u=.int (c:Nat)/\c<=3:=by
      unfold w8 at N;split at N;.exact(_,rfl,ap.mp N)
      .cases N
     have na:=(ah b).1;revert na H;refine lM (j7 (ah b).1) λf H na=>(f,c,rfl,na,p,?_,au);show(match aS f f with|true=>O (Pv.int (c:Nat))|false=>_)=_;rw[aQ.mpr rfl]|succ k=>have(f,c,e,E,i,j,l):=I U k (ah b).2 (ah d).2 m (by simpa[fO]using h);refine(f,c,e,E,i,?_,ao _ l);revert H;refine lM (j7 (ah b).1) λz H=>?_;show(match aS z f with|true=>O u|false=>iO (.str f) ks U)=_;cases q:aS z f with|true=>rw[show d8 (.str z)=f from aQ.mp q,pU l]at H;cases H|false=>exact j
 have(f,c,e,E,i,j,_):=K s.ks s.us k g.o.k g.u g.o.n h;exact(f,c,e,E,i,j)
section
variable{ca:Nat->Addr}{W:Wd}
def O4(B:LX ca W)(S:SX W)(ZP:DX ca W 32 6 (lN 3)):DX ca W 33 7 tW:=by
 refine B.e (k:=5) 14 J [(30,mq),(32,lN 3)] [] (.seq (.unp [2,3,4,5,6] 1) (.seq (.set 7 (.cl 30 [0] (.u2 0 (.i 16)))) (.seq (.set 8 (.cl 32 [0] (.u4 0 (.b2 cC (.i 1) (.cl 30 [0] (.u2 0 (.i 3)))) 2 3))) (.seq (.iff (.cmp hW (.bi da (.u 2)) (.i 0)) (.re (.tup (.u2 (.s "tell") 8))) .nil) (.seq (.set 9 (.ix 2 (.cl 30 [0] (.u2 0 (.bi da (.u 2)))))) (.seq (.iff (.bo (Wm.ac (.cmp Tq 7 (.i 3)) (Wm.a1 (.cmp vW (.bi da (.u 3)) (.i 0))))) (.seq (.set 10 (.ix 3 (.cl 30 [0] (.u2 0 (.bi da (.u 3)))))) (.seq (.set 11 (.ix (.lst (.u2 (.tup (.u2 (.s "number") (.cl 30 [0] (.u2 0 (.i 4))))) (.cl 32 [0] (.u4 0 (.i 2) 2 3)))) (.cl 30 [0] (.u2 0 (.i 2))))) (.seq (.set 12 (.lst (.u4 (.tup (.u3 (.s "push") 10 8)) (.tup (.u3 (.s "push") 10 8)) (.tup (.u3 (.s "pop") 9 10)) (.tup (.u4 (.s "put") 10 11 8))))) (.re (.ix 12 (.cl 30 [0] (.u2 0 (.i 4)))))))) .nil) (.seq (.iff (.bo (Wm.ac (.cmp Tq 7 (.i 6)) (Wm.a1 (.cmp vW (.bi da (.u 4)) (.i 0))))) (.seq (.unp [10,13] (.ix 4 (.cl 30 [0] (.u2 0 (.bi da (.u 4)))))) (.re (.tup (.u4 (.s "call") 9 10 (.bi lz (.u (.comp 1 [0,2,3] (.one 0) (.r (.u 13)) .no (.cl 32 [0] (.u4 1 (.i 2) 2 3))))))))) .nil) (.seq (.iff (.bo (Wm.ac (.cmp hW 7 (.i 6)) (Wm.a1 (.cmp vW (.bi da (.u 5)) (.i 0))))) (.re (.tup (.u3 (.s "ask") 9 (.ix 5 (.cl 30 [0] (.u2 0 (.bi da (.u 5)))))))) .nil) (.seq (.iff (.cmp hW 7 (.i 7)) (.re (.tup (.u2 (.s "tell") 8))) .nil) (.seq (.iff (.bo (Wm.ac (.cmp hW 7 (.i 8)) (Wm.a1 (.val 6)))) (.re (.tup (.u2 (.s "return") 8))) .nil) (.seq (.iff (.bo (Wm.ac (.cmp hW 7 (.i 9)) (Wm.a1 (.cmp hW (.cl 30 [0] (.u2 0 (.i 2))) (.i 0))))) (.re (.tup (.u2 (.s "fail") (.ix (.lst (.u2 (.tup (.u2 (.s "number") (.cl 30 [0] (.u2 0 (.i 9))))) 8)) (.cl 30 [0] (.u2 0 (.i 2))))))) .nil) (.re (.tup (.u3 (.s "set") 9 8)))))))))))))) S.Be rfl ((my B S).up rfl,ZP,trivial) trivial (WA λm s dd Q xc hm g q=>?_);have nb:IU s.bs:=(g.o.b,g.b);have nl:IU s.ls:=(g.o.l,g.l);refine aw (kx hm rfl) λm1 kd Ja hkd=>aw (kx Ja rfl) λm2 t rJ ht=>?_;have ht:(t:Int)<3:=ht;refine aw (V1 (d:=1+(t:Nat)) rJ (by lia) (by lia) nb nl) λm3 v uz G=>?_;have G:V4 s v:=G.v4 (by lia);refine bB (λ_=>q _ _ uz (Fn G)) λc0=>?_;have hbl:1<=s.bs.length:=by
  have:¬((s.bs.length:Nat):Int)=0:=λz=>by rw[show jx (Pv.int (s.bs.length:Nat)) (.int 0)=J from cB.mpr z]at c0;cases c0
  lia
 refine aw (Jf uz (by lia) (by have:=g.b;lia)) λm4 t4 w TU=>?_;have(x,D,e):=kG TU;refine bC e (pF (λ_ c=>?_) (pF (λ_ c=>?_) (pF (λ_ c=>?_) (bB (λ_=>q _ _ w (Fn G)) λ_=>pF (λ_ c=>q _ _ w (Ks c G)) (bB (λ_=>aw (kx w rfl) λP Z Y _=>bB (λ_=>?_) λ_=>q _ _ Y (yt g.o D G)) λ_=>q _ _ w (yt g.o D G))))))
 .have H:0<s.ls.length:=by have:(0:Int)<(s.ls.length:Nat):=cw.mp c;lia
  refine aw (Jf w (by lia) (by have:=g.l;lia)) λP Z Y L=>?_;have(y,C,E):=kG L;refine bC E (aw (kx Y rfl) λm6 T A F=>aw (V1 (d:=2) A (by ext) (by ext) nb nl) λm7 u I gu=>aw (kx I rfl) λm8 R WJ K=>?_);have F:(T:Int)<4:=F;obtain⟨p,gp,e8⟩:∃p,V4 s p/\nk [Pv.tup [.str "number",.int (T:Nat)],u] (R:Nat)=O p:=by
   have K:R<2:=by have:(R:Int)<2:=K;lia
   rcases R with _|_|t;.exact(_,(ux (d:=1) (by ext) (by lia)).v4 (by ext),rfl)
   .exact(_,gu.v4 (by ext),rfl)
   .lia
  refine bC e8 (aw (kx WJ rfl) λm9 U hm9 M=>?_);obtain⟨r,gr,e9⟩:∃r,GP s r/\nk [Pv.tup [.str "push",y,v],.tup [.str "push",y,v],.tup [.str "pop",x,y],.tup [.str "put",y,p,v]] (U:Nat)=O r:=by
   have M:U<4:=by have:(U:Int)<4:=M;lia
   rcases U with _|_|_|_|t;.exact(_,Fj g.o C G,rfl)
   .exact(_,Fj g.o C G,rfl)
   .exact(_,Wv g.o D C,rfl)
   .exact(_,Ww g.o C gp G,rfl)
   .lia
  exact bC e9 (q _ _ hm9 gr)
 .have hl2:(fO s.ks s.us).length<=100:=aE (tJ s.ks s.us) g.o.m;have H:0<(fO s.ks s.us).length:=by have:(0:Int)<((fO s.ks s.us).length:Nat):=cw.mp c;lia
  refine aw (Jf w (by lia) (by lia)) λP Z Y L=>?_;have(f,k,E,hf,hk,hg):=YH g L;refine bC E (aw (by show(gU k&&decide ((-4611686018427387904:Int)<=(k:Nat)))=J;rw[dW (aE hk (by ext)),a9 (by lia)];rfl) ?_);refine uc (λpre a h=>a.length=pre.length/\(∀v∈a,V4 s v)/\∃m,h=[.lst [.int m]]/\fS m=J) (rfl,(λ_ h=>nomatch h),P,rfl,Y) (λpre y post a h e j=>?_) λa h j=>?_;.have(j1,j2,m6,rfl,A):=j;refine aw (V1 (d:=2) A (by ext) (by ext) nb nl) λm7 u I gu=>?_;exact(by rw[aa,aa,j1];rfl,λv hv=>(bf.mp hv).elim (j2 v) λz=>by rw[aV.mp z];exact gu.v4 (by ext),m7,rfl,I)
  .have(j1,j2,m6,rfl,A):=j;refine q _ _ A (PH g.o D hf hg hk ?_ j2);rw[j1];show(lJ 0 k).length=k;unfold lJ;rw[ae,cP]
 .have H:0<dd.length:=by have:(0:Int)<(dd.length:Nat):=cw.mp c;lia
  refine aw (Jf w (by lia) (by have:=g.d.m;lia)) λP Z Y L=>?_;have(y,C,E):=kG L;exact bC E (q _ _ Y (Wu g.o D (ai.mp g.d.n y C)))
 .refine aw (kx Y rfl) λm6 T A F=>aw (kx A rfl) λm7 X I N=>?_;have F:(T:Int)<9:=F;obtain⟨p,gp,e8⟩:∃p,V4 s p/\nk [Pv.tup [.str "number",.int (T:Nat)],v] (X:Nat)=O p:=by
   have N:X<2:=by have:(X:Int)<2:=N;lia
   rcases X with _|_|t;.exact(_,(ux (d:=1) (by ext) (by lia)).v4 (by ext),rfl)
   .exact(_,G,rfl)
   .lia
  exact bC e8 (q _ _ I (PK gp))
end
theorem ql:∀{xs:ϑ},(∀x∈xs,f x=g x)->sum f xs=sum g xs|[],_=>rfl|x::r,h=>by show f x+sum f r=g x+sum g r;rw[h x au,ql λy H=>h y (ao _ H)]
theorem Cg:∀{n:Nat}{x:Pv},g9 n x=J->∀m,n<=m->eu m x=eu n x|0,_,h,_,_=>xi h|n+1,x,h,m,c=>by obtain⟨m,rfl⟩:∃k,m=k+1:=(m-1,by lia);show 1+sum (zm (eu m)) (mK x)=1+sum (zm (eu n)) (mK x);rw[ql λy H=>?_];have:=ai.mp (ah (show(uu x&&(mK x).all (b5 (g9 n)))=J from h)).2 y H;refine nR this λX a=>?_;exact ql λz b=>Cg (ai.mp a z b) m (by lia)
theorem u6:∀{n:Nat}{x:Pv},row n s x=J->row (n+1) s x=J|0,_,h=>xi h|n+1,x,h=>by have(w,r,e0,H):=u0 h;clear h;subst e0;show D8 (b5 (row (n+1) s)) s w r (lk w dI)=J;cases e:lk w dI with|none=>rw[e]at H;cases H|some K=>
   rw[e]at H;have(b,H):=ah H;have(c,H):=ah H;have(d,f):=ah H;show(_&&(_&&(_&&_)))=J;rw[b,c,f,zC,zC,zA,ai];intro y a;have:=ai.mp d y a;have(k,p,j,_,rfl):=nU a;have this:oA (b5 (row n s)) s (d8 k) p=true:=this;show oA (b5 (row (n+1) s)) s (d8 k) p=J;unfold oA at this⊢;split at this;.exact nR this λX g=>c8 (λz i=>u6 i) g
   .exact this
def c5(xs:ϑ):Nat:=sum (eu 5) xs
structure pD(n:Nat)(s:Sc)(xs:ϑ):Prop where
 r:xs.all (row n s)=J
 d:eP xs=J
 z:dg xs<=900*c5 xs
def pD.nil:pD n s []:=(rfl,rfl,ay _)
theorem mB:∀{a b:ϑ},eP a=J->eP b->eP (a++b)=J|[],_,_,h=>h|x::a,b,h,g=>by have(H,c):=ah (show(fZ x&&eP a)=J from h);show(fZ x&&eP (a++b))=J;rw[H,mB c g];rfl
theorem mT:∀{a b:ϑ},dg (a++b)=dg a+dg b|[],_=>(Nat.zero_add _).symm|x::a,b=>by show eZ x+dg (a++b)=eZ x+dg a+dg b;rw[mT];lia
def lg:c5 (a++b)=c5 a+c5 b:=jl
def pD.app(h:pD n s a)(g:pD n s b):pD n s (a++b):=(by rw[aX,h.r,g.r];rfl,mB h.d g.d,by have:=h.z;have:=g.z;rw[mT,lg];lia)
def GP.one(h:GP s x):pD (n+1) s [x]/\c5 [x]=1:=by
 have H:c5 [x]=1:=by show eu 5 x+0=1;rw[h.c]
 refine((by show(row (n+1) s x&&J)=J;rw[h.r];rfl,by show(fZ x&&J)=J;rw[h.d];rfl,?_),H);rw[H];have:=h.z;show eZ x+0<=_;lia
def Ad(h:pD n s xs)(a:n<=4):sum (eu 4) xs=c5 xs:=ql λx H=>by have:=Ea (ai.mp h.r x H);rw[Cg this 4 (by lia),Cg this 5 (by lia)]
section
variable{n:Nat}{s:Sc}{a b:ϑ}{v x:Pv}
def aaf(c:n<=4)(H:V4 s v)(h:pD n s a)(g:pD n s b):pD (n+1) s [.tup [.str "if",v,.tup a,.tup b]]/\c5 [.tup [.str "if",v,.tup a,.tup b]]=1+c5 a+c5 b:=by
 have e:c5 [.tup [.str "if",v,.tup a,.tup b]]=1+c5 a+c5 b:=by show 1+(sum (eu 4) a+(sum (eu 4) b+0))+0=_;rw[Ad h c,Ad g c];lia
 refine((?_,?_,?_),e);.show(val 4 s.bs s.ls v&&(a.all (row n s)&&(b.all (row n s)&&J))&&J&&J)=J;rw[H.vv,h.r,g.r];rfl
 .show(J&&(fZ v&&(eP a&&(eP b&&J)))&&J)=J;rw[H.dd,h.d,g.d];rfl
 .rw[e];have:=h.z;have:=g.z;have:=H.ss;show 1+(1+2+(eZ v+(1+dg a+(1+dg b+0))))+0<=_;lia
def Kt(e:n<=4)(H:V4 s v)(h:pD n s a):pD (n+1) s [.tup [.str "while",v,.tup a]]/\c5 [.tup [.str "while",v,.tup a]]=1+c5 a:=by
 have c:c5 [.tup [.str "while",v,.tup a]]=1+c5 a:=by show 1+(sum (eu 4) a+0)+0=_;rw[Ad h e];lia
 refine((?_,?_,?_),c);.show(val 4 s.bs s.ls v&&(a.all (row n s)&&J)&&J&&J)=J;rw[H.vv,h.r];rfl
 .show(J&&(fZ v&&(eP a&&J))&&J)=J;rw[H.dd,h.d];rfl
 .rw[c];have:=h.z;have:=H.ss;show 1+(1+5+(eZ v+(1+dg a+0)))+0<=_;lia
def Wx(H:n<=4)(o:s.Ok)(e:x∈s.bs)(h:pD n s a)(g:pD n s b):pD (n+1) s [.tup [.str "try",.tup a,x,.tup b]]/\c5 [.tup [.str "try",.tup a,x,.tup b]]=1+c5 a+c5 b:=by
 have(X,f,i):=tU o.b e;have c:c5 [.tup [.str "try",.tup a,x,.tup b]]=1+c5 a+c5 b:=by show 1+(sum (eu 4) a+(sum (eu 4) b+0))+0=_;rw[Ad h H,Ad g H];lia
 refine((?_,?_,?_),c);.show(a.all (row n s)&&(aY x&&g8 x s.bs&&(b.all (row n s)&&J))&&J&&J)=J;rw[X,h.r,g.r];rfl
 .show(J&&(eP a&&(fZ x&&(eP b&&J)))&&J)=J;rw[f,h.d,g.d];rfl
 .rw[c];have:=h.z;have:=g.z;show 1+(1+3+(1+dg a+(eZ x+(1+dg b+0))))+0<=_;lia
def Zp(o:s.Ok)(h:x∈s.bs):V4 s (.tup [.str "box",x]):=(CM (d:=1) (by ext) o.b h).v4 (by ext)
def Zq(h:i<=999999):V4 s (.tup [.str "number",.int (i:Nat)]):=(ux (d:=1) (by ext) h).v4 (by ext)
def SH(o:s.Ok)(h:x∈s.bs):V4 s (.tup [.str "minus",.tup [.str "box",x],.tup [.str "number",.int 1]]):=(Ku (d:=1) (by ext) (CM (by ext) o.b h) (ux (i:=1) (by ext) (by ext))).v4 (by ext)
end
theorem Dg:∀xs:ϑ,xs.length<=c5 xs|[]=>ay _|x::r=>by have:=Dg r;have h:1<=eu 5 x:=cZ 1 _;show r.length+1<=eu 5 x+c5 r;lia
structure Vd(n:Nat)(lf sG:Int)(c:Nat):Prop where
 a:sG<=lf
 b:4*(c:Int)<=3*(lf-sG)m:lf<=sG\/4-2*(n:Int)<=sG
def mn(n:Nat):Ct:=λds h Q _=>rC ds λi r=>pC r λx r=>iC r λd r=>iC r λM r=>rC r λj r=>nC r (mC h λm g=>mC g λl g=>nC g (∃s D,x=XD s D/\GS s D/\gd (aa6 i 0&&(aa6 j 1&&(aa4 1 n&&(aa4 n 4&&(fS m&&(jT d (5-n)&&(ic 0 M&&ic M 6&&ic l 60))))))) (∀(a S:Int)X,fS a=J->pD n s X->Vd n l S (c5 X)->Q (.p (.tup X)) [.lst [.int a],.lst [.int S]])))
def Wz{b:Ss}(H:∀(m lf:Int)(M:Nat)s dd(Q:Dv->Hs->Prop)(X:XP),1<=n->n<=4->fS m->M<=6->lf<=60->GS s dd->(∀(f S:Int)xs,fS f=J->pD n s xs->Vd n lf S (c5 xs)->Q (.p (.tup xs)) [.lst [.int f],.lst [.int S]])->b (eA J 2 Q X) (jN k [.r 0,.p (XD s dd),.p (.int (5-n)),.p (.int (M:Nat)),.r 1]) [.lst [.int m],.lst [.int lf]]):∀ds h Q X,mn n ds h Q X->ds.length=5/\b (eA J h.length Q X) (jN k ds) h:=by intro ds h Q X c;unfold mn at c;refine sJ c λi _ c=>iI c λx _ c=>uB c λd _ c=>uB c λM _ c=>sJ c λj _ c=>fh c λc=>wo c λm _ c=>wo c λlf _ c=>fh c λc=>?_;have(s,dd,rfl,g,C):=c;have(e,l):=bq C;have(o,q,t,u,v,w,e,B):=WI e;have(y,z):=ah e;rw[ax o,ax q,cB.mp w];refine(rfl,?_);have(a,rfl):=cW (bM.mp y);exact H m lf a s dd Q X (ap.mp t) (ap.mp u) v (by have:=bM.mp z;lia) (bM.mp B) g l
def QP(c:mn 0 ds h Q X):False:=by unfold mn at c;refine sJ c λi _ c=>iI c λx _ c=>uB c λd _ c=>uB c λM _ c=>sJ c λj _ c=>fh c λc=>wo c λm _ c=>wo c λl _ c=>fh c λc=>?_;have(s,D,rfl,g,C):=c;have(_,H):=ah (bq C).1;have(_,H):=ah H;exact xi (ah H).1
def ψ{n:Nat}{d:Int}(h:fS m)(H:1<=n)(a:n<=4)(b:d=5-n)(c:(ic 0 M&&ic M 6))(e:lf<=60):(J&&(J&&(aa4 1 n&&(aa4 n 4&&(fS m&&(jT d (5-n)&&(ic 0 M&&ic M 6&&ic lf 60)))))))=true:=by rw[h,c,bM.mpr e,ap.mpr H,ap.mpr a,cB.mpr b];rfl
def JE(a:A)(k:c=a'->d=a'->e=a'->B):br c A (br d A (br e A B)):=by cases c with|true=>exact a|false=>cases d with|true=>exact a|false=>cases e with|true=>exact a|false=>exact k rfl rfl rfl
def Vd.step{c':Nat}(h:Vd n lf s c)(d:A<=s)(f:4*(c':Int)<=3*(s-A))(H:4-2*(n:Int)<=A)(e:c2=c+c'):Vd n lf A c2:=by have a:=h.a;have b:=h.b;exact(by lia,by lia,.inr H)
inductive ZU(n:Nat)(s:Sc)(dd:ϑ)(lf:Int)(mo:Nat)(pre:ϑ):Es->Hs->Prop|mk(m' sG:Int)(xs:ϑ)(v6 v7 v8 v9 v10 v11 v12:Option Dv)(pl:pre.length<=10)(hm:fS m')(gx:pD (n+1) s xs)(lx:Vd (n+1) lf sG (c5 xs))(xl:xs.length<=2*pre.length):ZU n s dd lf mo pre [O (.r 0),O (.p (XD s dd)),O (.p (.int (5-(n+1:Nat)))),O (.p (.int (mo:Nat))),O (.r 1),O (.r 2),v6,v7,v8,v9,v10,v11,v12] [.lst [.int m'],.lst [.int sG],.lst xs]
section
variable{ca:Nat->Addr}{W:Wd}
theorem E7(B:LX ca W)(S:SX W)(ZP:DX ca W 32 6 (lN 3))(ZQ:DX ca W 33 7 tW):∀n,DX ca W 34 (n+8) (mn n)
 |0=>Dt.imp (C:=Tr) (Dt.no S.uY) λ_ _ _ _ c=>QP c|n+1=>by
  refine B.e (k:=n+7) 13 J [(30,mq),(32,lN 3),(33,tW),(34,mn n)] [] (.seq (.set 5 (.tH .nil)) (.seq (.fo (.one 6) (.r (.u (.cl 30 [0] (.u2 0 (.b2 cC 3 (.i 1)))))) (.seq (.iff (.cmp Tq (.ix 4 (.i 0)) (.i 4)) (.one .bk) .nil) (.seq (.put (.b2 vU (.ix 4 (.i 0)) (.i 2)) 4 (.i 0)) (.seq (.set 7 (.ix 1 (.i 0))) (.seq (.set 8 (.cl 30 [0] (.u2 0 (.i 9)))) (.seq (.iff (.bo (Wm.oc (.cmp vW 2 (.i 3)) (Wm.oc (.cmp vW 8 (.i 2)) (Wm.o1 (.cmp hW (.bi da (.u 7)) (.i 0)))))) (.seq (.ex (.mt fQ 5 (.u (.cl 33 [0] (.u2 0 1))))) (.one .ct)) .nil) (.seq (.set 9 (.ix 7 (.cl 30 [0] (.u2 0 (.bi da (.u 7)))))) (.seq (.set 10 (.cl 34 [0,1] (.u5 0 1 (.b2 cC 2 (.i 1)) (.i 3) 4))) (.one (.iff (.cmp hW 8 (.i 0)) (.seq (.set 11 (.cl 32 [0] (.u4 0 (.i 2) 7 (.ix 1 (.i 1))))) (.one (.ex (.mt fQ 5 (.u (.tup (.u4 (.s "if") 11 10 (.ix (.lst (.u2 (.tup .nil) (.cl 34 [0,1] (.u5 0 1 (.b2 cC 2 (.i 1)) (.i 2) 4)))) (.cl 30 [0] (.u2 0 (.i 2))))))))))) (.one (.iff (.cmp hW 8 (.i 1)) (.seq (.put (.b2 vU (.ix 4 (.i 0)) (.i 2)) 4 (.i 0)) (.seq (.set 12 (.tup (.u3 (.s "set") 9 (.tup (.u3 (.s "minus") (.tup (.u2 (.s "box") 9)) (.tup (.u2 (.s "number") (.i 1)))))))) (.seq (.ex (.mt fQ 5 (.u (.tup (.u3 (.s "set") 9 (.tup (.u2 (.s "number") (.cl 30 [0] (.u2 0 (.i 5)))))))))) (.one (.ex (.mt fQ 5 (.u (.tup (.u3 (.s "while") (.tup (.u2 (.s "box") 9)) (.ix (.lst (.u2 (.b2 cC (.tup (.u 12)) 10) (.b2 cC 10 (.tup (.u 12))))) (.cl 30 [0] (.u2 0 (.i 2))))))))))))) (.one (.ex (.mt fQ 5 (.u (.tup (.u4 (.s "try") 10 9 (.cl 34 [0,1] (.u5 0 1 (.b2 cC 2 (.i 1)) (.i 2) 4)))))))))))))))))))) (.re (.bi lz (.u 5))))) S.uY rfl ((my B S).le (by lia),ZP.le (by lia),ZQ.le (by lia),E7 B S ZP ZQ n,trivial) trivial (Wz λm lf mo s D Q xc n1 n4 hm hmo hlf g q=>?_);have nb:IU s.bs:=(g.o.b,g.b);have nl:IU s.ls:=(g.o.l,g.l);refine aw (Jf (m:=(mo:Nat)+1) hm (by lia) (by lia)) λm1 t Ja ht=>?_;have ht:(t:Int)<(mo:Nat)+1:=ht;refine aw (by show(gU t&&decide ((-4611686018427387904:Int)<=(t:Nat)))=J;rw[dW (aE (show t<=10 by lia) (by ext)),a9 (by lia)];rfl) ?_;refine eW (λpre post σ h=>ZU n s D lf mo pre σ h) (.mk m1 lf [] _ _ _ _ _ _ _ (by ext) Ja pD.nil (Int.le_refl _,by show 4*((0:Nat):Int)<=_;lia,.inl (Int.le_refl _)) (by ext)) (λpre x post σ h e j=>?_) λσ h j=>?_;.cases j with|mk m' sG f v6 v7 v8 v9 v10 v11 v12 _ T G L xl=>
   have pl:=(D7 e).2;have pl:pre.length<t:=pl;have w:∀{k:Nat},k<=20->gU (f.length+k)=true:=λhk=>dW (aE (show _<=50 by lia) (by ext));have X:∀{ys:ϑ},ys.length<=2->(f++ys).length<=2*(pre++[x]).length:=λ{ys}h=>by rw[aa,aa];show _<=2*(pre.length+1);lia
   have p:(pre++[x]).length<=10:=by rw[aa];show pre.length+1<=10;lia
   refine bB (c:=jv sG 4) (λ_=>q _ _ _ T G L) λc4=>?_;have c4:4<=sG:=by
    have:¬sG<4:=λz=>by rw[cw.mpr z]at c4;cases c4
    lia
   refine aw (kx T rfl) λm2 kd rJ hkd=>JE ?_ λU _ c0=>?_;.refine aa9 s (aa9 D (ac1 rfl (ac1 g (aw (by show(J&&fS m2)=J;rw[rJ];rfl) λm3 v uz gp=>aw (w (k:=1) (by ext)) ?_))));exact ZU.mk m3 (sG-2) (f++[v]) _ _ _ _ _ _ _ p uz (G.app gp.one.1) (L.step (c':=1) (by lia) (by lia) (by lia) (by rw[lg,gp.one (n:=n).2])) (X (by show 1<=2;decide))
   .have hn:1<=n:=by
     have U:jv 3 (5-((n+1:Nat):Int))=false:=U;have:¬(3:Int)<5-(n+1:Nat):=λz=>by rw[cw.mpr z]at U;cases U
     lia
    have hbl:1<=s.bs.length:=by
     have:¬((s.bs.length:Nat):Int)=0:=λz=>by rw[show jx (Pv.int (s.bs.length:Nat)) (.int 0)=J from cB.mpr z]at c0;cases c0
     lia
    refine aw (Jf rJ (by lia) (by have:=g.b;lia)) λm3 t3 uz P8=>?_;have(Y,H,e3):=kG P8;refine bC e3 (aa9 s (aa9 D (ac1 rfl (ac1 g (aw (ψ (lf:=sG-2) uz hn (by lia) (by lia) rfl (by have:=L.a;lia)) λm4 HI R qO g1 l1=>?_)))));have l1:Vd n (sG-2) HI (c5 R):=l1;have lxa:=L.a;have la:=l1.a;have lb:=l1.b;have lm:4-2*(n:Int)<=HI:=by rcases l1.m with z|z<;>lia
    refine bB (λ_=>?_) λ_=>bB (λ_=>?_) λ_=>?_
    .refine aw (V1 (d:=2) qO (by ext) (by ext) nb nl) λm5 v sY gv=>aa9 s (aa9 D (ac1 rfl (ac1 g (aw (ψ sY hn (by lia) (by lia) rfl (by lia)) λZ lf6 y A g2 l2=>aw (kx A rfl) λm7 t7 Hx E=>?_))));have la2:=l2.a;have lb2:=l2.b;have lm2:4-2*(n:Int)<=lf6:=by rcases l2.m with z|z<;>lia
     obtain⟨b,gb,cb,eb⟩:∃b,pD n s b/\c5 b<=c5 y/\nk [Pv.tup [],.tup y] (t7:Nat)=O (.tup b):=by
      have E:t7<2:=by have:(t7:Int)<2:=E;lia
      rcases t7 with _|_|t;.exact([],pD.nil,bA _,rfl)
      .exact(y,g2,ay _,rfl)
      .lia
     have(F,I):=aaf (by lia) (gv.v4 (by ext)) g1 gb;refine bC eb (aw (w (k:=1) (by ext)) ?_);exact ZU.mk m7 lf6 (f++[_]) _ _ _ _ _ _ _ p Hx (G.app F) (L.step (c':=1+c5 R+c5 b) (by lia) (by lia) (by lia) (by rw[lg,I])) (X (by show 1<=2;decide))
    .have r1l:R.length<=100:=by have:=Dg R;lia
     refine aw (kx qO rfl) λm5 t5 sY BL=>aw (w (k:=1) (by ext)) ?_;have BL:(t5:Int)<5:=BL;refine aw (dW (aE (show 1+R.length<=101 by lia) (by ext))) (aw (dW (aE (show R.length+1<=101 by lia) (by ext))) (aw (kx sY rfl) λZ t6 A Jc=>?_));have gl:=yt g.o H (SH g.o H);obtain⟨N,rfl⟩:∃N,n=N+1:=(n-1,by lia);have(K,M):=gl.one (n:=N);obtain⟨b,gb,cb,eb⟩:∃b,pD (N+1) s b/\c5 b=1+c5 R/\nk [Pv.tup ([.tup [.str "set",Y,.tup [.str "minus",.tup [.str "box",Y],.tup [.str "number",.int 1]]]]++R),.tup (R++[.tup [.str "set",Y,.tup [.str "minus",.tup [.str "box",Y],.tup [.str "number",.int 1]]]])] (t6:Nat)=O (.tup b):=by
      have Jc:t6<2:=by have:(t6:Int)<2:=Jc;lia
      rcases t6 with _|_|t;.exact(_,K.app g1,by rw[lg,M],rfl)
      .exact(_,g1.app K,by rw[lg,M,Nat.add_comm],rfl)
      .lia
     have(F,I):=Kt (by lia) (Zp g.o H) gb;have P:=(yt g.o H (Zq (s:=s) (i:=t5) (by lia))).one (n:=N+1);refine bC eb (aw (by rw[aa];exact w (k:=2) (by ext)) ?_);refine ZU.mk Z (HI-2) (f++[_]++[_]) _ _ _ _ _ _ _ p A (by rw[aD];exact G.app (P.1.app F)) (L.step (c':=1+(1+(1+c5 R))) (by lia) (by lia) (by lia) (by rw[lg,lg,I,P.2,cb];lia)) (by rw[aD];exact X (by show 2<=2;decide))
    .refine aa9 s (aa9 D (ac1 rfl (ac1 g (aw (ψ qO hn (by lia) (by lia) rfl (by lia)) λZ lf6 y A g2 l2=>?_))));have la2:=l2.a;have lb2:=l2.b;have lm2:4-2*(n:Int)<=lf6:=by rcases l2.m with z|z<;>lia
     have(F,I):=Wx (by lia) g.o H g1 g2;refine aw (w (k:=1) (by ext)) ?_;exact ZU.mk Z lf6 (f++[_]) _ _ _ _ _ _ _ p A (G.app F) (L.step (c':=1+c5 R+c5 y) (by lia) (by lia) (by lia) (by rw[lg,I])) (X (by show 1<=2;decide))
  .cases j with|mk m' sG f v6 v7 v8 v9 v10 v11 v12 _ T G L _=>exact q _ _ _ T G L
end
theorem yB:∀{a b:ϑ},g8 p (a++b)=(g8 p a||g8 p b)|[],_=>rfl|x::a,b=>by show(jx x p||g8 p (a++b))=(jx x p||g8 p a||g8 p b);rw[yB,Bool.or_assoc]
theorem BB(h:∀p,g8 p bs=g8 p bs'):∀n,val n bs ls=val n bs' ls|0=>by funext x;rfl|n+1=>by funext x;have i:=BB (ls:=ls) h n;cases x with
  |tup X=>cases X with|nil=>rfl|cons a r=>cases a with
    |str w=>
     show qp (val n bs ls) bs ls r (lk w eJ)=qp (val n bs' ls) bs' ls r (lk w eJ);have e:xk (val n bs ls) bs ls=xk (val n bs' ls) bs' ls:=by funext y;unfold xk rS;rw[i];simp only[h]
     cases lk w eJ with|none=>rfl|some k=>show(_&&(iT (k.map .str) r).all (xk (val n bs ls) bs ls))=_;rw[e];rfl
    |_=>rfl
  |_=>rfl
theorem Bn(h:∀p,g8 p s.bs=g8 p bs'):∀n,row n s=row n {s with bs:=bs'}|0=>by funext x;rfl|n+1=>by funext x;have i:=Bn (s:=s) h n;have I:=BB (ls:=s.ls) h 4;cases x with
  |tup X=>cases X with|nil=>rfl|cons a r=>cases a with
    |str w=>
     show D8 (b5 (row n s)) s w r (lk w dI)=D8 (b5 (row n {s with bs:=bs'})) {s with bs:=bs'} w r (lk w dI);have e:rR (b5 (row n s)) s=rR (b5 (row n {s with bs:=bs'})) {s with bs:=bs'}:=by funext y;unfold rR oA;rw[i];simp only[h,I]
     cases lk w dI with|none=>rfl|some k=>show(_&&(_&&((iT (k.map .str) r).all (rR (b5 (row n s)) s)&&_)))=_;rw[e];rfl
    |_=>rfl
  |_=>rfl
def zu(h:l.Sublist xs)(u:zt xs):zt l=true:=by unfold zt jO at u⊢;exact p8.mpr ((h.map d8).nodup (p8.mp u))
def nh{l:ϑ}(h:l.Sublist xs)(u:xs.all aY):l.all aY=true:=ai.mpr λx H=>ai.mp u x (h.subset H)
noncomputable def HB:Pv->Bool|.int (.ofNat k)=>aa4 k 2|_=>a'
def JI(h:HB u):w8 u=true:=by
 unfold HB at h;split at h;.exact ap.mpr (by have:=ap.mp h;lia)
 .cases h
structure PN(xs bx lx ts us dd:ϑ):Prop where
 x:GZ 9 xs
 b:∃i,i<=3/\bx=xs.take i
 l:∃j,j<=2/\lx=(xs.drop 3).take j
 t:ts.all aY=J
 tu:zt ts=J
 tl:ts.length<=2u:us.all HB=J
 e:ts.length=us.length
 d:IU dd
noncomputable def rV(xs:ϑ)(k:Nat):ϑ:=(xs.drop 5).take k
def sI(xs:ϑ)(o:Nat):ϑ:=(xs.drop 7).take o
def afK(h:i<=3)(H:j<=2)(a:k<=2):(xs.take i++(xs.drop 3).take j++(rV xs k++sI xs o)).Sublist xs:=by
 have e:xs=xs.take 3++(xs.drop 3).take 2++((xs.drop 5).take 2++xs.drop 7):=by
  have E:(xs.drop 5).take 2++xs.drop 7=xs.drop 5:=by rw[show xs.drop 7=(xs.drop 5).drop 2 by rw[Oc],gE]
  have b:(xs.drop 3).take 2++xs.drop 5=xs.drop 3:=by rw[show xs.drop 5=(xs.drop 3).drop 2 by rw[Oc],gE]
  rw[E,aD,b,gE]
 have s1:(xs.take i).Sublist (xs.take 3):=l7 h;have s2:((xs.drop 3).take j).Sublist ((xs.drop 3).take 2):=l7 H;have s:(rV xs k).Sublist ((xs.drop 5).take 2):=l7 a;have S:(sI xs o).Sublist (xs.drop 7):=cQ _ _;have:=(s1.append s2).append (s.append S);rw[<-e]at this;exact this
def MX(xs bx lx ts us:ϑ)(k o:Nat)(rt:Bool):Sc:=(rV xs k++sI xs o++bx,lx,ts,us,rt)
section
variable{xs bx lx ts us dd:ϑ}{k o:Nat}
def yH(h:xs.length=9)(H:k<=2):(rV xs k).length=k:=by unfold rV;rw[bW,fC,h];lia
def yG(h:xs.length=9)(H:o<=2):(sI xs o).length=o:=by unfold sI;rw[bW,fC,h];lia
def PN.O_(p:PN xs bx lx ts us dd)(h:k<=2):(bx++lx++(rV xs k++sI xs o)).Sublist xs:=by have(i,H,rfl):=p.b;have(j,a,rfl):=p.l;exact afK H a h
def PN.nb(p:PN xs bx lx ts us dd):bx.all aY/\bx.length<=3:=by have(i,h,rfl):=p.b;exact(nh (cQ _ _) p.x.nm,by rw[bW];lia)
def PN.nl(p:PN xs bx lx ts us dd):lx.all aY/\lx.length<=2:=by have(j,h,rfl):=p.l;exact(nh ((cQ _ _).trans (BP _ _)) p.x.nm,by rw[bW];lia)
def PN.no(p:PN xs bx lx ts us dd):(rV xs k).all aY/\(sI xs o).all aY=true:=(nh ((cQ _ _).trans (BP _ _)) p.x.nm,nh ((cQ _ _).trans (BP _ _)) p.x.nm)
def OT(h:w8 u):isInt u=true:=by
 unfold w8 at h;split at h;.rfl
 .cases h
def PN.gs(p:PN xs bx lx ts us dd)(H:k<=2)(a:o<=2):GS (MX xs bx lx ts us k o rt) dd where
 o:=(by show(rV xs k++sI xs o++bx).all aY=J;rw[aX,aX,p.no (k:=k) (o:=o).1,p.no (k:=k) (o:=o).2,p.nb.1];rfl,p.nl.1,p.t,p.tu,c8 (λ_ h=>OT (JI h)) p.u,p.e,by have:=p.tl;show ts.length<=100;lia);b:=by have h1:=yH p.x.len H;have h2:=yG p.x.len a;have c:=p.nb.2;show(rV xs k++sI xs o++bx).length<=100;rw[aa,aa];lia
 l:=by have:=p.nl.2;show lx.length<=100;lia
 u:=c8 (λ_=>JI) p.u;d:=p.d
end
def Wc(xs:ϑ)(a:Pv)(k o:Nat)(r:ϑ):Pv:=.tup [a,.tup (rV xs k),.tup (sI xs o),.tup r]
structure FG(xs bx lx ts us:ϑ)(a:Pv)(k o:Nat)(rs:ϑ):Prop where
 nm:aY a=J
 k2:k<=2o2:o<=2r:pD 5 (MX xs bx lx ts us k o J) rs
def Ix(xs bx lx ts us fs:ϑ):Prop:=∀g∈fs,∃a k o r,g=Wc xs a k o r/\FG xs bx lx ts us a k o r
theorem Du:∀{l:ϑ},l.all aY=J->eP l/\dg l<=7*l.length|[],_=>(rfl,ay _)|x::l,h=>by rw[aG]at h;have(a,b):=jB (ah h).1;have(c,d):=Du (ah h).2;exact(by show(fZ x&&eP l)=J;rw[a,c];rfl,by show eZ x+dg l<=7*(l.length+1);lia)
section
variable{xs bx lx ts us dd:ϑ}{k o:Nat}{a:Pv}{rs:ϑ}
def FG.fn(p:PN xs bx lx ts us dd)(h:FG xs bx lx ts us a k o rs):eQ (Wc xs a k o rs)/\fZ (Wc xs a k o rs)/\eZ (Wc xs a k o rs)<=1000*iS (Wc xs a k o rs):=by
 have l1:=yH p.x.len h.k2;have l2:=yG p.x.len h.o2;have(n,N):=p.no (k:=k) (o:=o);have(D,s1):=Du n;have(b,s2):=Du N;have(c,s):=jB h.nm;have hk:=h.k2;have ho:=h.o2;refine(?_,?_,?_);.show(aY a&&(ic ((rV xs k).length:Nat) 3&&(rV xs k).all aY&&(ic ((sI xs o).length:Nat) 3&&(sI xs o).all aY&&J)))=J;rw[h.nm,n,N,bM.mpr (by lia),bM.mpr (by lia)];rfl
 .show(fZ a&&(eP (rV xs k)&&(eP (sI xs o)&&(eP rs&&J))))=J;rw[D,b,c,h.r.d];rfl
 .have:=h.r.z;show 1+(eZ a+(1+dg (rV xs k)+(1+dg (sI xs o)+(1+dg rs+0))))<=1000*(1+c5 rs);lia
end
theorem Gv:∀{l:ϑ},(∀g∈l,eZ g<=c*f g)->dg l<=c*sum f l|[],_=>bA _|g::l,h=>by have h1:=h g au;have h2:=Gv λy H=>h y (ao _ H);show eZ g+dg l<=c*(f g+sum f l);rw[Nat.mul_add];lia
theorem Aq:∀{l:ϑ},(∀g∈l,fZ g=J)->eP l=J|[],_=>rfl|g::l,h=>by show(fZ g&&eP l)=J;rw[h g au,Aq λy H=>h y (ao _ H)];rfl
theorem F7:∀{ts us fs:ϑ},ts.length=us.length->fO ts us=fs.map uT->ts=fs.map cM/\us=fs.map lu|[],[],[],_,_=>(rfl,rfl)|[],[],_::_,_,e=>by cases e|[],_::_,_,h,_=>by cases h|_::_,[],_,h,_=>by cases h|_::_,_::_,[],_,e=>by cases e|t::ts,u::us,f::fs,h,e=>by have e:Pv.tup [t,u]::fO ts us=.tup [cM f,lu f]::fs.map uT:=e;injection e with E d;injection E with E;injection E with E c;injection c with c _;have(a,b):=F7 (by simpa using h) d;rw[E,c,a,b];exact(rfl,rfl)
structure GdP(b l f r:Pv):Prop where
 v:wD b l f r=af
 d:fZ (.tup [b,l,f,r])=J
 z:eZ (.tup [b,l,f,r])<=100000
def PD(p:PN xs bx lx ts us dd)(c:b.map cM=bx)(B:b.all iG)(i:l.map cM=lx)(l1:l.all isList)(q:fO ts us=fs.map uT)(G:Ix xs bx lx ts us fs)(j:pD 4 (MX xs bx lx ts us 0 0 a') rs)(T:sum iS fs+c5 rs<=60)(D:eP b)(dl:eP l)(S:dg b<=1000)(sl:dg l<=1000):GdP (.tup b) (.tup l) (.tup fs) (.tup rs):=by
 have(E,m):=F7 p.e q;have L:b.length<=3:=by rw[<-ae (f:=cM),c];exact p.nb.2
 have u:l.length<=2:=by rw[<-ae (f:=cM),i];exact p.nl.2
 have w:fs.length<=2:=by rw[<-ae (f:=cM),<-E];exact p.tl
 have A:fs.all eQ=true:=ai.mpr λg H=>by have(a,k,o,rs,rfl,h):=G g H;exact(h.fn p).1
 refine(?_,?_,?_)
 .unfold wD;have v:mY (.tup b) (.tup l)=true:=by show(ic (b.length:Nat) 6&&b.all iG&&(ic (l.length:Nat) 3&&l.all isList&&zt (b.map cM++l.map cM)))=J;rw[B,l1,bM.mpr (by lia),bM.mpr (by lia),c,i,zu ((List.sublist_append_left _ _).trans (p.O_ (k:=0) (o:=0) (by ext))) p.x.un];rfl
  have s:lB (lA (.tup b)++lA (.tup l)) (.tup fs)=true:=by show(ic (fs.length:Nat) 4&&fs.all eQ&&(zt (fs.map cM)&&fs.all λg=>zt (b.map cM++l.map cM++lX g)))=J;rw[A,bM.mpr (by lia),<-E,p.tu,c,i,ai.mpr λg H=>by have(a,k,o,rs,rfl,h):=G g H;exact zu (p.O_ h.k2) p.x.un];rfl
  have t:qZ (.tup b) (.tup l) (.tup fs) (.tup rs)=true:=by
   show((fs.all λg=>b_ 5 (jM (.tup b) (.tup l) (.tup fs) (lX g) J) (mS g))&&rs.all (row 5 (jM (.tup b) (.tup l) (.tup fs) [] a')))=J;have n:rs.all (row 5 (jM (.tup b) (.tup l) (.tup fs) [] a'))=true:=by
    have:jM (.tup b) (.tup l) (.tup fs) [] a'=MX xs bx lx ts us 0 0 false:=by show((b.map cM++[],l.map cM,fs.map cM,fs.map lu,a'):Sc)=_;rw[aI,c,i,<-E,<-m];rfl
    rw[this];exact c8 (λ_ h=>u6 h) j.r
   rw[n,zA,ai];intro g H;have(a,k,o,rs,rfl,h):=G g H;show rs.all (row 5 (jM (.tup b) (.tup l) (.tup fs) (rV xs k++sI xs o) J))=J;have:row 5 (MX xs bx lx ts us k o J)=row 5 (jM (.tup b) (.tup l) (.tup fs) (rV xs k++sI xs o) J):=by rw[Bn (bs':=bx++(rV xs k++sI xs o)) λp=>by show g8 p (rV xs k++sI xs o++bx)=_;rw[yB,yB (a:=bx),Bool.or_comm] 5];show row 5 (bx++(rV xs k++sI xs o),lx,ts,us,J)=row 5 (b.map cM++(rV xs k++sI xs o),l.map cM,fs.map cM,fs.map lu,J);rw[c,i,<-E,<-m]
   rw[<-this];exact h.r.r
  rw[v,s,t];show ND (!jv 60 (mW (.tup fs) (.tup rs):Nat)) 2 af=af;have:jv 60 (mW (.tup fs) (.tup rs):Nat)=false:=a8.mpr λz=>by have z:=cw.mp z;have:mW (.tup fs) (.tup rs)=sum iS fs+c5 rs:=rfl;lia
  rw[this];rfl
 .show(eP b&&(eP l&&(eP fs&&(eP rs&&J))))=J;rw[D,dl,j.d,Aq λg H=>by have(a,k,o,rs,rfl,h):=G g H;exact(h.fn p).2.1];rfl
 .have h1:=j.z;have n:dg fs<=1000*sum iS fs:=Gv λg H=>by have(a,k,o,rs,rfl,h):=G g H;exact(h.fn p).2.2
  show 1+(1+dg b+(1+dg l+(1+dg fs+(1+dg rs+0))))<=100000;lia
def tX:Ct:=λds h Q _=>rC ds λi r=>iC r λo r=>nC r (mC h λm g=>nC g (gd (aa6 i 0&&(fS m&&(ic 0 o&&ic o 6))) (∀(M:Int)b l f r,fS M=J->GdP b l f r->Q (.p (.tup [b,l,f,r])) [.lst [.int M]])))
def WB{b:Ss}(H:∀(m:Int)(o:Nat)(Q:Dv->Hs->Prop)(x:XP),fS m=J->o<=6->(∀(M:Int)b l f r,fS M=J->GdP b l f r->Q (.p (.tup [b,l,f,r])) [.lst [.int M]])->b (eA J 1 Q x) (jN k [.r 0,.p (.int (o:Nat))]) [.lst [.int m]]):∀ds h Q x,tX ds h Q x->ds.length=2/\b (eA J h.length Q x) (jN k ds) h:=by intro ds h Q x c;unfold tX at c;refine sJ c λi _ c=>uB c λo _ c=>fh c λc=>wo c λm _ c=>fh c λc=>?_;have(d,C):=bq c;have(e,g,j,n):=iN d;rw[ax e];refine(rfl,?_);have(a,rfl):=cW (bM.mp j);exact H m a Q x g (by have:=bM.mp n;lia) C
def vy(h:fS n)(H:(ic 0 a&&ic a 9)):(J&&(fS n&&(ic 0 a&&ic a 9)))=true:=by rw[h,H];rfl
theorem xn:∀{a b:ϑ}{x y:Pv},a.length=b.length->fO (a++[x]) (b++[y])=fO a b++[.tup [x,y]]|[],[],_,_,_=>rfl|[],_::_,_,_,h=>by cases h|_::_,[],_,_,h=>by cases h|u::a,v::b,x,y,h=>by show Pv.tup [u,v]::fO (a++[x]) (b++[y])=.tup [u,v]::(fO a b++[.tup [x,y]]);rw[xn (by simpa using h)]
inductive P1(o:Nat):Es->Hs->Prop|mk(m:Int)(xs bx lx ts us dd:ϑ)(hm:fS m)(p:PN xs bx lx ts us dd):P1 o [O (.r 0),O (.p (.int (o:Nat))),O (.p (.lst xs)),O (.p (.lst bx)),O (.p (.lst lx)),O (.p (.lst ts)),O (.p (.lst dd)),O (.p (.lst (fO ts us))),O (.r 1),af,af,af,af,af,af,af,af,af,af] [.lst [.int m],.lst [.int 56]]
inductive P2(o:Nat)(xs bx lx ts us dd pre:ϑ):Es->Hs->Prop|mk(m lf:Int)(fs:ϑ)(v1 v2 v3 v4 v5 v6 v7 v8 v9:Option Dv)(hm:fS m)(hf:pre=fs.map uT)(gf:Ix xs bx lx ts us fs)(la:lf<=56)(lb:4*(sum iS fs:Int)<=3*(56-lf)+2*fs.length)(lc:-4-(fs.length:Int)<=lf):P2 o xs bx lx ts us dd pre [O (.r 0),O (.p (.int (o:Nat))),O (.p (.lst xs)),O (.p (.lst bx)),O (.p (.lst lx)),O (.p (.lst ts)),O (.p (.lst dd)),O (.p (.lst (fO ts us))),O (.r 1),O (.r 2),v1,v2,v3,v4,v5,v6,v7,v8,v9] [.lst [.int m],.lst [.int lf],.lst fs]
inductive P3(o:Nat)(xs bx lx ts us dd fs:ϑ)(t:Pv)(c w:Nat)(lf:Int):Es->Hs->Prop|mk(m HI:Int)(rs:ϑ)(v7 v8 v9:Option Dv)(hm:fS m)(gr:pD 5 (MX xs bx lx ts us c w J) rs)(la:HI<=lf)(lb:4*(c5 rs:Int)<=3*(lf-HI)+1)(lc:lf<=HI\/-4<=HI):P3 o xs bx lx ts us dd fs t c w lf [O (.r 0),O (.p (.int (o:Nat))),O (.p (.lst xs)),O (.p (.lst bx)),O (.p (.lst lx)),O (.p (.lst ts)),O (.p (.lst dd)),O (.p (.lst (fO ts us))),O (.r 1),O (.r 2),O (.p t),O (.p (.int (c:Nat))),O (.p (.lst (rV xs c))),O (.p (.lst (sI xs w))),O (.p (XD (MX xs bx lx ts us c w J) dd)),O (.p (.tup rs)),v7,v8,v9] [.lst [.int m],.lst [.int HI],.lst fs]
theorem F9:∀{ts us:ϑ}{x:Pv},ts.all aY=J->us.all HB->x∈fO ts us->∃(t:Pv)(c:Nat),x=.tup [t,.int (c:Nat)]/\aY t/\c<=2
 |[],_,_,_,_,h=>nomatch h|_::_,[],_,_,_,h=>nomatch h|t::ts,u::us,x,H,a,h=>by
  rw[aG]at H a;rcases aK.mp (show x∈Pv.tup [t,u]::fO ts us from h)with rfl|h
  .have hu:=(ah a).1;unfold HB at hu;split at hu;.exact(t,_,rfl,(ah H).1,ap.mp hu)
   .cases hu
  .exact F9 (ah H).2 (ah a).2 h
def pD.up(h:pD n s xs):pD (n+1) s xs:=(c8 (λ_ h=>u6 h) h.r,h.d,h.z)
structure Bxs(pre acc:ϑ):Prop where
 f:acc.map cM=pre
 b:acc.all iG=J
 d:eP acc=J
 z:dg acc<=20*acc.length
structure Nus(acc:ϑ):Prop where
 n:acc.all gD=J
 d:eP acc=J
 z:dg acc<=acc.length
structure Lss(pre acc:ϑ):Prop where
 f:acc.map cM=pre
 b:acc.all isList=J
 d:eP acc=J
 z:dg acc<=40*acc.length
inductive P4(o:Nat)(xs bx lx ts us dd fs rs bp:ϑ)(lf mo am:Int)(pre:ϑ):Es->Hs->Prop|mk(m:Int)(ls:ϑ)(v1 v2 v3 v4 v9:Option Dv)(hm:fS m)(g:Lss pre ls):P4 o xs bx lx ts us dd fs rs bp lf mo am pre [O (.r 0),O (.p (.int mo)),O (.p (.lst xs)),O (.p (.lst bx)),O (.p (.lst lx)),O (.p (.lst ts)),O (.p (.lst dd)),O (.p (.lst (fO ts us))),O (.r 1),O (.r 2),v1,O (.p (.int am)),v2,v3,v4,O (.p (.tup rs)),O (.p (.tup bp)),O (.r 3),v9] [.lst [.int m],.lst [.int lf],.lst fs,.lst ls]
def LA{k:Nat}(h:(k:Int)<m)(H:m<=1000000):gD (.int (k:Nat))=true:=by show(ic 0 (k:Nat)&&ic (k:Nat) 999999)=J;rw[bM.mpr (by lia),bM.mpr (by lia)];rfl
section
variable{ca:Nat->Addr}{W:Wd}
def O5(B:LX ca W)(S:SX W)(D30:DX ca W 31 3 pH)(ZP:DX ca W 32 6 (lN 3))(D33:DX ca W 34 12 (mn 4)):DX ca W 35 13 tX:=by
 refine B.eN (k:=11) ["_law_state_here","_law_most","_law_names_here","_law_boxes","_law_lists","_law_titles","_law_doors","_law_amounts","_law_left","_law_functions","_law_title","_law_amount","_law_params","_law_owns","_law_inner","_law_rows_here","_law_pairs","_law_things","_law_name"] J [(30,mq),(31,pH),(32,lN 3),(34,mn 4)] [] (.seq (.set 2 (.cl 31 [0] (.u2 0 (.i 9)))) (.seq (.set 3 (.sl 2 .no (.of (.ix (.lst (.u4 (.i 1) (.i 2) (.i 2) (.i 3))) (.cl 30 [0] (.u2 0 (.i 4))))))) (.seq (.set 4 (.sl (.sl 2 (.of (.i 3)) .no) .no (.of (.ix (.lst (.u4 (.i 0) (.i 1) (.i 1) (.i 2))) (.cl 30 [0] (.u2 0 (.i 4))))))) (.seq (.set 5 (.sl (.cl 31 [0] (.u2 0 (.i 4))) .no (.of (.cl 30 [0] (.u2 0 (.i 3)))))) (.seq (.set 6 (.sl (.lst (.u3 (.ix 2 (.i 0)) (.ix 2 (.i 5)) (.s "door"))) .no (.of (.cl 30 [0] (.u2 0 (.i 4)))))) (.seq (.setC 7 1 [0] (.one 0) (.s 5) .no (.tup (.u2 0 (.cl 30 [0] (.u2 1 (.i 3)))))) (.cut (.set 8 (.tH (.u (.i 56)))) (.seq (.set 9 (.tH .nil)) (.seq (.fo (.many [10,11]) (.s 7) (.seq (.set 12 (.sl (.sl 2 (.of (.i 5)) .no) .no (.of 11))) (.seq (.set 13 (.sl (.sl 2 (.of (.i 7)) .no) .no (.of (.cl 30 [0] (.u2 0 (.i 3)))))) (.seq (.set 14 (.tup (.u5 (.b2 cC (.b2 cC 12 13) 3) 4 7 6 (.c (.bl J))))) (.seq (.set 15 (.cl 34 [0,1] (.u5 0 14 (.i 1) (.i 4) 8))) (.cut (.iff (.bo (Wm.ac (.cmp vW (.cl 30 [0] (.u2 0 (.i 3))) (.i 0)) (Wm.a1 (.cmp vW (.ix 8 (.i 0)) (.i 3))))) (.seq (.put (.b2 vU (.ix 8 (.i 0)) (.i 1)) 8 (.i 0)) (.one (.set 15 (.b2 cC 15 (.tup (.u (.tup (.u2 (.s "return") (.cl 32 [0] (.u4 0 (.i 2) (.ix 14 (.i 0)) 4)))))))))) .nil) (.seq (.put (.b2 vU (.ix 8 (.i 0)) (.i 1)) 8 (.i 0)) (.one (.ex (.mt fQ 9 (.u (.tup (.u4 10 (.bi lz (.u 12)) (.bi lz (.u 13)) 15))))))))))))) (.seq (.set 15 (.cl 34 [0,1] (.u5 0 (.tup (.u5 3 4 7 6 (.c (.bl a')))) (.i 1) 1 8))) (.seq (.set 1 (.ix (.lst (.u3 (.i 6) (.i 6) (.i 1000000))) (.cl 30 [0] (.u2 0 (.i 3))))) (.seq (.set 16 (.bi lz (.u (.comp 1 [0,1] (.one 0) (.s 3) .no (.tup (.u2 0 (.cl 30 [0] (.u2 1 2)))))))) (.seq (.set 11 (.ix (.lst (.u3 (.i 4) (.i 4) (.i 13))) (.cl 30 [0] (.u2 0 (.i 3))))) (.seq (.set 17 (.tH .nil)) (.seq (.fo (.one 18) (.s 4) (.one (.ex (.mt fQ 17 (.u (.tup (.u2 18 (.bi lz (.u (.comp 1 [0,1] (.one 0) (.r (.u (.cl 30 [0] (.u2 0 11)))) .no (.cl 30 [0] (.u2 1 2)))))))))))) (.re (.tup (.u4 16 (.bi lz (.u 17)) (.bi lz (.u 9)) 15)))))))))))))))))) S.wu rfl ((my B S).up rfl,D30.up rfl,ZP.up rfl,D33,trivial) trivial (WB λm o Q xc H ho q=>?_);refine aw (vy H rfl) λm1 xs Ja N=>aw (kx Ja rfl) λm2 t2 rJ Jb=>?_;obtain⟨i,hi,e2⟩:∃i:Nat,i<=3/\nk [Pv.int 1,.int 2,.int 2,.int 3] (t2:Nat)=O (.int (i:Nat)):=by
  have Jb:t2<4:=by have:(t2:Int)<4:=Jb;lia
  rcases t2 with _|_|_|_|t;.exact(1,by ext,rfl)
  .exact(2,by ext,rfl)
  .exact(2,by ext,rfl)
  .exact(3,by ext,rfl)
  .lia
 refine bC e2 (aw (kx rJ rfl) λK T U P8=>?_);obtain⟨j,hj,e3⟩:∃j:Nat,j<=2/\nk [Pv.int 0,.int 1,.int 1,.int 2] (T:Nat)=O (.int (j:Nat)):=by
  have P8:T<4:=by have:(T:Int)<4:=P8;lia
  rcases T with _|_|_|_|t;.exact(0,by ext,rfl)
  .exact(1,by ext,rfl)
  .exact(1,by ext,rfl)
  .exact(2,by ext,rfl)
  .lia
 refine bC e3 (aw (vy U rfl) λm4 ys E D=>aw (kx E rfl) λL k Y hk=>?_);have hk:(k:Int)<3:=hk;have N:GZ 9 xs:=N;have D:GZ 4 ys:=D;have xl:=N.len;have(d0,hd0,e0):=kG (xs:=xs) (k:=0) (by lia);have(d5,hd5,e5):=kG (xs:=xs) (k:=5) (by lia);refine bC e0 (bC e5 (aw (kx Y rfl) λm6 t6 wc Jc=>?_));have nd:IU (([d0,d5,.str "door"]:ϑ).take t6):=(nh (cQ _ _) (by show(aY d0&&(aY d5&&J))=J;rw[ai.mp N.nm d0 hd0,ai.mp N.nm d5 hd5];rfl),by rw[bW];exact aE (qx _ _) (by show 3<=100;decide));have tk:(ys.take k).length=k:=by rw[bW,D.len];lia
 refine uc (λpre A h=>∃us m,A=fO pre us/\pre.length=us.length/\us.all HB=J/\h=[.lst [.int m]]/\fS m=J) ([],m6,rfl,rfl,rfl,rfl,wc) (λpre y post A h e j=>?_) λA h j=>?_;.have(us,m7,rfl,hl,hu,rfl,Hx):=j;refine aw (kx Hx rfl) λm8 t8 WJ ht8=>?_;have ht8:(t8:Int)<3:=ht8;exact(us++[.int (t8:Nat)],m8,(xn hl).symm,by rw[aa,aa,hl];rfl,by rw[aX,hu];show(aa4 t8 2&&J)=J;rw[ap.mpr (by lia)];rfl,rfl,WJ)
 have(us,m7,rfl,hl,hu,rfl,Hx):=j;refine aa9 (P1 o) (ac1 (.mk m7 xs _ _ _ us _ Hx (N,(i,hi,rfl),(j,hj,rfl),nh (cQ _ _) D.nm,zu (cQ _ _) D.un,by show(ys.take k).length<=2;lia,hu,hl,nd)) ?_);intro σ' h' c;cases c with|mk m xs bx lx ts us dd H p=>
 refine eW (λpre post σ h=>P2 o xs bx lx ts us dd pre σ h) (.mk m 56 [] _ _ _ _ _ _ _ _ _ H rfl (λ_ h=>nomatch h) (by ext) (by ext) (by ext)) (λpre x post σ h e j=>?_) λσ h j=>?_;.have(t,c,rfl,nt,hc):=F9 p.t p.u (show x∈fO ts us by rw[show fO ts us=_ from e];simp);have lp:(fO ts us).length<=2:=aE (tJ ts us) p.tl;rw[show fO ts us=_ from e,aa]at lp;cases j with|mk m lf fs v1 v2 v3 v4 v5 v6 v7 v8 F H hf gf la lb lc=>
  have lp:fs.length<=1:=by rw[hf,ae]at lp;have:(Pv.tup [t,.int (c:Nat)]::post).length=post.length+1:=rfl;lia
  refine aw (kx H rfl) λm1 w Ja hw=>?_;have hw:w<=2:=by have:(w:Int)<3:=hw;lia
  have l1:=yH p.x.len hc;have l2:=yG p.x.len hw;have l3:=p.nb.2;have gs:=p.gs hc hw (rt:=J);refine aw (dW (aE (show(rV xs c).length+(sI xs w).length<=10 by lia) (by ext))) (aw (dW (aE (show(rV xs c++sI xs w).length+bx.length<=10 by rw[aa];lia) (by ext))) ?_);refine aa9 (MX xs bx lx ts us c w J) (aa9 dd (ac1 rfl (ac1 gs (aw (ψ (n:=4) Ja (by ext) (by ext) rfl rfl (by lia)) λm2 AU R rJ gr P=>?_))));have ra:=P.a;have rb:=P.b;have rc:lf<=AU\/-4<=AU:=by rcases P.m with z|z<;>lia
  have keep:∀{K:Int},fS K=J->P3 o xs bx lx ts us dd fs t c w lf [O (.r 0),O (.p (.int (o:Nat))),O (.p (.lst xs)),O (.p (.lst bx)),O (.p (.lst lx)),O (.p (.lst ts)),O (.p (.lst dd)),O (.p (.lst (fO ts us))),O (.r 1),O (.r 2),O (.p t),O (.p (.int (c:Nat))),O (.p (.lst (rV xs c))),O (.p (.lst (sI xs w))),O (.p (XD (MX xs bx lx ts us c w J) dd)),O (.p (.tup R)),v7,v8,F] [.lst [.int K],.lst [.int AU],.lst fs]:=λh3=>.mk _ AU R v7 v8 F h3 gr.up ra (by lia) rc;refine aa9 (P3 o xs bx lx ts us dd fs t c w lf) (ac1 ?_ ?_);.refine aw (kx rJ rfl) λK T U _=>bB (λ_=>bB (c:=jv 3 AU) (λc3=>?_) λ_=>keep U) λ_=>keep U;have c3:=cw.mp c3;have rl:=Dg R;refine aw (V1 (d:=2) (bs:=rV xs c++sI xs w++bx) (ls:=lx) U (by ext) (by ext) (gs.o.b,gs.b) (gs.o.l,gs.l)) λm4 v E gv=>aw (dW (aE (show R.length+1<=200 by lia) (by ext))) ?_;have(g1,g2):=(Ks (s:=MX xs bx lx ts us c w J) rfl (gv.v4 (by ext))).one (n:=4);exact P3.mk (o:=o) (xs:=xs) (bx:=bx) (lx:=lx) (ts:=ts) (us:=us) (dd:=dd) (fs:=fs) (t:=t) (c:=c) (w:=w) (lf:=lf) m4 (AU-1) (R++[.tup [.str "return",v]]) v7 v8 F E (gr.up.app g1) (by lia) (by rw[lg,g2];lia) (.inr (by lia))
  .intro σ' h' cc;cases cc with|mk L HI R v7 v8 F Y gr4 qa qb qc=>
   refine aw (dW (aE (show fs.length+1<=5 by lia) (by ext))) ?_;refine .mk L (HI-1) (fs++[Wc xs t c w R]) _ _ _ _ _ _ _ _ _ Y ?_ (λg hg=>(bf.mp hg).elim (gf g) λz=>(t,c,w,R,aV.mp z,nt,hc,hw,gr4)) (by lia) ?_ ?_;.rw[aq,<-hf];show pre++[Pv.tup [t,.int (c:Nat)]]=pre++[Pv.tup [t,.int ((rV xs c).length:Nat)]];rw[l1]
   .have e1:sum iS (fs++[Wc xs t c w R])=sum iS fs+(1+c5 R):=by rw[jl];rfl
    rw[e1,aa];show _<=3*(56-(HI-1))+2*((fs.length+1:Nat):Int);lia
   .rw[aa];show-4-((fs.length+1:Nat):Int)<=HI-1;rcases qc with z|z<;>lia
 .cases j with|mk m lf fs v1 v2 v3 v4 v5 v6 v7 v8 F H hf gf la lb lc=>
  have lp:fs.length<=2:=by have:=aE (tJ ts us) p.tl;rw[show fO ts us=_ from hf,ae]at this;exact this
  refine aa9 (MX xs bx lx ts us 0 0 a') (aa9 dd (ac1 rfl (ac1 (p.gs (by ext) (by ext)) (aw (ψ (n:=4) H (by ext) (by ext) rfl (by rw[bM.mpr (by lia),bM.mpr (by lia)];rfl) (by lia)) λm2 AU R rJ gr P=>?_))));have rb:=P.b;have rc:lf<=AU\/-4<=AU:=by rcases P.m with z|z<;>lia
  refine aw (kx rJ rfl) λK T U P8=>?_;obtain⟨mo,mo1,M,e3⟩:∃mo:Int,1<=mo/\mo<=1000000/\nk [Pv.int 6,.int 6,.int 1000000] (T:Nat)=O (.int mo):=by
   have P8:T<3:=by have:(T:Int)<3:=P8;lia
   rcases T with _|_|_|t;.exact(6,by ext,by ext,rfl)
   .exact(6,by ext,by ext,rfl)
   .exact(1000000,by ext,by ext,rfl)
   .lia
  refine bC e3 (uc (λpre A h=>Bxs pre A/\∃m,h=[.lst [.int m],.lst [.int AU],.lst fs]/\fS m=J) ((rfl,rfl,rfl,ay _),K,rfl,U) (λpre y post A h e j=>?_) λbp h j=>?_)
  .have(C,m4,rfl,E):=j;have D:aY y=true:=ai.mp p.nb.1 y (by rw[show bx=_ from e];simp);have(y1,y2):=jB D;refine aw (Jf E mo1 M) λL X Y BL=>((by rw[aq,C.f];rfl,?_,mB C.d (by show(fZ y&&J&&J)=J;rw[y1];rfl),?_),L,rfl,Y);.rw[aX,C.b];show(aY y&&gD (.int (X:Nat))&&J)=J;rw[D,LA BL M];rfl
   .have:=C.z;rw[mT,aa];show dg A+(1+(eZ y+(1+0))+0)<=20*(A.length+1);lia
  have(jb,m4,rfl,E):=j;refine aw (kx E rfl) λL X Y BL=>?_;obtain⟨am,am1,am2,e5⟩:∃am:Int,1<=am/\am<=13/\nk [Pv.int 4,.int 4,.int 13] (X:Nat)=O (.int am):=by
   have BL:X<3:=by have:(X:Int)<3:=BL;lia
   rcases X with _|_|_|t;.exact(4,by ext,by ext,rfl)
   .exact(4,by ext,by ext,rfl)
   .exact(13,by ext,by ext,rfl)
   .lia
  refine bC e5 (eW (λpre post σ h=>P4 o xs bx lx ts us dd fs R bp AU mo am pre σ h) (.mk L [] _ _ _ _ _ Y (rfl,rfl,rfl,ay _)) (λpre x post σ h e j=>?_) λσ h j=>?_);.cases j with|mk m6 ls v1 v2 v3 v4 F wc G=>
   have N:aY x=true:=ai.mp p.nl.1 x (by rw[show lx=_ from e];simp);have(x1,x2):=jB N;have ll:ls.length<=2:=by have h1:=p.nl.2;rw[show lx=_ from e,aa]at h1;rw[<-ae (f:=cM),G.f];lia
   refine aw (Jf wc am1 (by lia)) λm7 k Hx hk=>?_;have hk:(k:Int)<am:=hk;refine aw (by show(gU k&&decide ((-4611686018427387904:Int)<=(k:Nat)))=J;rw[dW (aE (show k<=12 by lia) (by ext)),a9 (by lia)];rfl) ?_;refine uc (λpre A h=>(A.length=pre.length/\Nus A)/\∃m,h=[.lst [.int m],.lst [.int AU],.lst fs,.lst ls]/\fS m=J) ((rfl,rfl,rfl,ay _),m7,rfl,Hx) (λpre y post A h e j=>?_) λZ h j=>?_;.obtain⟨⟨C,I⟩,m8,rfl,WJ⟩:=j;refine aw (Jf WJ mo1 M) λm9 t9 hm9 ht9=>((by rw[aa,aa,C];rfl,(by rw[aX,I.n];show(gD (.int (t9:Nat))&&J)=J;rw[LA ht9 M];rfl,mB I.d rfl,?_)),m9,rfl,hm9);have:=I.z;rw[mT,aa];exact Oe this (ay 1)
   .obtain⟨⟨C,I⟩,m8,rfl,WJ⟩:=j;have C:Z.length=k:=by rw[C];show(lJ 0 k).length=k;unfold lJ;rw[ae,cP]
    refine aw (dW (aE (show ls.length+1<=5 by lia) (by ext))) ?_;refine P4.mk m8 (ls++[.tup [x,.tup Z]]) _ _ _ _ _ WJ (by rw[aq,G.f],?_,mB G.d (by show(fZ x&&(eP Z&&J)&&J)=J;rw[x1,I.d];rfl),?_);.rw[aX,G.b];show(aY x&&(ic (Z.length:Nat) 12&&Z.all gD)&&J)=J;rw[N,I.n,bM.mpr (by lia)];rfl
    .have h1:=G.z;have h2:=I.z;rw[mT,aa];show dg ls+(1+(eZ x+(1+dg Z+0))+0)<=40*(ls.length+1);lia
  .cases j with|mk m6 ls v1 v2 v3 v4 F wc G=>
   have lbx:bp.length<=3:=by rw[<-ae (f:=cM),jb.f];exact p.nb.2
   have llx:ls.length<=2:=by rw[<-ae (f:=cM),G.f];exact p.nl.2
   refine q m6 _ _ _ _ wc (PD p jb.f jb.b G.f G.b hf gf gr ?_ jb.d G.d (by have:=jb.z;lia) (by have:=G.z;lia));rcases rc with z|z<;>lia
end
def ge(ks:ϐ):ϐ:=ks.takeWhile λk=>!aS k "rows"
def ew{k:Str}{ks:ϐ}:ge (k::ks)=match aS k "rows"with|true=>[]|false=>k::ge ks:=by unfold ge;rw[List.takeWhile_cons];cases aS k "rows"<;>rfl
theorem g4:∀{ks:ϐ},("rows":Str)∈ks->ks[(ge ks).length]?=O "rows"/\(∀m,m<(ge ks).length->ks[m]?≠O "rows")/\ks.take (ge ks).length=ge ks|[],h=>by cases h|k::ks,h=>by rw[ew];cases c:aS k "rows"with|true=>rw[aQ.mp c];exact(rfl,λm H=>absurd H (Nat.not_lt_zero _),rfl)|false=>
   have n:k≠"rows":=λz=>by rw[aQ.mpr z]at c;cases c
   have e:("rows":Str)∈ks:=(aK.mp h).elim (λz=>absurd z.symm n) id;have(a,b,d):=g4 e;refine(a,λm H=>?_,cy (List.cons k) d);cases m with|zero=>exact λz=>n (cJ z)|succ m=>exact b m (Nat.lt_of_succ_lt_succ H)
theorem gQ:∀{ks:ϐ},("rows":Str)∉ks->ge ks=ks|[],_=>rfl|k::ks,h=>by rw[ew];cases c:aS k "rows"with|true=>exact absurd (aQ.mp c) λz=>h (by rw[z];exact au)|false=>exact cy (List.cons k) (gQ λz=>h (ao _ z))
def agx(x:Str)(ws:ϐ):P9 (.str x) (ws.map V.str)=decide (x∈ws):=by
 unfold P9;rw[gq,List.any_eq_true,decide_eq_true_iff];constructor
 .rintro⟨y,H,e⟩;have(z,a,rfl):=a0.mp H;have E:(z==x)=true:=e;have b:z=x:=by simpa using E
  exact b▸a
 .intro h;refine(.str x,a0.mpr (x,h,rfl),?_);show(x==x)=J;simp
def Wf(n:ϐ):(n.map V.str).all mD=true:=by rw[ai];intro v h;have(x,_,rfl):=a0.mp h;rfl
def OY(xs:ϕ)(j:Nat):mw xs af (O (j:Int))=xs.take j:=by
 unfold mw;rw[HT.vc,HT.Gj,jG,Nat.sub_zero];rcases Nat.le_total j xs.length with h|h;.rw[Jp h]
 .rw[GQ h,eo (ay _),eo h]
def To(c:JJ p f ds h Q X):∃a,ds=[.p a]/\h=[]/\gd (p a) (Q (.p (f a)) []):=by unfold JJ Tt at c;exact iI c λx _ c=>fh c λc=>fh c λc=>(x,rfl,rfl,c)
def Gq:eD ["word","kinds"] ["word"] (aT (top 12)):=oP (by ext)
section
variable{ca:Nat->Addr}{W:Wd}{aF:Addr}
seal L2.PE L2.PS L2.oH L2.PT L2.PW L2.PA L2.PG L2.Vh L2.PI L2.PO L2.pE L2.PC L2.jZ L2.dQ L2.ED L2.IV L2.Om L2.ZW in
def VS(u:W.mg "ROW_FORMS"=O (.ref aF))(t:zV W.w W.K aF λx=>lk x dI)(S:SX W):DX ca W 27 4 Tp:=by
 refine(["word"],S.Bg.okX Gq (λy H Q E (G,M,h,ds,k,X,r,i,c,_,_)=>?_) λf U A o s H y Q E Y B=>?_);.have(x,rfl,rfl,c):=To c;rw[<-i.len];rfl
 have(G,M,h,ds,k,X,r,i,c,out,D):=B;have(x,rfl,rfl,l):=To c;have(g,j):=bq l;clear c l;have(g,C):=ah g;revert j C i;refine lM g λd i j C=>?_;cases a:lk d dI with|none=>rw[show lk (d8 (.str d)) dI=af from a]at C;cases C|some ks=>
 have q:k (.p (jP (ge ks))) []:=by
  have:AG (.str d)=jP (ge ks):=by unfold AG;rw[show lk (d8 (.str d)) dI=O ks from a];rfl
  rw[<-this];exact j
 have(v,rfl,I):=i.lW;cases(show v=.str d by unfold F.cL bT at I;exact I);refine(_,qf (RF 1 Gq.nd (FX (Qw t) (nL (v:=.ref aF) rfl u rfl) (pv 0))) (qf (Uu (y9 xj DL (pv 1) (by rfl)) (qg (y6 (A5 Gw (pv 1) F5 (F6 (Uq PySem.F.plainAttrs_tuple U4 PySem.F.type_tuple_index HM (pv 1) (hX DL qX)))))) Ga) (qg (y6 (pv 1)))),?_);refine(_,rfl,rfl,d,ks,rfl,a,λb e=>?_);refine(_,rfl,b,_,rfl,.inr e.sq,rfl,Wf ks,_,rfl,?_);rw[show(if a'=J then !P9 (.str "rows") (ks.map V.str)else P9 (.str "rows") (ks.map V.str))=decide (("rows":Str)∈ks)from agx _ _];refine UF (λc=>?_) λc=>?_;.have(R,L,N):=g4 (aW c);refine(_,rfl,_,rfl,e.ty,b,ks,"rows",(ge ks).length,rfl,rfl,e.sq,R,L,_,rfl,b,_,rfl,e.sq,λp P m n=>?_);rw[OY,<-List.map_take,N]at n;exact out _ [] M P _ (iE m) (mR r m) (by unfold F.cL jP bT;exact(p,_,rfl,n,kL)) q
 .have T:("rows":Str)∉ks:=λz=>c (a9 z);rw[gQ T]at q;exact(_,rfl,out _ [] M H _ (iE (qE.refl H)) r (by unfold F.cL jP bT;exact(b,_,rfl,e.sq,kL)) q)
end
noncomputable def jK(i:Nat):Str:=toString ((i:Nat):Int)
def At(c:Nat):(!decide ((⟨#[c]⟩:Str).cps.toList<("0":Str).cps.toList))=decide (48<=c):=by
 have e:("0":Str).cps.toList=[48]:=by ext
 rw[e];by_cases h:48<=c
 .rw[a9 h,bg];.rfl
  .intro z;have Z:[c]<[48]:=z;simp[cU]at Z;lia
 .rw[bg h,a9];.rfl
  .show[c]<[48];simp[cU];lia
def A'(c:Nat):(!decide (("9":Str).cps.toList<(⟨#[c]⟩:Str).cps.toList))=decide (c<=57):=by
 have e:("9":Str).cps.toList=[57]:=by ext
 rw[e];by_cases h:c<=57
 .rw[a9 h,bg];.rfl
  .intro z;have Z:[57]<[c]:=z;simp[cU]at Z;lia
 .rw[bg h,a9];.rfl
  .show[57]<[c];simp[cU];lia
def Hk{c:Char}(h:c.isDigit):48<=c.toNat/\c.toNat<=57:=by unfold Char.isDigit at h;rw[aO,dM,dM]at h;exact(A_.mp h.1,A_.mp h.2)
def Dz(i:Nat):(jK i).cps.toList=(af8 10 i).map ag5:=PySem.W.KIN.signs_num i
def Ui(h:c∈(jK i).cps.toList):48<=c/\c<=57:=by rw[Dz]at h;have(ch,I,e):=a0.mp h;rw[<-e];exact Hk (Nat.isDigit_of_mem_toDigits (by ext) (by ext) I)
def uR(h:i<=999999):(jK i).length<=6:=PyProof.Rows.toString_length_le (v:=(i:Int)) (by lia) (by ext) (by show(i:Int)<10^6;lia)
def FL(h:i<=999999):aa7 (jK i)=O (i:Int):=PySem.W.KIN.num_reads (n:=(i:Int)) (by lia) (by lia)
def Uh(i:Nat):jK i="0"\/∃c r,(jK i).cps.toList=c::r/\49<=c:=by
 have(d,D):=afz i;by_cases h:i=0;.refine .inl (cG ?_);rw[Dz,d h];decide+kernel
 .have(c,r,e,H):=D (by lia);exact .inr (c,r,by rw[Dz,e],H)
def M8(e:x.cps.toList=c::r)(h:c≠d):ac9 x ⟨#[d]⟩=false:=by have z:=PySem.StrLaws.subAt_one x d 0;rw[e]at z;refine a8.mpr λw=>?_;have w:(decide (0+(⟨#[d]⟩:Str).length<=x.length)&&Builtin.Str.subAt x ⟨#[d]⟩ 0)=true:=w;have:=z.mp (aW (ah w).1,(ah w).2);exact h (by simpa using this)
def eq0:("0":Str)=⟨#[48]⟩:=by ext
def U1:("#":Str)=⟨#[35]⟩:=by ext
def Rs(h:i<=999999):j8 (jK i)=true:=by
 unfold j8;have d:jv 6 ((jK i).length:Nat)=false:=a8.mpr λz=>by have:=cw.mp z;have:=uR h;lia
 have f:(ig (jK i)).all CC=true:=ai.mpr λx g=>by have(c,H,rfl):=a0.mp g;have(a,b):=Ui H;show(!decide ((⟨#[c]⟩:Str).cps.toList<("0":Str).cps.toList)&&!decide (("9":Str).cps.toList<(⟨#[c]⟩:Str).cps.toList))=J;rw[At,A',a9 a,a9 b];rfl
 have j:(ac9 (jK i) "0"&&!aS (jK i) "0")=false:=by
  rcases Uh i with e|⟨c,r,e,H⟩;.rw[aQ.mpr e];exact N9 _
  .rw[eq0,M8 e (by lia)];rfl
 rw[d,f,j];rfl
def abK(h:i<=999999)(r:ϑ):mZ "number" (.str (jK i)::r)=O (.int (i:Nat),r):=by show qV r (jK i)=_;unfold qV;rw[Rs h,FL h]
def wS(w:Str):Bool:=!aS w ""&&(aa4 w.length 10&&w.cps.toList.all λc=>aa4 48 c)
def AW(h:aY (.str x)):wS x=true:=by
 have h:(aa4 1 x.length&&(aa4 x.length 6&&(ig x).all sH))=true:=h;have(H,a,b):=dG h;unfold wS;have e:aS x ""=false:=a8.mpr λz=>by rw[aQ.mp z]at H;cases H
 have E:aa4 x.length 10=true:=ap.mpr (aE (ap.mp a) (by ext));rw[e,E,ai.mpr λc d=>?_];.rfl
 .have:=ai.mp b (.str ⟨#[c]⟩) (a0.mpr (c,d,rfl));rw[yJ]at this;unfold Gx at this;have:=aW (ah this).1;exact ap.mpr (by lia)
def Uj(h:i<=999999):wS (jK i)=true:=by
 unfold wS;have E:aa4 (jK i).length 10=true:=ap.mpr (aE (uR h) (by ext));rw[show aS (jK i) ""=a' from a8.mpr λz=>?_,E,ai.mpr λc H=>ap.mpr (Ui H).1];.rfl
 .have e:=aQ.mp z;rcases Uh i with E|⟨c,r,E,H⟩;.rw[E]at e;exact absurd e (by ext)
  .rw[e]at E;cases E
def UW(h:wS w)(n:j8 w->(aa7 w).isSome):gW (.str w)=true:=by have(_,H,_):=dG h;show(aa4 w.length 1000000&&(!j8 w||(aa7 w).isSome))=J;rw[ap.mpr (aE (ap.mp H) (by ext))];cases e:j8 w with|false=>rfl|true=>rw[n e];rfl
inductive VW:Nat->Pv->ϐ->Prop|num{n i:Nat}(h:i<=999999):VW (n+1) (.tup [.str "number",.int (i:Nat)]) ["number",jK i]|nm{n:Nat}{w x:Str}(hw:w="box"\/w="size")(hx:aY (.str x)):VW (n+1) (.tup [.str w,.str x]) [w,x]|not{n:Nat}{v:Pv}{ws:ϐ}(t:VW n v ws):VW (n+1) (.tup [.str "not",v]) ("not"::ws)|item{n:Nat}{x:Str}{v:Pv}{ws:ϐ}(hx:aY (.str x))(t:VW n v ws):VW (n+1) (.tup [.str "item",.str x,v]) ("item"::x::ws)|bin{n:Nat}{w:Str}{v u:Pv}{ws us:ϐ}(hw:w∈(["plus","minus","times","over","rest","less","same"]:ϐ))(t:VW n v ws)(t':VW n u us):VW (n+1) (.tup [.str w,v,u]) (w::(ws++us))
def p9(h:aY x):∃z,x=.str z/\aY (.str z)=true:=by cases x<;>first|(cases h;done)|exact(_,rfl,h)
def DB(h:gD x):∃i:Nat,x=.int (i:Nat)/\i<=999999:=by
 cases x<;>first|(cases h;done)|skip
 rename_i i;have(H,a):=ah (show(ic 0 i&&ic i 999999)=J from h);have(k,rfl):=cW (bM.mp H);exact(k,rfl,by have:=bM.mp a;lia)
def K6{r:ϑ}(h:jT ((r.length+1:Nat):Int) (1+(n:Nat))):r.length=n:=by have:=cB.mp h;lia
def l1{r:ϑ}(h:r.length=1):∃a,r=[a]:=by match r,h with|[a],_=>exact(a,rfl)
def l2{r:ϑ}(h:r.length=2):∃a b,r=[a,b]:=by match r,h with|[a,b],_=>exact(a,b,rfl)
def l3{r:ϑ}(h:r.length=3):∃a b c,r=[a,b,c]:=by match r,h with|[a,b,c],_=>exact(a,b,c,rfl)
def NG(h:val (n+1) bs ls x):∃w r,x=.tup (.str w::r)/\qp (val n bs ls) bs ls r (lk w eJ)=true:=by cases x with
 |tup X=>cases X with|nil=>exact xi h|cons a r=>cases a with|str w=>exact(w,r,rfl,h)|_=>exact xi h
 |_=>exact xi h
def zx:∀{n:Nat}{v:Pv},val n bs ls v=J->∃ws,VW n v ws:=by intro n;induction n with|zero=>intro v h;cases h|succ n I=>intro v h;have(w,r,rfl,f):=NG h;clear h;have h:=f;clear f;cases E:lk w eJ with|none=>rw[E]at h;cases h|some ks=>
  rw[E]at h;have(h1,c):=ah h;have(p,hp,e):=yI E;rw[ae]at h1;have h1:=K6 h1;have two:ks=(["value","value"]:ϐ)->w∈(["plus","minus","times","over","rest","less","same"]:ϐ)->∃ws,VW (n+1) (.tup (.str w::r)) ws:=λE j=>by subst E;have(a,b,rfl):=l2 h1;have(G,d,_):=dG (show(val n bs ls a&&(val n bs ls b&&J))=J from c);have(ws,t):=I G;have(u,T):=I d;exact(_,.bin j t T)
  have one:∀k:Str,ks=[k]->∃a,r=[a]/\rS (val n bs ls) bs ls k a=true:=λk E=>by subst E;have(a,rfl):=l1 h1;exact(a,rfl,(ah (show(rS (val n bs ls) bs ls k a&&J)=J from c)).1)
  subst e;have hp:=hp;simp only[eJ,aK,qw,or_false]at hp;rcases hp with rfl|rfl|rfl|rfl|rfl|rfl|rfl|rfl|rfl|rfl|rfl|rfl;all_goals(have E:O _=O ks:=E;cases E)
  .have(a,rfl,g):=one _ rfl;have(i,rfl,l):=DB (show gD a=J from g);exact(_,.num l)
  .have(a,rfl,g):=one _ rfl;have(z,rfl,H):=p9 (ah (show(aY a&&g8 a bs)=J from g)).1;exact(_,.nm (.inl rfl) H)
  .exact two rfl (by simp)
  .exact two rfl (by simp)
  .exact two rfl (by simp)
  .exact two rfl (by simp)
  .exact two rfl (by simp)
  .exact two rfl (by simp)
  .exact two rfl (by simp)
  .have(a,rfl,g):=one _ rfl;have(ws,t):=I (show val n bs ls a=J from g);exact(_,.not t)
  .have(a,b,rfl):=l2 h1;have(G,d,_):=dG (show(aY a&&g8 a ls&&(val n bs ls b&&J))=J from c);have(z,rfl,H):=p9 (ah G).1;have(ws,t):=I d;exact(_,.item H t)
  .have(a,rfl,g):=one _ rfl;have(z,rfl,H):=p9 (ah (show(aY a&&g8 a ls)=J from g)).1;exact(_,.nm (.inr rfl) H)
def Cn(st:List ϑ)(V:Pv)(r:ϑ)(o:Option (Pv×ϑ)):Prop:=match st with|[]=>o=O (V,r)|p::st=>∃m,RV m (p++[V]) st r o
def tL{st:List ϑ}(e:lk w eJ=O ks)(l:ps.length=ks.length)(c:Cn st (.tup (.str w::ps)) r o):∃m,RV m (.str w::ps) st r o:=by cases st with|nil=>cases c;exact(0,.fin e l)|cons p st=>have(m,c):=c;exact(m+1,.pop e l c)
def RdV(V:Pv)(ws:ϐ):Prop:=∃(v:Str)(u:ϐ),ws=v::u/\(lk v eJ).isSome=J/\∀(st:List ϑ)(r:ϑ)(o:Option (Pv×ϑ)),Cn st V r o->∃m,RV m [.str v] st (u.map .str++r) o
def D2(e:lk w eJ=O [kd])(n:aS kd "value"=a')(f:∀r,mZ kd (.str x::r)=O (y,r)):RdV (.tup [.str w,y]) [w,x]:=(w,[x],rfl,by rw[e];rfl,λst r o c=>by have(m,h):=tL (ps:=[y]) e rfl c;exact(m+1,.r_ (ps:=[]) e rfl n (f r) h))
def VW.rd{n:Nat}(h:VW n v ws):RdV v ws:=by
 induction h with|num h=>exact D2 (kd:="number") (by ext) (by ext) (abK h)|nm a b=>
  rcases a with rfl|rfl;.exact D2 (kd:="box") (by ext) (by ext) λr=>rfl
  .exact D2 (kd:="list") (by ext) (by ext) λr=>rfl|@not _ V _ t h=>have(v,s,rfl,H,h):=h;refine("not",v::s,rfl,by ext,λst r o c=>?_);have(m,c):=h ([.str "not"]::st) r o (tL (w:="not") (ks:=["value"]) (ps:=[V]) (by ext) rfl c);exact(m+1,.X6 (w:="not") (ps:=[]) (ks:=["value"]) (by ext) rfl H c)|@item _ x V _ b t h=>have(v,s,rfl,H,h):=h;refine("item",x::v::s,rfl,by ext,λst r o c=>?_);have(m,c):=h ([.str "item",.str x]::st) r o (tL (w:="item") (ks:=["list","value"]) (ps:=[.str x,V]) (by ext) rfl c);exact(m+1+1,.r_ (w:="item") (kd:="list") (ps:=[]) (ks:=["list","value"]) (x:=.str x) (by ext) rfl (by ext) rfl (.X6 (w:="item") (ps:=[.str x]) (ks:=["list","value"]) (by ext) rfl H c))|@bin _ w V U ws s a t T h g=>have(v,d,rfl,H,h):=h;have(u,s,rfl,hu,g):=g;have e:lk w eJ=O (["value","value"]:ϐ):=(show ∀w∈(["plus","minus","times","over","rest","less","same"]:ϐ),lk w eJ=O (["value","value"]:ϐ)by ext) w a;refine(w,v::(d++u::s),rfl,by rw[e];rfl,λst r o c=>?_);have(m,c):=g ([.str w,V]::st) r o (tL (ps:=[V,U]) e rfl c);have(M,c):=h ([.str w]::st) (.str u::(s.map .str++r)) o (m+1,.X6 (ps:=[V]) e rfl hu c);refine(M+1,?_);rw[aH,aq,aH,hJ,aD,hJ];exact .X6 (ps:=[]) e rfl H c
def RdV.val{V:Pv}{ws:ϐ}(h:RdV V ws)(r:ϑ):zT (ws.map .str++r) (O (V,r)):=by have(v,u,rfl,H,h):=h;have(m,c):=h [] r (O (V,r)) rfl;exact .go H c
def wN(w:Str):Bool:=wS w&&(!j8 w||(aa7 w).isSome)
def rQ(h:aY (.str x)):wN x=true:=by
 unfold wN;rw[AW h,show j8 x=a' from a8.mpr λz=>?_];.rfl
 .have h:(aa4 1 x.length&&(aa4 x.length 6&&(ig x).all sH))=true:=h;have(H,_,d):=dG h;have(z,_):=ah (show(!(jv 6 (x.length:Nat)||!(ig x).all CC)&&!(ac9 x "0"&&!aS x "0"))=J from z);have z:(ig x).all CC=true:=by cases e:(ig x).all CC with|true=>rfl|false=>rw[e]at z;simp at z
  cases e:x.cps.toList with
  |nil=>
   have:x.length=0:=by show x.cps.size=0;rw[<-bU,e];rfl
   rw[this]at H;cases H|cons c r=>have m:Pv.str ⟨#[c]⟩∈ig x:=a0.mpr (c,by rw[e];exact au,rfl);have a:=ai.mp d _ m;have b:=ai.mp z _ m;rw[yJ]at a;have b:(!decide ((⟨#[c]⟩:Str).cps.toList<("0":Str).cps.toList)&&!decide (("9":Str).cps.toList<(⟨#[c]⟩:Str).cps.toList))=true:=b;rw[At,A']at b;have a:=aW (ah (show(decide (97<=c)&&decide (c<=122))=J from a)).1;have b:=aW (ah b).2;lia
def Ly(h:i<=999999):wN (jK i)=true:=by unfold wN;rw[Uj h,FL h];exact l6 _
def VW.wn{n:Nat}(h:VW n v ws):ws.all wN=true:=by induction h with|num h=>show(wN "number"&&(wN (jK _)&&J))=J;rw[Ly h];decide+kernel|nm H x=>rcases H with rfl|rfl<;>(show(wN _&&(wN _&&J))=J;rw[rQ x];decide+kernel)|not t h=>show(wN "not"&&_)=J;rw[h];decide+kernel|item x t h=>show(wN "item"&&(wN _&&_))=J;rw[h,rQ x];decide+kernel|bin H t T h g=>rw[aG,aX,h,g,(show ∀w∈(["plus","minus","times","over","rest","less","same"]:ϐ),wN w=J by ext) _ H];rfl
def VW.len{n:Nat}(h:VW n v ws):ws.length+2<=2*2^n+0/\ws ≠[]:=by induction h with|@num n _ h=>exact(by rw[fV];have:=eH (n:=n);show 4<=_;lia,by simp)|@nm n _ _ H x=>exact(by rw[fV];have:=eH (n:=n);show 4<=_;lia,by simp)|@not n _ _ t h=>exact(by rw[fV,ag];have:=h.1;have:=eH (n:=n);lia,by simp)|item x t h=>exact(by rw[fV,ag,ag];have:=h.1;lia,by simp)|bin H t T h g=>exact(by rw[fV,ag,aa];have:=h.1;have:=g.1;lia,by simp)
theorem qA:∀{ws:ϐ},kg (ws.map .str)=O ws|[]=>rfl|w::ws=>by show(match kg (ws.map .str)with|some r=>O (w::r)|none=>af)=_;rw[qA]
def cN(ws:ϐ):Str:=ac6 ⟨#[32]⟩ ws
def EO:(" ":Str)=⟨#[32]⟩:=aQ.mp (by ext)
def vT(x y z:Str):x++y++z=x++(y++z):=cG (by rw[hZ,hZ,hZ,hZ,aD])
theorem dk:∀{ws us:ϐ},ws ≠[]->us ≠[]->cN (ws++us)=cN ws++(" "++cN us)|[],_,h,_=>absurd rfl h|[w],[],_,h=>absurd rfl h|[w],u::us,_,_=>by refine cG ?_;show(ac6 ⟨#[32]⟩ (w::u::us)).cps.toList=_;rw[dq,hZ,hZ,EO];rfl|w::x::ws,us,_,hu=>by have i:=dk (ws:=x::ws) (us:=us) (by simp) hu;refine cG ?_;show(ac6 ⟨#[32]⟩ (w::x::(ws++us))).cps.toList=_;rw[dq];show _++32::(cN (x::ws++us)).cps.toList=(ac6 ⟨#[32]⟩ (w::x::ws)++(" "++cN us)).cps.toList;rw[i,hZ,hZ (ac6 _ _),dq,aD];rfl
def gw(w:Str):Bool:=!aS w ""&&!w.cps.toList.contains 32
def NL(h:ws ≠[])(g:ws.all gw):gT (cN (aa5 n ⟨#[]⟩++ws))=ws.map .str:=by
 unfold gT cN;have f:∀x∈aa5 n (⟨#[]⟩:Str)++ws,32∉x.cps.toList:=λx H=>by
  rcases bf.mp H with H|H;.rw[(nX.mp H).2];exact λz=>by cases z
  .have:=(ah (ai.mp g x H)).2;intro z;rw[ko.mpr z]at this;cases this
 rw[EO,lK (c:=32) (by intro z;exact h (t_.mp z).2) f,aq,b7,zO,sd.mpr,lS,wE.mpr];.intro x H;have(w,a,rfl):=a0.mp H;exact(ah (ai.mp g w a)).1
 .intro x H;rw[(nX.mp H).2];decide+kernel
noncomputable def wl(ws:ϐ):Pv:=.lst (ws.map .str)
def BN(ls:ϐ):ϑ:=(ls.map λz=>Pv.lst (gT z)).filter kf
def ze:BN (a++b)=BN a++BN b:=by unfold BN;rw[aq,b7]
theorem tD:∀{ws:ϐ},(∀w∈ws,w.length<=10)->(cN ws).length<=11*ws.length|[],_=>ay _|[w],h=>by have:=h w au;show w.length<=11;lia|w::x::ws,h=>by have i:=tD (ws:=x::ws) λz H=>h z (ao _ H);have:=h w au;have e:cN (w::x::ws)=cN [w]++(" "++cN (x::ws)):=dk (ws:=[w]) (us:=x::ws) (by simp) (by simp);rw[e,bt,bt];show w.length+(1+_)<=_;rw[ag];lia
def ZI{ws:ϐ}(h:ws.all wN):∀w∈ws,w.length<=10:=λw H=>by have(_,a,_):=dG (ah (ai.mp h w H)).1;exact ap.mp a
inductive ZT(n:Nat):Pv->Str->Prop|nm{x:Str}(hx:aY (.str x)):ZT n (.str x) x|val{xs:ϑ}{ws:ϐ}(t:VW n (.tup xs) ws):ZT n (.tup xs) (cN ws)
inductive Vi(n:Nat):ϑ->ϐ->Prop|nil:Vi n [] []|cons{x:Pv}{z:Str}{xs:ϑ}{zs:ϐ}(p:ZT n x z)(t:Vi n xs zs):Vi n (x::xs) (z::zs)
noncomputable def K7:ϐ:=["number","box","size"]
noncomputable def m_:ϐ:=["not","item","plus","minus","times","over","rest","less","same"]
inductive L'(n:Nat):Ct|int{w:Str}{i:Nat}{Q:Dv->Hs->Prop}{xc:XP}(hw:w∈K7)(hi:i<=999999)(q:Q (.p (.str (w++" "++jK i))) []):L' n [.p (.tup [.str w,.int (i:Nat)])] [] Q xc|str{w x:Str}{Q:Dv->Hs->Prop}{xc:XP}(hw:w∈K7)(hx:x.length<=10)(q:Q (.p (.str (w++" "++x))) []):L' n [.p (.tup [.str w,.str x])] [] Q xc|node{w:Str}{xs:ϑ}{zs:ϐ}{Q:Dv->Hs->Prop}{xc:XP}(hn:n<=3)(hw:w∈m_)(hl:xs.length<=2)(t:Vi n xs zs)(q:Q (.p (.str (ae2 " " (w::zs)))) []):L' n [.p (.tup (.str w::xs))] [] Q xc
inductive P'(n:Nat):Ct|mk{v:Pv}{ws:ϐ}{Q:Dv->Hs->Prop}{xc:XP}(hn:n<=4)(t:VW n v ws)(q:Q (.p (.str (cN ws))) []):P' n [.p v] [] Q xc
theorem VW.tup{n:Nat}{v:Pv}{ws:ϐ}(h:VW n v ws):∃xs,v=.tup xs:=by cases h<;>exact(_,rfl)
def VW.pt{n:Nat}(h:VW n v ws):ZT n v (cN ws):=by have(x,rfl):=h.tup;exact .val h
def qQ(ws:ϐ):ae2 " " ws=cN ws:=by rw[vw,EO];rfl
def ii(a b:Str):cN [a,b]=a++" "++b:=by rw[vT];exact dk (ws:=[a]) (us:=[b]) (by simp) (by simp)
def adi:∀ds h Q xc,P' (n+1) ds h Q xc->L' n ds h Q xc:=λds h Q xc c=>by cases c with|@mk v ws _ _ a t q=>cases t with|num i=>exact .int (by ext) i (by rw[<-ii];exact q)|nm H b=>have(_,d,_):=dG (AW b);rcases H with rfl|rfl<;>exact .str (by ext) (ap.mp d) (by rw[<-ii];exact q)|@not _ v ws t=>refine .node (zs:=[cN ws]) (jH a) (by ext) (show 1<=2 by ext) (.cons t.pt .nil) ?_;rw[qQ];rw[show cN ["not",cN ws]=cN ("not"::ws)from(dk (ws:=["not"]) (us:=[cN ws]) (by simp) (by simp)).trans (dk (ws:=["not"]) (us:=ws) (by simp) t.len.2).symm];exact q|@item _ x v ws b t=>refine .node (zs:=[x,cN ws]) (jH a) (by ext) (show 2<=2 by ext) (.cons (.nm b) (.cons t.pt .nil)) ?_;rw[qQ];rw[show cN ["item",x,cN ws]=cN ("item"::x::ws)from(dk (ws:=["item",x]) (us:=[cN ws]) (by simp) (by simp)).trans (dk (ws:=["item",x]) (us:=ws) (by simp) t.len.2).symm];exact q|@bin _ w v u ws us H t T=>refine .node (zs:=[cN ws,cN us]) (jH a) (by simp only[m_,aK]at H⊢;exact .inr (.inr H)) (show 2<=2 by ext) (.cons t.pt (.cons T.pt .nil)) ?_;rw[qQ];have e:cN [w,cN ws,cN us]=cN [w]++(" "++(cN ws++(" "++cN us))):=(dk (ws:=[w]) (us:=[cN ws,cN us]) (by simp) (by simp)).trans (by rw[show cN [cN ws,cN us]=cN [cN ws]++(" "++cN [cN us])from dk (ws:=[cN ws]) (us:=[cN us]) (by simp) (by simp)];rfl);have E:cN (w::(ws++us))=cN [w]++(" "++(cN ws++(" "++cN us))):=(dk (ws:=[w]) (us:=ws++us) (by simp) (by simp[t.len.2])).trans (by rw[dk t.len.2 T.len.2]);rw[e,<-E];exact q
inductive TJ(n:Nat)(v:Pv)(w:Str)(zs:ϐ)(pre post:ϑ):Es->Hs->Prop|mk(z1 z2:ϐ)(p:Option Dv)(e:zs=z1++z2)(t:Vi n post z2)(l:z1.length=pre.length):TJ n v w zs pre post [O (.p v),O (.r 0),p] [.lst ((w::z1).map .str)]
def K8(h:w∈K7):w.length<=6:=(show ∀w∈K7,w.length<=6 by ext) w h
def XB(h:w∈m_):w.length<=5:=(show ∀w∈m_,w.length<=5 by ext) w h
def DA(h:i<=999999):decide (((i:Nat):Int).natAbs.log2<1920)=true:=a9 (by
 rw[Int.natAbs_natCast];have:=Nat.log2_le_self i;by_cases H:i=0;.subst H;decide
 .exact(Nat.log2_lt H).mpr (zP h (by ext)))
def E6{xs:ϑ}:(qM xs (O 1) af).length<=xs.length:=by show(xs.drop _).length<=_;rw[fC];lia
theorem ZT.len(H:n<=4)(h:ZT n x z):z.length<=400:=by cases h with|nm a=>have(_,h2,_):=dG (AW a);have:=ap.mp h2;lia|@val X ws t=>have h1:=tD (ZI t.wn);have h2:=t.len.1;have b:2^n<=2^4:=Fp (by ext) H;have c:(2:Nat)^4=16:=rfl;lia
theorem Vi.sum(H:n<=4)(h:Vi n xs zs):(zs.map (·.length)).sum<=400*zs.length/\zs.length=xs.length:=by induction h with|nil=>exact(ay _,rfl)|@cons x z xs zs p t i=>have:=p.len H;refine(?_,by rw[ag,ag,i.2]);rw[aH,cm,ag];have:=i.1;lia
def T7(h:w∈K7):g8 (.str w) (K7.map .str)=true:=yC.mpr h
def abt(h:w∈m_):g8 (.str w) (K7.map .str)=false:=(show ∀w∈m_,g8 (.str w) (K7.map .str)=a' by ext) w h
section
variable{ca:Nat->Addr}{W:Wd}
theorem υ(B:LX ca W)(S:SX W):∀n,DX ca W 57 (n+2) (P' n)
 |0=>(Dt.no S.kN).imp λds h Q a c=>by cases c with|mk m t q=>cases t
 |n+1=>by
  refine Dt.imp (C:=L' n) ?_ adi;refine B.e (k:=n+1) 3 J [(57,P' n)] [] (.seq (.iff (.cmp OD (.ix 0 (.i 0)) (.lst (.u3 (.s "number") (.s "box") (.s "size")))) (.re (.b2 cC (.b2 cC (.ix 0 (.i 0)) (.s " ")) (.bi Wb (.u (.ix 0 (.i 1)))))) .nil) (.seq (.set 1 (.tH (.u (.ix 0 (.i 0))))) (.seq (.fo (.one 2) (.s (.sl 0 (.of (.i 1)) .no)) (.one (.ex (.mt fQ 1 (.u (.bo (Bm.os (.ix (.lst (.u2 2 (.s ""))) (.bi V9 (.u (.bi j5 (.u2 2 (.ty 3)))))) (Bm.o1 (.cl 57 [] (.u 2)))))))))) (.re (.mt Le (.s " ") (.u 1)))))) S.kN rfl (υ B S n,trivial) trivial λds h Q a c=>?_
  cases c with|@int w i Q a H f q=>
   refine(rfl,aw rfl (bB (λ_=>?_) λz=>?_));.have l1:=K8 H;have l2:=uR f;refine aw (dW (by show w.length+1<=1000000;lia)) (aw (DA f) (aw (dW ?_) q));show(w++" ").length+(jK i).length<=1000000;rw[bt];show w.length+1+_<=_;lia
   .have z:g8 (.str w) (K7.map .str)=false:=z;rw[T7 H]at z;cases z|@str w x Q a H b q=>
   refine(rfl,aw rfl (bB (λ_=>?_) λz=>?_));.have l1:=K8 H;refine aw (dW (by show w.length+1<=1000000;lia)) (aw (dW ?_) q);show(w++" ").length+x.length<=1000000;rw[bt];show w.length+1+_<=_;lia
   .have z:g8 (.str w) (K7.map .str)=false:=z;rw[T7 H]at z;cases z|@node w X d Q a m H A t q=>
   have T:=t;refine(rfl,aw rfl (bB (λz=>?_) λ_=>?_));.have z:g8 (.str w) (K7.map .str)=true:=z;rw[abt H]at z;cases z
   .refine eW (TJ n (.tup (.str w::X)) w d) ?_ (λpre x post σ h e j=>?_) λσ h j=>?_;.exact .mk [] d af rfl t rfl
    .cases j with|mk Z o p E t l=>cases t with|@cons _ z _ M P t=>
     have D:Z.length+2<=100:=by have:=cy ad1 e;have g:(qM (Pv.str w::X) (O 1) af).length<=X.length+1:=E6;rw[aa,ag]at this;lia
     have sz:gU (((w::Z).map Pv.str).length+1)=true:=dW (by rw[ae,ag];show _<=1000000;lia);have fin:TJ n (.tup (.str w::X)) w d (pre++[x]) post [O (.p (.tup (.str w::X))),O (.r 0),O (.p x)] [.lst ((w::Z).map .str++[.str z])]:=by
      have g:(w::Z).map Pv.str++[.str z]=(w::(Z++[z])).map .str:=by rw[aH,aH,aq];rfl
      rw[g];exact .mk (Z++[z]) M _ (by rw[E,aD];rfl) t (by rw[aa,aa,l];rfl)
     cases P with|nm b=>have b:(aa4 1 z.length&&(aa4 z.length 6&&(ig z).all sH))=true:=b;have(G,v,_):=dG b;refine aw (dW (aE (ap.mp v) (by ext))) (bB (λz=>?_) λ_=>aw sz fin);have:=ax z;rw[this]at G;cases G|val y=>exact .mk (by lia) y (aw sz fin)
    .generalize F:qM (.str w::X) (O 1) af=pre at j;cases j with|mk Z o p E t l=>cases t;rw[aI]at E;subst E;refine bC qA (aw (ap.mpr ?_) q);have(I,K):=T.sum (by lia);have:=XB H;rw[aH,cm,ag];show w.length+_+_*1<=_;lia
inductive BY:ϑ->List ϐ->Prop|nil:BY [] []|cons{v:Pv}{ws:ϐ}{vs:ϑ}{oE:List ϐ}(t:VW 4 v ws)(k:BY vs oE):BY (v::vs) (ws::oE)
inductive rA(w:Str):ϑ->ϐ->ϐ->Prop|nil:rA w [] [] []|nm{x:Str}{xs:ϑ}{zs ws:ϐ}(hx:aY (.str x))(t:rA w xs zs ws):rA w (.str x::xs) (x::zs) (x::ws)|val{ys xs:ϑ}{us zs ws:ϐ}(hw:aS w "call"=a')(v:VW 4 (.tup ys) us)(t:rA w xs zs ws):rA w (.tup ys::xs) (cN us::zs) (us++ws)|vals{vs:ϑ}{oE:List ϐ}(hw:aS w "call"=J)(hl:vs.length<=3)(t:BY vs oE):rA w [.tup vs] (oE.map cN) oE.flatten
inductive TW:ϐ->ϐ->Prop|nil:TW [] []|cons{us zs ws:ϐ}(h:us ≠[])(t:TW zs ws):TW (cN us::zs) (us++ws)
def TW.jo(h:TW zs ws):cN zs=cN ws:=by induction h with|nil=>rfl|@cons us zs ws h t i=>cases t with|nil=>rw[aI];rfl|@cons v zs ws H t=>rw[dk h (by simp[H]),<-i];exact dk (ws:=[cN us]) (us:=cN v::zs) (by simp) (by simp)
def BY.tw(h:BY vs o):TW (o.map cN) o.flatten:=by induction h with|nil=>exact .nil|cons t k i=>exact .cons t.len.2 i
theorem rA.tw{ws:ϐ}(h:rA w xs zs ws):TW zs ws:=by induction h with|nil=>exact .nil|@nm x _ _ _ a t i=>exact .cons (us:=[x]) (by simp) i|val H v t i=>exact .cons v.len.2 i|vals H l t=>exact t.tw
def VW.tl(h:VW 4 v ws):(cN ws).length<=400:=h.pt.len (ay _)
theorem BY.sum(h:BY vs o):((o.map cN).map (·.length)).sum<=400*vs.length/\o.length=vs.length:=by induction h with|nil=>exact(ay _,rfl)|cons t k i=>have:=t.tl;have:=i.1;refine(?_,by rw[ag,ag,i.2]);rw[aH,aH,cm,ag];lia
theorem rA.sum{ws:ϐ}(h:rA w xs zs ws):(zs.map (·.length)).sum<=1200*xs.length/\zs.length<=3*xs.length:=by induction h with|nil=>exact(ay _,ay _)|nm x t i=>have(_,H,_):=dG (AW x);have:=ap.mp H;have:=i.1;have:=i.2;refine(?_,by rw[ag,ag];lia);rw[aH,cm,ag];lia|val a v t i=>have:=v.tl;have:=i.1;have:=i.2;refine(?_,by rw[ag,ag];lia);rw[aH,cm,ag];lia|vals a l t=>have(b,H):=t.sum;refine(?_,by rw[ae,H];show _<=3*1;lia);show _<=1200*1;lia
noncomputable def zL:ϐ:=["set","push","pop","put","ask","tell","fail","call","return"]
inductive F':Ct|wB{xs:ϑ}{Q:Dv->Hs->Prop}{xc:XP}(q:Q (.p (.str "try")) []):F' [.p (.tup (.str "try"::xs))] [] Q xc|ifw{w:Str}{v:Pv}{xs:ϑ}{ws:ϐ}{Q:Dv->Hs->Prop}{xc:XP}(hw:w="if"\/w="while")(t:VW 4 v ws)(q:Q (.p (.str (cN (w::ws)))) []):F' [.p (.tup (.str w::v::xs))] [] Q xc|pl{w:Str}{xs:ϑ}{zs ws:ϐ}{Q:Dv->Hs->Prop}{xc:XP}(hw:w∈zL)(hl:xs.length<=3)(t:rA w xs zs ws)(q:Q (.p (.str (cN (w::ws)))) []):F' [.p (.tup (.str w::xs))] [] Q xc
inductive L_(w:Str)(xs:ϑ)(zs:ϐ)(pre post:ϑ):Es->Hs->Prop|mk(z1 z2 ws:ϐ)(p:Option Dv)(e:zs=z1++z2)(t:rA w post z2 ws)(l:z1.length<=pre.length):L_ w xs zs pre post [O (.p (.tup (.str w::xs))),O (.r 0),p] [.lst ((w::z1).map .str)]|fin(p:Option Dv)(z1:ϐ)(e:post=[]):L_ w xs zs pre post [O (.p (.tup (.str w::xs))),O (.p (.lst ((w::zs).map .str))),p] [.lst ((w::z1).map .str)]
def acf(h:w∈zL):aS w "try"=a'/\g8 (.str w) [.str "if",.str "while"]=a'/\aS w "if"=false:=(show ∀w∈zL,aS w "try"=a'/\g8 (.str w) [.str "if",.str "while"]=a'/\aS w "if"=a' by ext) w h
def Mu(h:w∈zL):w.length<=6:=(show ∀w∈zL,w.length<=6 by ext) w h
def aft(B:LX ca W)(S:SX W):DX ca W 58 7 F':=by
 refine B.e (k:=5) 3 J [(57,P' 4)] [] (.seq (.set 1 (.tH (.u (.ix 0 (.i 0))))) (.seq (.iff (.cmp hW (.ix 0 (.i 0)) (.s "try")) (.re (.s "try")) .nil) (.seq (.iff (.cmp OD (.ix 0 (.i 0)) (.lst (.u2 (.s "if") (.s "while")))) (.re (.b2 cC (.b2 cC (.ix 0 (.i 0)) (.s " ")) (.cl 57 [] (.u (.ix 0 (.i 1)))))) .nil) (.seq (.fo (.one 2) (.s (.sl 0 (.of (.i 1)) .no)) (.one (.iff (.val (.bi j5 (.u2 2 (.ty 0)))) (.one (.ex (.mt fQ 1 (.u 2)))) (.one (.iff (.cmp hW (.ix 0 (.i 0)) (.s "call")) (.one (.set 1 (.b2 cC 1 (.comp 1 [] (.one 0) (.s 2) .no (.cl 57 [] (.u 0)))))) (.one (.ex (.mt fQ 1 (.u (.cl 57 [] (.u 2))))))))))) (.re (.mt Le (.s " ") (.u 1))))))) S.uX rfl (υ B S 4,trivial) trivial λds h Q X c=>?_
 cases c with|wB q=>exact(rfl,q)|@ifw w v xs ws Q X H t q=>
  refine(rfl,?_);have C:∀w:Str,w++" "++cN ws=cN (w::ws):=λw=>by rw[vT];exact(dk (ws:=[w]) (us:=ws) (by simp) t.len.2).symm
  have tl:=t.tl;rcases H with rfl|rfl
  .refine aw rfl (.mk (ay _) t (aw (dW ?_) ?_));.show 3+_<=1000000;lia
   .rw[<-C]at q;exact q
  .refine aw rfl (.mk (ay _) t (aw (dW ?_) ?_));.show 6+_<=1000000;lia
   .rw[<-C]at q;exact q|@pl w xs zs ws Q X H hl t q=>
  refine(rfl,?_);have T:=t;have(N,L,n3):=acf H;refine bB (λz=>?_) λ_=>?_;.have z:aS w "try"=true:=z;rw[N]at z;cases z
  refine aw rfl (bB (λz=>?_) λ_=>?_);.have z:g8 (.str w) [.str "if",.str "while"]=true:=z;rw[L]at z;cases z
  refine eW (L_ w xs zs) ?_ (λpre x post σ h e j=>?_) λσ h j=>?_;.exact .mk [] zs ws af rfl t (ay _)
  .cases j with|fin p Z e=>cases e|mk Z D ws p E t l=>
   have zl:Z.length+2<=100:=by have:=cy ad1 e;have F:(qM (Pv.str w::xs) (O 1) af).length<=xs.length+1:=E6;rw[aa,ag]at this;lia
   have sz:gU (((w::Z).map Pv.str).length+1)=true:=dW (by rw[ae,ag];show _<=1000000;lia);have fin:∀(z:Str)(M Y:ϐ),D=z::M->rA w post M Y->L_ w xs zs (pre++[x]) post [O (.p (.tup (.str w::xs))),O (.r 0),O (.p x)] [.lst ((w::Z).map .str++[.str z])]:=λz M Y R t=>by
    have F:(w::Z).map Pv.str++[.str z]=(w::(Z++[z])).map .str:=by rw[aH,aH,aq];rfl
    rw[F];exact .mk (Z++[z]) M Y _ (by rw[E,R,aD];rfl) t (by rw[aa,aa];show _+1<=_+1;lia)
   cases t with|nm hx t=>exact aw sz (fin _ _ _ rfl t)|val m v t=>
    refine bB (λz=>?_) λ_=>?_;.have z:aS w "call"=true:=z;rw[m]at z;cases z
    .exact .mk (ay _) v (aw sz (fin _ _ _ rfl t))|@vals d o m hv t=>
    refine bB (λ_=>?_) λz=>?_
    .refine uc (λP a h=>∃b f post,d=P++post/\o=b++f/\BY post f/\a=(b.map cN).map .str/\h=[.lst ((w::Z).map .str)]) ([],o,d,rfl,rfl,t,rfl,rfl) (λP y U a h G j=>?_) λa h j=>?_;.have(b,f,post,e5,g,t,rfl,rfl):=j;rw[G]at e5;have e5:=qu e5;subst e5;cases t with|@cons _ n _ A t k=>exact .mk (ay _) t (b++[n],A,U,by rw[G,aD];rfl,by rw[g,aD];rfl,k,by rw[aq,aq];rfl,rfl)
     .have(b,f,post,e5,g,t2,rfl,rfl):=j;have e7:post=[]:=qu (e5.symm.trans (aI _).symm);subst e7;cases t2;rw[aI]at g;subst g;have sw:=t.sum;refine aw (dW ?_) ?_;.rw[ae,ae,ae,ag,sw.2];show _<=1000000;lia
      .have z:=L_.fin (w:=w) (xs:=xs) (zs:=zs) (pre:=pre++[.tup d]) (post:=[]) (O (.p (.tup d))) Z rfl;rw[show(w::zs).map Pv.str=(w::Z).map .str++(o.map cN).map .str by rw[E,<-aq];rfl]at z;exact z
    .have z:aS w "call"=false:=z;rw[m]at z;cases z
  .have I:=T.sum;have jj:ae2 " " (w::zs)=cN (w::ws):=by rw[qQ];exact(TW.cons (us:=[w]) (by simp) T.tw).jo
   have nl:=Mu H;have K:aa4 (((w::zs).map (·.length)).sum+(w::zs).length*(" ":Str).length) 16777216=true:=ap.mpr (by rw[aH,cm,ag];show w.length+_+_*1<=_;have:=I.1;have:=I.2;lia);rw[<-jj]at q;generalize hp:qM (.str w::xs) (O 1) af=pre at j;cases j with|mk Z D ws p E t l=>cases t;rw[aI]at E;subst E;exact bC qA (aw K q)|fin p Z e=>exact bC qA (aw K q)
abbrev Ln:=Nat×ϐ
def ind(d:Nat):Str:=oZ "  " d
def c7(l:Ln):Str:=ind l.1++cN l.2
abbrev wm(d:Nat):Ln:=(d,["end"])
abbrev lq(d:Nat):Ln:=(d,["else"])
abbrev Do(d:Nat):Ln:=(d,["try"])
abbrev mI(d:Nat)(x:Str):Ln:=(d,["catch",x])
abbrev Dh(d:Nat)(w:Str)(ws:ϐ):Ln:=(d,w::ws)
inductive qr(R:Pv->List Ln->Prop):ϑ->List Ln->Prop|nil:qr R [] []|cons{x:Pv}{xs:ϑ}{L M:List Ln}(a:R x L)(t:qr R xs M):qr R (x::xs) (L++M)
inductive NS:ϐ->ϑ->Prop|nil:NS [] []|nm{k x:Str}{ks:ϐ}{xs:ϑ}(n1:aS k "value"=a')(n2:aS k "values"=a')(n3:aS k "rows"=a')(n4:aS k "number"=a')(t:NS ks xs):NS (k::ks) (.str x::xs)|val{ks:ϐ}{ys xs:ϑ}(t:NS ks xs):NS ("value"::ks) (.tup ys::xs)|vals{vs:ϑ}:NS ["values"] [.tup vs]
inductive lU(c:Bool)(R:Nat->Pv->List Ln->Prop)(d:Nat):Pv->List Ln->Prop|pl{w:Str}{xs:ϑ}{zs ws:ϐ}(hw:w∈zL)(hl:xs.length<=3)(hk:∃ks,lk w dI=O ks/\NS ks xs)(t:rA w xs zs ws):lU c R d (.tup (.str w::xs)) [Dh d w ws]|N2{v:Pv}{ws:ϐ}{xs:ϑ}{A:List Ln}(t:VW 4 v ws)(a:qr (R (d+1)) xs A):lU c R d (.tup [.str "if",v,.tup xs,.tup []]) (Dh d "if" ws::(A++[wm d]))|h_{v:Pv}{e:Nat}{ws:ϐ}{xs:ϑ}{A:List Ln}(hc:c)(t:VW 4 v ws)(a:qr (R (d+1)) xs A):lU c R d (.tup [.str "if",v,.tup xs,.tup []]) (Dh d "if" ws::(A++[lq e,wm d]))|WX{v y:Pv}{ws:ϐ}{xs ys:ϑ}{A B:List Ln}(t:VW 4 v ws)(a:qr (R (d+1)) xs A)(b:qr (R (d+1)) (y::ys) B):lU c R d (.tup [.str "if",v,.tup xs,.tup (y::ys)]) (Dh d "if" ws::(A++lq d::(B++[wm d])))|ZH{v:Pv}{ws:ϐ}{xs:ϑ}{A:List Ln}(t:VW 4 v ws)(a:qr (R (d+1)) xs A):lU c R d (.tup [.str "while",v,.tup xs]) (Dh d "while" ws::(A++[wm d]))|wB{x:Str}{xs ys:ϑ}{A B:List Ln}(hx:aY (.str x))(a:qr (R (d+1)) xs A)(b:qr (R (d+1)) ys B):lU c R d (.tup [.str "try",.tup xs,.str x,.tup ys]) (Do d::(A++mI d x::(B++[wm d])))
def RL(c:Bool):Nat->Nat->Pv->List Ln->Prop|0=>λ_ _ _=>False|n+1=>lU c (RL c n)
def yE(d:Nat):(ind d).length=2*d:=by unfold ind;induction d with|zero=>rfl|succ d i=>show("  "++oZ "  " d).length=_;rw[bt,i];show 2+2*d=_;lia
theorem mJ:∀d:Nat,ind d++"  "=ind (d+1)|0=>cG (by rw[hZ,show ind 1="  "++oZ "  " 0 from rfl,hZ];show[]++_=_++[];rw[aI,lS])|d+1=>by show"  "++ind d++"  "="  "++ind (d+1);rw[vT,mJ d]
theorem Fu:∀zs:ϐ,(cN zs).length<=(zs.map (·.length)).sum+zs.length|[]=>ay _|[z]=>by show z.length<=z.length+0+1;lia|z::y::zs=>by have i:=Fu (y::zs);rw[show cN (z::y::zs)=cN [z]++(" "++cN (y::zs))from dk (ws:=[z]) (us:=y::zs) (by simp) (by simp),bt,bt];rw[aH,cm,ag];show z.length+(1+_)<=_;lia
def YG(h:w∈zL)(H:xs.length<=3)(t:rA w xs zs ws):(cN (w::ws)).length<=4000:=by have e:cN (w::zs)=cN (w::ws):=(TW.cons (us:=[w]) (by simp) t.tw).jo;rw[<-e];have h1:=Fu (w::zs);rw[aH,cm,ag]at h1;have:=t.sum.1;have:=t.sum.2;have:=Mu h;lia
def EA{v:Str}(h:w.length<=6)(t:VW 4 x ws):(cN (w::ws)).length<=4000:=by rw[show cN (w::ws)=cN [w]++(" "++cN ws)from dk (ws:=[w]) (us:=ws) (by simp) t.len.2,bt,bt];have:=t.tl;show w.length+(1+_)<=_;lia
inductive Z3(n:Nat):Ct|mk{d:Nat}{x:Pv}{L:List Ln}{Q:Dv->Hs->Prop}{xc:XP}(hd:d+n<=10)(t:RL a' n d x L)(hz:L.length<=10000)(q:Q (.p (.lst ((L.map c7).map .str))) []):Z3 n [.p x,.p (.str (ind d))] [] Q xc
inductive Z2(n:Nat):Ct|mk{d:Nat}{xs:ϑ}{L:List Ln}{Q:Dv->Hs->Prop}{xc:XP}(hd:d+n<=10)(t:qr (RL a' n d) xs L)(hz:L.length<=10000)(q:Q (.p (.lst ((L.map c7).map .str))) []):Z2 n [.p (.tup xs),.p (.str (ind d))] [] Q xc
inductive LSJ(n d:Nat)(X:ϑ)(L:List Ln)(pre post:ϑ):Es->Hs->Prop|mk(A B:List Ln)(p:Option Dv)(e:L=A++B)(t:qr (RL a' n d) post B):LSJ n d X L pre post [O (.p (.tup X)),O (.p (.str (ind d))),O (.p (.lst ((A.map c7).map .str))),p] []
def YF(h:w∈zL):aS w "if"=a'/\aS w "while"=a'/\aS w "try"=a'/\g8 (.str w) [.str "if",.str "while",.str "try"]=false:=(show ∀w∈zL,aS w "if"=a'/\aS w "while"=a'/\aS w "try"=a'/\g8 (.str w) [.str "if",.str "while",.str "try"]=a' by ext) w h
def ξ(B:LX ca W)(S:SX W)(D:DX ca W 59 (2*n+8) (Z3 n)):DX ca W 60 (2*n+9) (Z2 n):=by refine B.e (k:=2*n+7) 4 J [(59,Z3 n)] [] (.seq (.set 2 (.lst .nil)) (.seq (.fo (.one 3) (.s 0) (.one (.set 2 (.b2 cC 2 (.cl 59 [] (.u2 3 1)))))) (.re 2))) S.Bc rfl (D,trivial) trivial λds h Q X c=>?_;cases c with|@mk d b L Q X H t z q=>
 refine(rfl,?_);refine eW (LSJ n d b L) ?_ (λpre x post σ h e j=>?_) λσ h j=>?_;.exact .mk [] L af rfl t
 .cases j with|mk A B p E t=>cases t with|@cons _ _ M N a t=>
  have e3:=cy ad1 E;rw[aa,aa]at e3;refine .mk H a (by lia) (aw (dW ?_) ?_);.rw[ae,ae,ae,ae];show _<=1000000;lia
  .rw[<-aq,<-aq];exact .mk (A++M) N _ (by rw[E,aD]) t
 .cases j with|mk A B p E t=>cases t;rw[aI]at E;subst E;exact q
def ο(B:LX ca W)(S:SX W)(D:DX ca W 60 (2*n+9) (Z2 n)):DX ca W 59 (2*n+10) (Z3 (n+1)):=by refine B.e (k:=2*n+8) 4 J [(58,F'),(60,Z2 n)] [] (.seq (.set 2 (.lst (.u (.b2 cC 1 (.cl 58 [] (.u 0)))))) (.seq (.set 3 (.b2 cC 1 (.s "  "))) (.seq (.iff (.cmp hW (.ix 0 (.i 0)) (.s "if")) (.seq (.set 2 (.b2 cC 2 (.cl 60 [] (.u2 (.ix 0 (.i 2)) 3)))) (.one (.iff (.cmp G6 (.ix 0 (.i 3)) (.tup .nil)) (.one (.set 2 (.b2 cC (.b2 cC 2 (.lst (.u (.b2 cC 1 (.s "else"))))) (.cl 60 [] (.u2 (.ix 0 (.i 3)) 3))))) .nil))) .nil) (.seq (.iff (.cmp hW (.ix 0 (.i 0)) (.s "while")) (.one (.set 2 (.b2 cC 2 (.cl 60 [] (.u2 (.ix 0 (.i 2)) 3))))) .nil) (.seq (.iff (.cmp hW (.ix 0 (.i 0)) (.s "try")) (.one (.set 2 (.b2 cC (.b2 cC (.b2 cC 2 (.cl 60 [] (.u2 (.ix 0 (.i 1)) 3))) (.lst (.u (.b2 cC (.b2 cC 1 (.s "catch ")) (.ix 0 (.i 2)))))) (.cl 60 [] (.u2 (.ix 0 (.i 3)) 3))))) .nil) (.re (.b2 cC 2 (.sl (.lst (.u (.b2 cC 1 (.s "end")))) .no (.of (.bi V9 (.u (.cmp OD (.ix 0 (.i 0)) (.lst (.u3 (.s "if") (.s "while") (.s "try"))))))))))))))) S.lP rfl ((aft B S).le (by lia),D,trivial) trivial λds h Q C c=>?_;cases c with|@mk d x L Q C hd t H q=>
 refine(rfl,?_);have I:=yE d;have sp:gU ((ind d).length+("  ":Str).length)=true:=dW (by rw[I];show 2*d+2<=1000000;lia);have g:gU ((ind d).length+("end":Str).length)=true:=dW (by rw[I];show 2*d+3<=1000000;lia);have T:lU a' (RL a' n) d x L:=t
 clear t;cases T with|@pl w j zs ws l r hk t=>
  have tx:=YG l r t;have(N,F,n3,G):=YF l;refine .pl l r t (aw (dW (by rw[I];show _<=1000000;lia)) (aw sp ?_));refine bB (λz=>by have z:aS w "if"=true:=z;rw[N]at z;cases z) λ_=>?_;refine bB (λz=>by have z:aS w "while"=true:=z;rw[F]at z;cases z) λ_=>?_;refine bB (λz=>by have z:aS w "try"=true:=z;rw[n3]at z;cases z) λ_=>?_;have E:qM [Pv.str (ind d++"end")] af (O (b2 (N5 a' (g8 (.str w) [.str "if",.str "while",.str "try"]))))=[]:=by rw[G];rfl
  have K:Q (.p (.lst ([Pv.str (ind d++cN (w::ws))]++qM [Pv.str (ind d++"end")] af (O (b2 (N5 a' (g8 (.str w) [.str "if",.str "while",.str "try"]))))))) []:=by rw[E];exact q
  exact aw g (aw (by rw[E];rfl) K)|@N2 v ws j A t a=>
  have tx:=EA (w:="if") (v:="") (by ext) t;rw[ag,aa]at H;refine .ifw (.inl rfl) t (aw (dW (by rw[I];show _<=1000000;lia)) (aw sp ?_));rw[mJ];refine .mk (by lia) a (by lia) (aw (dW (by rw[ae,ae];show 1+_<=1000000;lia)) (aw g (aw (dW ?_) ?_)));.show(_++(A.map c7).map Pv.str).length+1<=1000000;rw[aa,ae,ae];show 1+_+1<=_;lia
  .rw[aH,aq,aH,aq]at q;exact q|h_ M=>cases M|@WX v y ws j P A B t a b=>
  have tx:=EA (w:="if") (v:="") (by ext) t;rw[ag,aa,ag,aa]at H;refine .ifw (.inl rfl) t (aw (dW (by rw[I];show _<=1000000;lia)) (aw sp ?_));rw[mJ];have o:gU ((ind d).length+("else":Str).length)=true:=dW (by rw[I];show 2*d+4<=1000000;lia);have l1:∀(X:ϑ)(L:List Ln),(X++(L.map c7).map Pv.str).length=X.length+L.length:=λX L=>by rw[aa,ae,ae]
  refine .mk (by lia) a (by lia) (aw (dW (by rw[ae,ae];show 1+_<=1000000;lia)) (aw o (aw (dW ?_) (.mk (by lia) b (by lia) (aw (dW ?_) (aw g (aw (dW ?_) ?_)))))));.rw[l1];show 1+_+1<=1000000;lia
  .rw[aa,l1,ae,ae];show 1+_+1+_<=1000000;lia
  .rw[l1,aa,l1];show 1+_+1+_+1<=1000000;lia
  .rw[aH,aq,aH,aq,aH,aq,aH,aq]at q;have e:∀(p e f:Pv)(X Y:ϑ),[p]++X++[e]++Y++[f]=p::(X++e::(Y++[f])):=λp e f X Y=>by simp
   exact(e _ _ _ _ _)▸q|@ZH v ws j A t a=>
  have tx:=EA (w:="while") (v:="") (by ext) t;rw[ag,aa]at H;refine .ifw (.inr rfl) t (aw (dW (by rw[I];show _<=1000000;lia)) (aw sp ?_));rw[mJ];refine .mk (by lia) a (by lia) (aw (dW (by rw[ae,ae];show 1+_<=1000000;lia)) (aw g (aw (dW ?_) ?_)));.show(_++(A.map c7).map Pv.str).length+1<=1000000;rw[aa,ae,ae];show 1+_+1<=_;lia
  .rw[aH,aq,aH,aq]at q;exact q|@wB x j P A B R a b=>
  have(_,U,_):=dG (AW R);have xl:=ap.mp U;rw[ag,aa,ag,aa]at H;refine .wB (aw (dW (by rw[I];show 2*d+3<=1000000;lia)) (aw sp ?_));rw[mJ];have o:gU ((ind d).length+("catch ":Str).length)=true:=dW (by rw[I];show 2*d+6<=1000000;lia);have m:gU ((ind d++"catch ").length+x.length)=true:=dW (by rw[bt,I];show 2*d+6+_<=1000000;lia);have l1:∀(X:ϑ)(L:List Ln),(X++(L.map c7).map Pv.str).length=X.length+L.length:=λX L=>by rw[aa,ae,ae]
  refine .mk (by lia) a (by lia) (aw (dW (by rw[ae,ae];show 1+_<=1000000;lia)) (aw o (aw m (aw (dW ?_) (.mk (by lia) b (by lia) (aw (dW ?_) (aw g (aw (dW ?_) ?_))))))));.rw[l1];show 1+_+1<=1000000;lia
  .rw[aa,l1,ae,ae];show 1+_+1+_<=1000000;lia
  .rw[l1,aa,l1];show 1+_+1+_+1<=1000000;lia
  .rw[aH,aq,aH,aq,aH,aq,aH,aq]at q;have e:∀(p e f:Pv)(X Y:ϑ),[p]++X++[e]++Y++[f]=p::(X++e::(Y++[f])):=λp e f X Y=>by simp
   have Z:c7 (mI d x)=ind d++"catch "++x:=by show ind d++cN ["catch",x]=_;rw[ii,show("catch":Str)++" "="catch "from aQ.mp (by ext),vT (ind d)]
   rw[Z]at q;exact(e _ _ _ _ _)▸q
theorem yc(B:LX ca W)(S:SX W):∀n,DX ca W 59 (2*n+8) (Z3 n)/\DX ca W 60 (2*n+9) (Z2 n)
 |0=>by
  have h:DX ca W 59 (2*0+8) (Z3 0):=(Dt.no S.lP).imp λds h Q x c=>by cases c with|mk H t=>exact t.elim
  exact(h,ξ B S h)|n+1=>(ο B S (yc B S n).2,ξ B S (ο B S (yc B S n).2))
noncomputable def EU(b:Str×Nat):Pv:=.tup [.str b.1,.int (b.2:Nat)]
def zH(b:Str×Nat):Ln:=(0,["box",b.1,jK b.2])
def Z0(b:Str×Nat):Bool:=aY (.str b.1)&&aa4 b.2 999999
noncomputable def FE(l:Str×Ϙ):Pv:=.tup [.str l.1,.tup (l.2.map λi=>.int (i:Nat))]
def yK(l:Str×Ϙ):Ln:=(0,"list"::l.1::l.2.map jK)
def l_(l:Str×Ϙ):Bool:=aY (.str l.1)&&(aa4 l.2.length 12&&l.2.all λi=>aa4 i 999999)
def N6(x:Str):Bool:=aY (.str x)
def FV(x:Str):Ln:=(1,["own",x])
inductive NR(c:Bool):Pv->List Ln->Prop|mk{x:Str}{ps os:ϐ}{rs:ϑ}{L:List Ln}(hx:N6 x)(hp:ps.all N6)(ho:os.all N6)(lp:ps.length<=3)(lo:os.length<=3)(t:qr (RL c 5 1) rs L):NR c (.tup [.str x,.tup (ps.map .str),.tup (os.map .str),.tup rs]) (Dh 0 "def" (x::ps)::(os.map FV++(L++[wm 0])))
inductive zG(c:Bool):Pv->List Ln->Prop|mk{bs:List (Str×Nat)}{ls:List (Str×Ϙ)}{fs rs:ϑ}{F R:List Ln}(hb:bs.all Z0)(lb:bs.length<=6)(hl:ls.all l_)(ll:ls.length<=3)(lf:fs.length<=4)(f:qr (NR c) fs F)(r:qr (RL c 5 0) rs R):zG c (.tup [.tup (bs.map EU),.tup (ls.map FE),.tup fs,.tup rs]) (bs.map zH++(ls.map yK++(F++R)))
def Kz(z:Str):ind 0++z=z:=cG (by rw[hZ];rfl)
noncomputable def J6:Pv->Pv|.tup [.str x,.int i]=>.str ("box "++x++" "++toString i)|_=>.non
noncomputable def il:Pv->Str|.int i=>toString i|_=>""
def px:Pv->Pv|.tup [.str x,.tup y]=>.str (ae2 " " (("list":Str)::x::y.map il))|_=>.non
noncomputable def K':Pv->Pv|.str x=>.str ("  own "++x)|_=>.non
def VF{bs:List (Str×Nat)}:(bs.map EU).map J6=((bs.map zH).map c7).map .str:=by rw[bK,bK,bK];refine lZ λb _=>?_;show Pv.str ("box "++b.1++" "++jK b.2)=.str (ind 0++cN ["box",b.1,jK b.2]);rw[Kz,show cN ["box",b.1,jK b.2]=cN ["box"]++(" "++cN [b.1,jK b.2])from dk (ws:=["box"]) (us:=[b.1,jK b.2]) (by simp) (by simp),ii,show("box ":Str)="box"++" "from aQ.mp (by ext)];show Pv.str _=Pv.str ("box"++_);rw[vT,vT,vT,vT]
def Xv{ls:List (Str×Ϙ)}:(ls.map FE).map px=((ls.map yK).map c7).map .str:=by rw[bK,bK,bK];refine lZ λb _=>?_;show Pv.str (ae2 " " (("list":Str)::b.1::(b.2.map λi=>Pv.int (i:Nat)).map il))=.str (ind 0++cN ("list"::b.1::b.2.map jK));rw[Kz,qQ,bK];rfl
def Ya{os:ϐ}:(os.map Pv.str).map K'=((os.map FV).map c7).map .str:=by rw[bK,bK,bK];refine lZ λb _=>?_;show Pv.str ("  own "++b)=.str (ind 1++cN ["own",b]);rw[ii,<-vT (ind 1),<-vT (ind 1),show ind 1++"own"++" "="  own "from aQ.mp (by ext)]
theorem Lv:∀{l:Ϙ},(l.all λi=>aa4 i 999999)=J->((l.map jK).map (·.length)).sum<=6*l.length|[],_=>ay _|i::l,h=>by have(H,a):=ah (show(aa4 i 999999&&l.all λi=>aa4 i 999999)=J from h);have:=uR (ap.mp H);have:=Lv a;rw[aH,aH,cm,ag];lia
inductive cPL:Ct|mk{P:Pv}{L:List Ln}{Q:Dv->Hs->Prop}{xc:XP}(t:zG a' P L)(hz:L.length<=9000)(q:Q (.p (.lst ((L.map c7).map .str))) []):cPL [.p P] [] Q xc
inductive PLJ(P:Pv)(B0 F:List Ln)(pre post:ϑ):Es->Hs->Prop|mk(gs:List ϑ)(F1 F2:List Ln)(v1 v3 v4 v5:Option Dv)(e:F=F1++F2)(t:qr (NR a') post F2):PLJ P B0 F pre post [O (.p P),v1,O (.r (gs.map Ob.lst).length),v3,v4,v5] (gs.map Ob.lst++[.lst (((B0++F1).map c7).map .str)])
def Vx(gs:List ϑ)(x:ϑ):bH (gs.map Ob.lst++[Ob.lst x]).length (gs.map Ob.lst++[Ob.lst x])=true:=by generalize(gs.map Ob.lst++[Ob.lst x]).length=k;induction gs with|nil=>rfl|cons g gs i=>show(J&&bH k (gs.map Ob.lst++[Ob.lst x]))=J;rw[i];rfl
def EF(e:h[l]?=O (.lst a))(s:gU (a.length+ys.length))(q:Q (.p (.lst (a++ys))) h):DC (.r l) (.p (.lst ys)) h Q:=by show(match iH h (.r l),iH h (.p (.lst ys))with|some a,O b=>gd (gU (a.length+b.length)) (Q (.p (.lst (a++b))) h)|_,_=>False);rw[Lb e];exact aw s q
def sT(s:gU (a.length+b.length))(q:Q (.p (.str (a++b))) h):DC (.p (.str a)) (.p (.str b)) h Q:=aw s q
def xI(s:gU (a.length+b.length))(q:Q (.p (.lst (a++b))) h):DC (.p (.lst a)) (.p (.lst b)) h Q:=aw s q
def Ds(h:N6 x):x.length<=6:=by have h:(aa4 1 x.length&&(aa4 x.length 6&&(ig x).all sH))=true:=h;exact ap.mp (dG h).2.1
theorem Lo:∀{l:ϐ},l.all N6=J->(l.map (·.length)).sum<=6*l.length|[],_=>ay _|i::l,h=>by have(H,a):=ah (show(N6 i&&l.all N6)=J from h);have:=Ds H;have:=Lo a;rw[aH,cm,ag];lia
seal jD DC in
def afs(B:LX ca W)(S:SX W):DX ca W 61 20 cPL:=by refine B.e (k:=18) 6 J [(60,Z2 5)] [] (.seq (.setC 2 2 [] (.many [0,1]) (.s (.ix 0 (.i 0))) .no (.b2 cC (.b2 cC (.b2 cC (.s "box ") 0) (.s " ")) (.bi Wb (.u 1)))) (.seq (.set 2 (.b2 Ti 2 (.comp 2 [] (.many [0,1]) (.s (.ix 0 (.i 1))) .no (.mt Le (.s " ") (.u (.b2 cC (.lst (.u2 (.s "list") 0)) (.Tv 1 [] (.one 0) (.s 1) .no (.bi Wb (.u 0))))))))) (.seq (.foT (.many [1,3,4,5]) (.p (.s (.ix 0 (.i 2)))) (.seq (.ex (.mt fQ 2 (.u (.mt Le (.s " ") (.u (.b2 cC (.lst (.u2 (.s "def") 1)) (.bi Wa (.u 3)))))))) (.one (.set 2 (.b2 Ti (.b2 cC (.b2 cC 2 (.comp 1 [] (.one 0) (.s 4) .no (.b2 cC (.s "  own ") 0))) (.cl 60 [] (.u2 5 (.s "  ")))) (.lst (.u (.s "end")))))))) (.re (.b2 cC 2 (.cl 60 [] (.u2 (.ix 0 (.i 3)) (.s "")))))))) S.oh rfl ((yc B S 5).2,trivial) trivial λds h Q X c=>?_;cases c with|@mk P L Q X t A q=>refine(rfl,?_);cases t with|@mk bs l fs m F R K lb T ll lf f r=>
 refine eX J6 rfl (λy w=>?_) ?_;.have(b,H,rfl):=a0.mp w;have(h1,h2):=ah (ai.mp K b H);have h1:(aa4 1 b.1.length&&(aa4 b.1.length 6&&(ig b.1).all sH))=true:=h1;have l1:=ap.mp (dG h1).2.1;have h2:=ap.mp h2;have l2:=uR h2;exact λR q=>sT (dW (by show 4+_<=1000000;lia)) (sT (dW (by rw[bt];show 4+_+1<=1000000;lia)) (aw (DA h2) (sT (dW (by rw[bt,bt];show 4+_+1+(jK b.2).length<=1000000;lia)) q)))
 refine eX px rfl (λy w=>?_) ?_
 .have(b,H,rfl):=a0.mp w;have(h1,h2,C):=dG (ai.mp T b H);have h1:(aa4 1 b.1.length&&(aa4 b.1.length 6&&(ig b.1).all sH))=true:=h1;have l1:=ap.mp (dG h1).2.1;have h2:=ap.mp h2;refine λR q=>eX (λy=>.str (il y)) rfl (λz A=>?_) ?_;.have(i,U,rfl):=a0.mp A;exact λR q=>aw (DA (ap.mp (ai.mp C i U))) q
  .have Y:(b.2.map λi=>Pv.int (i:Nat)).map (λy=>Pv.str (il y))=(b.2.map jK).map .str:=by rw[bK,bK];rfl
   rw[Y];refine xI (dW (by rw[ae,ae];show 2+_<=1000000;lia)) ?_;refine bC (qA (ws:="list"::b.1::b.2.map jK)) (aw (ap.mpr ?_) ?_);.have sm:=Lv C;rw[aH,aH,cm,cm,ag,ag,ae];show 4+(_+_)+_*1<=_;lia
   .have E:px (FE b)=.str (ae2 " " ("list"::b.1::b.2.map jK)):=by show Pv.str (ae2 " " (("list":Str)::b.1::(b.2.map λi=>Pv.int (i:Nat)).map il))=_;rw[bK];rfl
    rw[E]at q;exact q
 rw[VF,Xv];rw[aa,aa,aa,ae,ae]at A;refine aw (dW (by rw[ae,ae,ae,ae,ae,ae];show _<=1000000;lia)) ?_;rw[<-aq,<-aq];refine Pu fs (PLJ (.tup [.tup (bs.map EU),.tup (l.map FE),.tup fs,.tup m]) (bs.map zH++l.map yK) F) ?_ (λ_=>rfl) (λpre x post σ h e j=>?_) λσ h j=>?_;.have z:=PLJ.mk (P:=.tup [.tup (bs.map EU),.tup (l.map FE),.tup fs,.tup m]) (B0:=bs.map zH++l.map yK) (F:=F) (pre:=[]) (post:=fs) [] [] F af af af af rfl f;rw[aI]at z;exact z
 .cases j with|mk gs d F2 v1 v3 v4 v5 E t=>cases t with|@cons _ _ M N a t=>cases a with|@mk n g os I L hx hp ho lp lo tl=>
  have e3:=cy ad1 E;rw[aa,aa,ag,aa,ae,aa]at e3;have e3:F.length=d.length+(os.length+(L.length+1)+1+N.length):=e3;have hB:(bs.map zH++l.map yK++d).length=bs.length+l.length+d.length:=by rw[aa,aa,ae,ae]
  have gl:=gN (h:=gs.map Ob.lst) (o:=Ob.lst (((bs.map zH++l.map yK++d).map c7).map .str));refine aw (K3 gl) (xI (dW (by rw[ae];show 2+_<=1000000;lia)) (bC (qA (ws:="def"::n::g)) (aw (ap.mpr ?_) (ir gl (dW (by rw[ae,ae,hB];show _<=1000000;lia)) ?_))));.have h1:=Lo hp;have h2:=Ds hx;rw[aH,aH,cm,cm,ag,ag];show 3+(_+_)+_*1<=_;lia
  rw[Br,qQ];have ed:((bs.map zH++l.map yK++d).map c7).map Pv.str++[.str (cN ("def"::n::g))]=((bs.map zH++l.map yK++(d++[Dh 0 "def" (n::g)])).map c7).map .str:=by rw[<-aD (bs.map zH++l.map yK),aq (l₂:=[_]),aq (l₂:=List.map c7 [_])];show _=_++[Pv.str (ind 0++cN ("def"::n::g))];rw[Kz]
  rw[ed];have G:=gN (h:=gs.map Ob.lst) (o:=Ob.lst (((bs.map zH++l.map yK++(d++[Dh 0 "def" (n::g)])).map c7).map .str));have v:(bs.map zH++l.map yK++(d++[Dh 0 "def" (n::g)])).length=bs.length+l.length+d.length+1:=by rw[aa,aa,aa,ae,ae];rfl
  refine eX K' (Vx _ _) (λy w=>?_) ?_;.have(o,Ky,rfl):=a0.mp w;have:=Ds (ai.mp ho o Ky);exact λR q=>sT (dW (by show 6+_<=1000000;lia)) q
  rw[Ya];refine EF (ys:=((os.map FV).map c7).map .str) G (dW (by rw[ae,ae,v,ae,ae,ae];show _<=1000000;lia)) ?_;rw[show("  ":Str)=ind 1 from aQ.mp (by ext)];have D:∀Z:List Ln,((Z.map c7).map Pv.str).length=Z.length:=λZ=>by rw[ae,ae]
  refine .mk (by ext) tl (by lia) (xI (dW ?_) (aw (dW ?_) ?_));.rw[aa,D,D,D,v,ae];show _<=1000000;lia
  .rw[aa,aa,D,D,D,v,ae];show _+1<=1000000;lia
  have z:=PLJ.mk (P:=.tup [.tup (bs.map EU),.tup (l.map FE),.tup fs,.tup m]) (B0:=bs.map zH++l.map yK) (F:=F) (pre:=pre++[.tup [.str n,.tup (g.map .str),.tup (os.map .str),.tup I]]) (post:=post) (gs++[((bs.map zH++l.map yK++(d++[Dh 0 "def" (n::g)])).map c7).map .str]) (d++Dh 0 "def" (n::g)::(os.map FV++(L++[wm 0]))) N (O (.p (.str n))) (O (.p (.tup (g.map .str)))) (O (.p (.tup (os.map .str)))) (O (.p (.tup I))) (by rw[E,aD]) t;have ez:((bs.map zH++l.map yK++(d++Dh 0 "def" (n::g)::(os.map FV++(L++[wm 0])))).map c7).map Pv.str=((bs.map zH++l.map yK++(d++[Dh 0 "def" (n::g)])).map c7).map .str++((os.map FV).map c7).map .str++(L.map c7).map .str++[.str "end"]:=by rw[show d++Dh 0 "def" (n::g)::(os.map FV++(L++[wm 0]))=d++[Dh 0 "def" (n::g)]++(os.map FV++(L++[wm 0]))by rw[aD];rfl,<-aD,aq (l₂:=_++(L++_)),aq (l₂:=List.map c7 (_++(L++_))),aq (l₁:=os.map FV),aq (l₁:=(os.map FV).map c7),aq (l₁:=L),aq (l₁:=L.map c7),aD,aD];show _++(_++(_++[Pv.str (ind 0++cN ["end"])]))=_;rw[Kz];exact(aD _ _ _).symm
  rw[ez,aq (l₁:=gs)]at z;exact z
 .cases j with|mk gs d F2 v1 v3 v4 v5 E t=>
  cases t;rw[aI]at E;subst E;rw[show("":Str)=ind 0 from aQ.mp (by ext)];have D:∀Z:List Ln,((Z.map c7).map Pv.str).length=Z.length:=λZ=>by rw[ae,ae]
  refine .mk (by ext) r (by lia) (EF (ys:=(R.map c7).map .str) gN (dW ?_) ?_);.rw[D,D,aa,aa,ae,ae];show _<=1000000;lia
  .rw[<-aq,<-aq,aD,aD];exact q
def Ff(i j:Int):jx (.int i) (.int j)=jT i j:=rfl
def gK(a b:Str):jx (.str a) (.str b)=aS a b:=rfl
noncomputable def qW:Nat->Pv->Bool|n+1,.tup x=>x.all (qW n)&&aa4 x.length 100000|_+1,.str _=>J|_+1,.int _=>J|_,_=>a'
inductive B'(n:Nat):Ct|mk{x:Pv}{Q:Dv->Hs->Prop}{xc:XP}(h:qW n x)(q:Q (.p (.bl J)) []):B' n [.p x,.p x] [] Q xc
def okS(z:Str):XT (.str z) (.str z)=true:=rfl
def YT(z:Int):XT (.int z) (.int z)=true:=rfl
theorem ι(B:LX ca W)(S:SX W):∀n,DX ca W 62 (n+2) (B' n)
 |0=>(Dt.no S.rX).imp λds h Q X c=>by cases c with|mk t q=>cases t
 |n+1=>by refine B.e (k:=n+1) 2 J [(62,B' n)] [] (.seq (.iff (.val (.bi j5 (.u2 1 (.ty 3)))) (.seq (.iff (.bo (Wm.oc (.not (.val (.bi j5 (.u2 0 (.ty 3))))) (Wm.o1 (.cmp G6 (.bi da (.u 0)) (.bi da (.u 1)))))) (.re (.c (.bl a'))) .nil) (.re (.cmp hW (.comp 1 [0,1] (.one 0) (.r (.u (.bi da (.u 1)))) (.one (.not (.val (.cl 62 [] (.u2 (.ix 1 0) (.ix 2 0)))))) 0) (.lst .nil)))) .nil) (.seq (.iff (.val (.bi j5 (.u2 1 (.ty 0)))) (.re (.bo (Bm.ac (.bi j5 (.u2 0 (.ty 0))) (Bm.a1 (.cmp hW 0 1))))) .nil) (.re (.bo (Bm.ac (.bi j5 (.u2 0 (.ty 1))) (Bm.ac (.not (.bi j5 (.u2 0 (.ty 2)))) (Bm.a1 (.cmp hW 0 1)))))))) S.rX rfl (ι B S n,trivial) trivial λds h Q X c=>?_;cases c with|@mk x Q X h q=>
  refine(rfl,?_);cases x with|tup xs=>
   have(H,a):=ah (show(xs.all (qW n)&&aa4 xs.length 100000)=J from h);refine bB (λz=>?_) λ_=>?_;.have z:(!jx (.int (xs.length:Nat)) (.int (xs.length:Nat)))=true:=z;rw[show jx (.int (xs.length:Nat)) (.int (xs.length:Nat))=J by rw[Ff];exact cB.mpr rfl]at z;cases z
   .refine aw (by show(gU (Int.toNat (xs.length:Nat))&&decide ((-4611686018427387904:Int)<=(xs.length:Nat)))=J;rw[gJ,dW (aE (ap.mp a) (by ext)),a9 (by lia)];rfl) (nz (λ_=>a') id rfl (λy b=>?_) ?_)
    .have(k,hk,rfl):=a0.mp (show y∈(ac7 (Int.toNat (xs.length:Nat))).map λ(i:Nat)=>Pv.int (0+i)from b);have hk:=vO.mp hk;have(x,d,e):=kG (xs:=xs) (k:=k) (by rw[gJ]at hk;exact Int.ofNat_lt.mpr hk);have E:nk xs (0+(k:Int))=O x:=by rw[Int.zero_add];exact e
     refine(λR r=>?_,λh=>by cases h);refine bC E ?_;refine bC E ?_;refine .mk (ai.mp H x d) ?_;exact r
    .rw[sd.mpr λ_ _=>by simp];exact q|str z=>exact aw (okS z) (by show Q (.p (.bl (jx (.str z) (.str z)))) [];rw[show jx (.str z) (.str z)=J by rw[gK];exact aQ.mpr rfl];exact q)|int i=>exact aw (YT i) (by show Q (.p (.bl (jx (.int i) (.int i)))) [];rw[show jx (.int i) (.int i)=J by rw[Ff];exact cB.mpr rfl];exact q)|_=>cases h
def Jh(w:Str):Bool:=aS w "if"||(aS w "while"||(aS w "try"||aS w "def"))
def vh(ks:ϐ)(w:Str):Option ϐ:=match Jh w,aS w "else",aS w "end",ks with|true,_,_,ks=>O (w::ks)|false,J,_,_::r=>O ("else"::r)|false,J,_,[]=>af|false,a',J,_::r=>O r|false,a',J,[]=>af|false,a',a',ks=>O ks
def l0:ϐ->List Ln->Option ϐ|K,[]=>O K|_,(_,[])::_=>af|K,(_,w::_)::L=>(vh K w).bind λk=>l0 k L
inductive zF(ks:ϐ):Ln->List Ln->ϐ->Prop|keep{d:Nat}{w:Str}{ws k:ϐ}(e:vh ks w=O k):zF ks (d,w::ws) [(d,w::ws)] k|put{d:Nat}{ws k:ϐ}(e:ks=("if":Str)::k):zF ks (d,"end"::ws) [(0,["else"]),(d,"end"::ws)] k
inductive El:ϐ->List Ln->List Ln->ϐ->Prop|nil{ks:ϐ}:El ks [] [] ks|cons{ks k k':ϐ}{l:Ln}{L m M:List Ln}(a:zF ks l m k)(t:El k L M k'):El ks (l::L) (m++M) k'
def El.app(t:El a L M b)(r:El b R N c):El a (L++R) (M++N) c:=by induction t with|nil=>exact r|cons x t i=>rw[aD];exact .cons x (i r)
def El.snoc(t:El a L M b)(x:zF b l m c):El a (L++[l]) (M++m) c:=by have z:=t.app (.cons x .nil);rw[aI]at z;exact z
theorem El.split:∀{L R M:List Ln}{a c:ϐ},El a (L++R) M c->∃b d e,M=d++e/\El a L d b/\El b R e c|[],_,M,a,_,t=>(a,[],M,rfl,.nil,t)|l::L,R,_,_,_,t=>by cases t with|@cons _ k _ _ _ m M x t=>have(b,d,e,rfl,T,f):=El.split t;exact(b,m++d,e,(aD _ _ _).symm,.cons x T,f)
theorem zF.vh(t:zF ks (d,w::ws) m k):W2.vh ks w=O k:=by cases t with|keep e=>exact e|put e=>subst e;rfl
theorem fc:∀{L R:List Ln}{a:ϐ},l0 a (L++R)=(l0 a L).bind λb=>l0 b R|[],_,_=>rfl|(_,[])::_,_,_=>rfl|(d,w::ws)::L,R,a=>by show(vh a w).bind (λk=>l0 k (L++R))=((vh a w).bind λk=>l0 k L).bind λb=>l0 b R;cases vh a w with|none=>rfl|some k=>exact fc
theorem El.l0(t:El a L M b):W2.l0 a L=O b:=by induction t with|nil=>rfl|@cons K k c l L m M x t i=>have(d,ws):=l;cases ws with|nil=>cases x|cons w ws=>show(W2.vh K w).bind (λk=>W2.l0 k L)=_;rw[x.vh];exact i
def QQ(w:Str):Bool:=!Jh w&&(!aS w "else"&&!aS w "end")
def Ek(h:QQ w):vh ks w=O ks:=by have(H,a,b):=dG h;unfold vh;rw[show Jh w=a' by simpa using H,show aS w "else"=a' by simpa using a,show aS w "end"=a' by simpa using b]
def zF.no{d:Nat}{w:Str}{ws:ϐ}{m:List Ln}(h:QQ w)(t:zF ks (d,w::ws) m k):m=[(d,w::ws)]/\k=ks:=by cases t with|keep e=>rw[Ek h]at e;cases e;exact(rfl,rfl)|put e=>exact absurd h (by ext)
def zF.op(h:Jh w)(t:zF ks (d,w::ws) m k):m=[(d,w::ws)]/\k=w::ks:=by cases t with|keep e=>unfold W2.vh at e;rw[h]at e;cases e;exact(rfl,rfl)|put e=>exact absurd h (by ext)
def zF.Θ(t:zF (x::ks) (d,"else"::ws) m k):m=[(d,("else":Str)::ws)]/\k=("else":Str)::ks:=by generalize h:("else":Str)=w at t;cases t with|keep e=>subst h;cases e;exact(rfl,rfl)|put e=>exact absurd (cy (λz=>aS z "end") h) (by ext)
def zF.fin{d:Nat}{ws:ϐ}{m:List Ln}(t:zF (x::ks) (d,"end"::ws) m k):k=ks/\(m=[(d,("end":Str)::ws)]\/x="if"/\m=([(0,["else"]),(d,"end"::ws)]:List Ln)):=by generalize h:Prod.mk d (("end":Str)::ws)=l at t;cases t with|@keep D w S k e=>cases h;cases e;exact(rfl,.inl rfl)|@put D S k e=>cases h;cases e;exact(rfl,.inr (rfl,rfl))
def Uo:Jh "if"=true:=by ext
def abW:Jh "while"=true:=by ext
def abV:Jh "try"=true:=by ext
def abQ:Jh "def"=true:=by ext
def abA:QQ "catch"=true:=by ext
def abC:QQ "own"=true:=by ext
def abz:QQ "box"=true:=by ext
def T1:QQ "list"=true:=by ext
def Mw(h:w∈zL):QQ w=true:=(show ∀w∈zL,QQ w=J by ext) w h
def adl:("while":Str)≠"if":=λz=>absurd (aQ.mpr z) (by ext)
def WT:("try":Str)≠"if":=λz=>absurd (aQ.mpr z) (by ext)
def χ:("def":Str)≠"if":=λz=>absurd (aQ.mpr z) (by ext)
def Δ:("else":Str)≠"if":=λz=>absurd (aQ.mpr z) (by ext)
def El.one(t:El a [l] M b):zF a l M b:=by cases t with|cons x t=>cases t;rw[aI];exact x
def El.end_{x:Str}(H:x≠"if")(t:El (x::ks) [wm d] M k):M=[wm d]/\k=ks:=by
 have(a,h):=t.one.fin;rcases h with h|⟨h,_⟩;.exact(h,a)
 .exact absurd h H
def BH(R:Pv->List Ln->Prop)(r:Pv->List Ln->Prop):Prop:=∀(x:Pv)(L:List Ln),R x L->(∀K,l0 K L=O K)/\∀{K M k},El K L M k->k=K/\r x M
def BH.sq(h:BH R r):∀{xs:ϑ}{L:List Ln},qr R xs L->(∀ks,l0 ks L=O ks)/\∀{ks M k},El ks L M k->k=ks/\qr r xs M:=by intro xs L t;induction t with|nil=>exact(λ_=>rfl,λt=>by cases t;exact(rfl,.nil))|cons a t i=>refine(λks=>by rw[fc,(h _ _ a).1];exact i.1 ks,λt=>?_);have(b,m,f,rfl,T,c):=t.split;have(rfl,d):=(h _ _ a).2 T;have(rfl,e):=i.2 c;exact(rfl,.cons d e)
def YX(h:∀d,BH (R d) (n d))(d:Nat):BH (lU a' R d) (lU J n d):=by intro x L t;cases t with
 |@pl w X Z ws H o p t=>
  refine(λk=>?_,λe=>?_);.show(vh k w).bind _=_;rw[Ek (Mw H)];rfl
  .have(rfl,rfl):=e.one.no (Mw H);exact(rfl,.pl H o p t)|@N2 v ws X A t a=>
  have(s,f):=BH.sq (h _) a;refine(λk=>?_,λe=>?_);.show l0 ("if"::k) (A++[wm d])=_;rw[fc,s];rfl
  .cases e with|cons x e=>
   have(rfl,rfl):=x.op Uo;have(b,M,m,rfl,c,T):=e.split;have(rfl,r):=f c;have(rfl,q):=T.one.fin;rcases q with rfl|⟨_,rfl⟩;.exact(rfl,.N2 t r)
   .exact(rfl,.h_ rfl t r)
 |h_ u=>cases u|@WX v y ws X Y A B t a b=>
  have(s,f):=BH.sq (h _) a;have(s2,F):=BH.sq (h _) b;refine(λk=>?_,λe=>?_);.show l0 ("if"::k) (A++lq d::(B++[wm d]))=_;rw[fc,s];show l0 ("else"::k) (B++[wm d])=_;rw[fc,s2];rfl
  .cases e with|cons x e=>have(rfl,rfl):=x.op Uo;have(b,M,m,rfl,c,T):=e.split;have(rfl,r):=f c;cases T with|cons g T=>have(rfl,rfl):=g.Θ;have(b,z,C,rfl,i,j):=T.split;have(rfl,l):=F i;have(rfl,rfl):=j.end_ Δ;exact(rfl,.WX t r l)
 |@ZH v ws X A t a=>
  have(s,f):=BH.sq (h _) a;refine(λk=>?_,λe=>?_);.show l0 ("while"::k) (A++[wm d])=_;rw[fc,s];rfl
  .cases e with|cons x e=>have(rfl,rfl):=x.op abW;have(b,M,m,rfl,c,T):=e.split;have(rfl,r):=f c;have(rfl,rfl):=T.end_ adl;exact(rfl,.ZH t r)
 |@wB x X Y A B D a b=>
  have(s,f):=BH.sq (h _) a;have(s2,F):=BH.sq (h _) b;refine(λk=>?_,λe=>?_);.show l0 ("try"::k) (A++mI d x::(B++[wm d]))=_;rw[fc,s];show l0 ("try"::k) (B++[wm d])=_;rw[fc,s2];rfl
  .cases e with|cons x e=>have(rfl,rfl):=x.op abV;have(b,M,m,rfl,c,T):=e.split;have(rfl,r):=f c;cases T with|cons g T=>have(rfl,rfl):=g.no abA;have(b,z,C,rfl,i,j):=T.split;have(rfl,l):=F i;have(rfl,rfl):=j.end_ WT;exact(rfl,.wB D r l)
theorem MJ:∀n d,BH (RL a' n d) (RL J n d)|0,_=>λ_ _ t=>t.elim|n+1,d=>YX (MJ n) d
def Dx:(∀l∈L,∃d w ws,l=(d,w::ws)/\QQ w=J)->(∀ks,l0 ks L=O ks)/\∀{ks M k},El ks L M k->k=ks/\M=L:=by induction L with|nil=>exact λ_=>(λ_=>rfl,λt=>by cases t;exact(rfl,rfl))|cons l L i=>
  intro h;have(d,w,ws,rfl,H):=h l au;have(I,a):=i λl b=>h l (ao _ b);refine(λks=>?_,λt=>?_);.show(vh ks w).bind _=_;rw[Ek H];exact I ks
  .cases t with|cons x t=>have(rfl,rfl):=x.no H;have(rfl,rfl):=a t;exact(rfl,rfl)
def Ω:BH (NR a') (NR J):=by intro x L t;cases t with|@mk x p os R L h H a lp lo t=>
 have(s,f):=BH.sq (MJ 5 1) t;have(s0,F):=Dx (L:=os.map FV) λl c=>by have(o,_,rfl):=a0.mp c;exact(1,"own",[o],rfl,abC)
 refine(λk=>?_,λe=>?_);.show l0 ("def"::k) (os.map FV++(L++[wm 0]))=_;rw[fc,s0];show l0 ("def"::k) (L++[wm 0])=_;rw[fc,s];rfl
 .cases e with|cons x e=>have(rfl,rfl):=x.op abQ;have(b,M,m,rfl,T,d):=e.split;have(rfl,rfl):=F T;have(b,j,n,rfl,g,i):=d.split;have(rfl,r):=f g;have(rfl,rfl):=i.end_ χ;exact(rfl,.mk h H a lp lo r)
def Mi:BH (zG a') (zG J):=by intro x L t;cases t with|@mk bs s fs A F R H a h c d f r=>
 have(S,E):=Dx (L:=bs.map zH) λl h=>by have(o,_,rfl):=a0.mp h;exact(0,"box",_,rfl,abz)
 have(sl,g):=Dx (L:=s.map yK) λl h=>by have(o,_,rfl):=a0.mp h;exact(0,"list",_,rfl,T1)
 have(i,j):=BH.sq Ω f;have(m,n):=BH.sq (MJ 5 0) r;refine(λk=>?_,λe=>?_);.rw[fc,S];show l0 k (s.map yK++(F++R))=_;rw[fc,sl];show l0 k (F++R)=_;rw[fc,i];exact m k
 .have(b,M,B,rfl,T,p):=e.split;have(rfl,rfl):=E T;have(b,C,D,rfl,q,u):=p.split;have(rfl,rfl):=g q;have(b,G,I,rfl,v,w):=u.split;have(rfl,y):=j v;have(rfl,z):=n w;exact(rfl,.mk H a h c d y z)
theorem uZ(h:ws ≠[]):∀n,oZ "  " n++cN ws=cN (aa5 (2*n) ⟨#[]⟩++ws)|0=>cG (by rw[hZ];rfl)|n+1=>by have H:aa5 (2*n) (⟨#[]⟩:Str)++ws ≠[]:=λz=>h (t_.mp z).2;show"  "++oZ "  " n++cN ws=cN (aa5 (2*n+2) ⟨#[]⟩++ws);rw[vT,uZ h n,b0,b0];show _=cN ([⟨#[]⟩,⟨#[]⟩]++(aa5 (2*n) ⟨#[]⟩++ws));rw[dk (by simp) H,<-vT];congr 1
def ib(l:Ln):Bool:=aa4 1 l.2.length&&(l.2.all gw&&aa4 (c7 l).length 5000)
def yq(h:ib l):gT (c7 l)=l.2.map .str:=by
 have(H,a,_):=dG h;have n:l.2 ≠[]:=λz=>by rw[z]at H;cases H
 unfold c7 ind;rw[uZ n,NL n a]
def TX:g8 (.str w) [.str "if",.str "while",.str "try",.str "def"]=Jh w:=by
 have e:∀z:Str,jx (.str z) (.str w)=aS w z:=λz=>by rw[gK,gq,aQ,aQ];exact eq_comm
 show(jx (.str "if") (.str w)||(jx (.str "while") (.str w)||(jx (.str "try") (.str w)||(jx (.str "def") (.str w)||a'))))=_;rw[e,e,e,e,zB];rfl
def XV(h:Jh w):aS w "else"=a'/\aS w "end"=false:=by
 have z:w="if"\/w="while"\/w="try"\/w="def":=by unfold Jh at h;rw[cH,cH,cH,aQ,aQ,aQ,aQ]at h;exact h
 rcases z with rfl|rfl|rfl|rfl<;>decide+kernel
inductive ZS(X:ϑ)(L:List Ln)(pre post:ϑ):Es->Hs->Prop|mk(A B M:List Ln)(ks:ϐ)(v:Int)(p5 p6:Option Dv)(e:L=A++B)(eb:post=(B.map c7).map .str)(t:El [] A M ks)(hv:fS v)(hm:M.length<=2*A.length)(hk:ks.length<=A.length):ZS X L pre post [O (.p (.lst X)),O (.r 0),O (.r 1),O (.r 2),p5,p6] [.lst [.int v],.lst ((M.map c7).map .str),.lst (ks.reverse.map .str)]
inductive cEE:Ct|mk{P:Pv}{L:List Ln}{v:Int}{Q:Dv->Hs->Prop}{xc:XP}(t:zG a' P L)(g:L.all ib)(hz:L.length<=9000)(hv:fS v)(q:∀(M:List Ln)(v':Int),zG J P M->El [] L M []->M.length<=18000->fS v'->Q (.p (.lst ((M.map c7).map .str))) [.lst [.int v']]):cEE [.p (.lst ((L.map c7).map .str)),.r 0] [.lst [.int v]] Q xc
def afq(B:LX ca W)(S:SX W):DX ca W 63 4 cEE:=by refine B.e (k:=2) 6 J [(30,mq)] [] (.seq (.set 2 (.tH .nil)) (.seq (.set 3 (.tH .nil)) (.seq (.fo (.one 4) (.s 0) (.seq (.set 5 (.ix (.comp 1 [] (.one 0) (.s (.mt QG 4 (.u (.s " ")))) (.one (.cmp G6 0 (.s ""))) 0) (.i 0))) (.seq (.iff (.cmp OD 5 (.lst (.u4 (.s "if") (.s "while") (.s "try") (.s "def")))) (.one (.ex (.mt fQ 3 (.u 5)))) .nil) (.seq (.iff (.cmp hW 5 (.s "else")) (.one (.aci (.s "else") 3 (.neg (.i 1)))) .nil) (.seq (.iff (.bo (Wm.ac (.cmp hW 5 (.s "end")) (Wm.ac (.cmp hW (.m0 Xy 3) (.s "if")) (Wm.a1 (.cmp hW (.cl 30 [0] (.u2 1 (.i 3))) (.i 0)))))) (.one (.ex (.mt fQ 2 (.u (.s "else"))))) .nil) (.one (.ex (.mt fQ 2 (.u 4))))))))) (.re 2)))) S.qh rfl ((my B S).up rfl,trivial) trivial λds h Q xc c=>?_;cases c with|@mk P L v Q xc t g hz H q=>
 refine(rfl,?_);have(st,fn):=Mi _ _ t;refine eW (ZS ((L.map c7).map .str) L) ?_ (λpre x post σ h e j=>?_) λσ h j=>?_;.exact .mk [] L [] [] v af af rfl rfl .nil H (ay _) (ay _)
 .cases j with|mk A B M K v p5 p6 E F t H hm D=>cases B with|nil=>cases F|cons l B=>cases F;have(d,ws):=l;have Z:ib (d,ws)=true:=ai.mp g _ (by rw[E];simp);have wr:=yq Z;have(g1,g2,g3):=dG Z;cases ws with|nil=>cases g1|cons w ws=>
  have ln:=ap.mp g3;have le:=cy ad1 E;rw[aa,ag]at le;have b:l0 K ((d,w::ws)::B)=O []:=by have z:=st [];rw[E,fc,t.l0]at z;exact z
  have b:(vh K w).bind (λk=>l0 k B)=O []:=b;refine aw (qi rfl (aE ln (by ext))) ?_;refine nz qU id rfl (λy hy=>?_) ?_;.have(z,_,rfl):=a0.mp hy;exact(λR q=>q,λ_ R q=>q)
  rw[IS,show(List.map Pv.str (ac5 (c7 (d,w::ws)) " ")).filter qU=(w::ws).map .str from wr];have C:gU (((M.map c7).map Pv.str).length+1)=true:=dW (by rw[ae,ae];show _<=1000000;lia);have T:∀N:List Ln,(M.map c7).map Pv.str++(N.map c7).map Pv.str=((M++N).map c7).map Pv.str:=λN=>by rw[aq,aq]
  cases o:Jh w with|true=>have(n1,n2):=XV o;refine aw rfl (bB (c:=g8 (.str w) [.str "if",.str "while",.str "try",.str "def"]) (λ_=>?_) λz=>by rw[TX,o]at z;cases z);refine aw (dW (n:=(K.reverse.map Pv.str).length+1) (by rw[ae,dX];show _<=1000000;lia)) ?_;refine aw rfl (bB (c:=jx (.str w) (.str "else")) (λz=>by rw[gK]at z;rw[n1]at z;cases z) λ_=>?_);refine aw rfl (bB (c:=jx (.str w) (.str "end")) (λz=>by rw[gK]at z;rw[n2]at z;cases z) λ_=>?_);refine bB (λz=>by cases z) λ_=>?_;refine aw C ?_;have z:=ZS.mk (X:=(L.map c7).map .str) (L:=L) (pre:=pre++[.str (c7 (d,w::ws))]) (post:=(B.map c7).map .str) (A++[(d,w::ws)]) B (M++[(d,w::ws)]) (w::K) v (O (.p (.str (c7 (d,w::ws))))) (O (.p (.str w))) (by rw[E,aD];rfl) rfl (t.snoc (.keep (by unfold vh;rw[o]))) H (by rw[aa,aa];show _+1<=2*(_+1);lia) (by rw[aa];show _+1<=_+1;lia);rw[<-T,eV,aq]at z;exact z|false=>
   refine aw rfl (bB (c:=g8 (.str w) [.str "if",.str "while",.str "try",.str "def"]) (λz=>by rw[TX,o]at z;cases z) λ_=>?_);have fin:∀(k:ϐ)(G:Int),zF K (d,w::ws) [(d,w::ws)] k->fS G->k.length<=A.length+1->ZS ((L.map c7).map .str) L (pre++[.str (c7 (d,w::ws))]) ((B.map c7).map .str) [O (.p (.lst ((L.map c7).map .str))),O (.r 0),O (.r 1),O (.r 2),O (.p (.str (c7 (d,w::ws)))),O (.p (.str w))] [.lst [.int G],.lst ((M.map c7).map .str++[.str (c7 (d,w::ws))]),.lst (k.reverse.map .str)]:=λk G a WW TQ=>by have z:=ZS.mk (X:=(L.map c7).map .str) (L:=L) (pre:=pre++[.str (c7 (d,w::ws))]) (post:=(B.map c7).map .str) (A++[(d,w::ws)]) B (M++[(d,w::ws)]) k G (O (.p (.str (c7 (d,w::ws))))) (O (.p (.str w))) (by rw[E,aD];rfl) rfl (t.snoc a) WW (by rw[aa,aa];show _+1<=2*(_+1);lia) (by rw[aa];exact TQ);rw[<-T]at z;exact z
   have U:∀(x:Str)(r:ϐ),(x::r).reverse.map Pv.str=r.reverse.map .str++[.str x]:=λx r=>by rw[eV,aq];rfl
   cases f:aS w "else"with
   |true=>cases K with|nil=>unfold vh at b;rw[o,f]at b;cases b|cons x r=>
    refine aw rfl (bB (c:=jx (.str w) (.str "else")) (λ_=>?_) λz=>by rw[gK]at z;rw[f]at z;cases z);rw[U];refine RH (h:=[.lst [.int v],.lst ((M.map c7).map .str),.lst (r.reverse.map .str++[.str x])]) (i:=2) (xs:=r.reverse.map .str) (z:=.str x) (v:=.str "else") rfl ?_;have m:aS w "end"=false:=by rw[aQ.mp f];decide+kernel
    refine aw rfl (bB (c:=jx (.str w) (.str "end")) (λz=>by rw[gK]at z;rw[m]at z;cases z) λ_=>?_);refine bB (λz=>by cases z) λ_=>?_;refine aw C ?_;have z:=fin ("else"::r) v (.keep (by unfold vh;rw[o,f])) H (Nat.le_succ_of_le D);rw[U]at z;exact z
   |false=>refine aw rfl (bB (c:=jx (.str w) (.str "else")) (λz=>by rw[gK]at z;rw[f]at z;cases z) λ_=>?_);cases m:aS w "end"with|false=>refine aw rfl (bB (c:=jx (.str w) (.str "end")) (λz=>by rw[gK]at z;rw[m]at z;cases z) λ_=>?_);refine bB (λz=>by cases z) λ_=>?_;refine aw C ?_;exact fin K v (.keep (by unfold vh;rw[o,f,m])) H (Nat.le_succ_of_le D)|true=>refine aw rfl (bB (c:=jx (.str w) (.str "end")) (λ_=>?_) λz=>by rw[gK]at z;rw[m]at z;cases z);cases K with|nil=>unfold vh at b;rw[o,f,m]at b;cases b|cons x r=>
     rw[U];have Y:r.length<=A.length+1:=by have D:r.length+1<=A.length:=D;lia
     have kp:zF (x::r) (d,w::ws) [(d,w::ws)] r:=.keep (by unfold vh;rw[o,f,m]);refine bC (show(r.reverse.map Pv.str++[Pv.str x])[(r.reverse.map Pv.str++[Pv.str x]).length-1]?=O (Pv.str x)by simp) ?_;rw[kU];refine aw rfl (bB (c:=jx (.str x) (.str "if")) (λI=>?_) λ_=>?_)
     .refine aw (kx H rfl) λv1 y Fq hy=>?_;refine aw rfl (bB (c:=jx (.int (y:Nat)) (.int 0)) (λ_=>?_) λ_=>?_)
      .refine aw C (aw (dW (n:=((M.map c7).map Pv.str++[Pv.str "else"]).length+1) (by rw[aa,ae,ae];show _+1+1<=1000000;lia)) ?_);have I:x="if":=by rw[gK]at I;exact aQ.mp I
       have hw:w="end":=aQ.mp m;have pt:zF (x::r) (d,w::ws) ([(0,["else"]),(d,w::ws)]:List Ln) r:=by rw[I,hw];exact .put rfl
       have z:=ZS.mk (X:=(L.map c7).map .str) (L:=L) (pre:=pre++[.str (c7 (d,w::ws))]) (post:=(B.map c7).map .str) (A++[(d,w::ws)]) B (M++([(0,["else"]),(d,w::ws)]:List Ln)) r v1 (O (.p (.str (c7 (d,w::ws))))) (O (.p (.str w))) (by rw[E,aD];rfl) rfl (t.snoc pt) Fq (by rw[aa,aa];show _+2<=2*(_+1);lia) (by rw[aa];exact Y);rw[<-T,show(([(0,["else"]),(d,w::ws)]:List Ln).map c7).map Pv.str=[Pv.str "else"]++[.str (c7 (d,w::ws))]by show[Pv.str (ind 0++cN ["else"]),_]=_;rw[Kz];rfl,<-aD]at z;exact z
      .refine aw C ?_;exact fin r v1 kp Fq Y
     .refine bB (λz=>by cases z) λ_=>?_;refine aw C ?_;exact fin r v kp H Y
 .cases j with|mk A B M K v p5 p6 E F t H hm D=>cases B with|cons l B=>cases F|nil=>rw[aI]at E;subst E;have(rfl,r):=fn t;exact q M v r t (by lia) H
def adk(h:wS w):gw w=true:=by have(H,_,a):=dG h;unfold gw;rw[H];cases c:w.cps.toList.contains 32 with|false=>rfl|true=>exact absurd (ap.mp (ai.mp a 32 (ko.mp c))) (by ext)
def adj(h:wN w):wS w=true:=(ah h).1
def Vo{ws:ϐ}(h:ws.all wN):ws.all wS=true:=ai.mpr λw H=>adj (ai.mp h w H)
def oR(l:Ln):Bool:=aa4 l.1 20&&(aa4 1 l.2.length&&(aa4 l.2.length 100&&l.2.all wN))
def zy(h:wS w):w.length<=10:=ap.mp (dG h).2.1
def nA(h:oR l):l.1<=20/\1<=l.2.length/\l.2.length<=100/\l.2.all wS=true:=by have(a,b,H):=dG h;have(H,c):=ah H;exact(ap.mp a,ap.mp b,ap.mp H,Vo c)
def Wk(h:oR l):l.2.all wN=true:=(ah (dG h).2.2).2
def yr(h:oR l):ib l=true:=by have(c,b,d,a):=nA h;have hl:=tD (ws:=l.2) λw H=>zy (ai.mp a w H);unfold ib;rw[ap.mpr b,ai.mpr λw H=>adk (ai.mp a w H),ap.mpr (show(c7 l).length<=5000 by unfold c7;rw[bt,yE];lia)];rfl
def iP(H:d<=20)(h:wN w)(a:ws.all wN)(b:ws.length<=99):oR (d,w::ws)=true:=by unfold oR;rw[show aa4 ((d,w::ws):Ln).1 20=J from ap.mpr H,show aa4 1 ((d,w::ws):Ln).2.length=J from ap.mpr (by show 1<=ws.length+1;lia),show((d,w::ws):Ln).2.all wN=J by show(wN w&&ws.all wN)=J;rw[h,a];rfl,show aa4 ((d,w::ws):Ln).2.length 100=J from ap.mpr (by show ws.length+1<=100;lia)];rfl
def BY.n(h:BY vs o):o.flatten.length<=30*vs.length:=by induction h with|nil=>exact ay _|cons t k i=>have:=t.len.1;rw[cx,aa,ag];lia
theorem rA.n{ws:ϐ}(h:rA w xs zs ws):ws.length<=30*xs.length\/aS w "call"=J/\ws.length+1<=xs.length+90:=by
 induction h with|nil=>exact .inl (ay _)|nm x t i=>
  rw[ag,ag];rcases i with i|⟨h,i⟩;.exact .inl (by lia)
  .exact .inr (h,by lia)|val H v t i=>
  have:=v.len.1;rw[aa,ag];rcases i with i|⟨h,i⟩;.exact .inl (by lia)
  .rw[H]at h;cases h|vals H l t=>have:=t.n;exact .inr (H,by show _<=1+90;lia)
def rA.n3{ws:ϐ}(h:rA w xs zs ws)(H:xs.length<=3):ws.length<=99:=by rcases h.n with h|⟨_,h⟩<;>lia
def VW.n(h:VW 4 v ws):ws.length<=99:=by have:=h.len.1;lia
theorem rA.ws{w:Str}{xs:ϑ}{zs ws:ϐ}(h:rA w xs zs ws):ws.all wN=true:=by induction h with|nil=>rfl|nm x t i=>rw[aG,rQ x,i];rfl|val H v t i=>rw[aX,v.wn,i];rfl|vals H l t=>clear H l;induction t with|nil=>rfl|cons t k i=>rw[cx,aX,t.wn,i];rfl
def acg(h:w∈zL):wN w=true:=(show ∀w∈zL,wN w=J by ext) w h
def AE(h:d<=20):oR (wm d)=true:=iP h (by ext) rfl (by ext)
def TK(h:d<=20):oR (lq d)=true:=iP h (by ext) rfl (by ext)
def WR(h:d<=20):oR (Do d)=true:=iP h (by ext) rfl (by ext)
def zh(h:∀x L,R x L->L.all oR)(t:qr R xs L):L.all oR=true:=by induction t with|nil=>rfl|cons a t i=>rw[aX,h _ _ a,i];rfl
def acC(H:d<=20)(h:∀x L,R (d+1) x L->L.all oR)(t:lU a' R d x L):L.all oR=true:=by cases t with|@pl w X z ws hw l k t=>rw[aG,iP H (acg hw) t.ws (t.n3 l)];rfl|@N2 v ws X A t a=>rw[aG,aX,iP H (by ext) t.wn t.n,zh h a,aG,AE H];rfl|h_ c=>cases c|@WX v y ws X Y A B t a b=>rw[aG,aX,aG,aX,iP H (by ext) t.wn t.n,zh h a,TK H,zh h b,aG,AE H];rfl|@ZH v ws X A t a=>rw[aG,aX,iP H (by ext) t.wn t.n,zh h a,aG,AE H];rfl|@wB x X Y A B e a b=>have hw:=rQ e;rw[aG,aX,aG,aX,WR H,zh h a,iP H (by ext) (show[x].all wN=J by rw[aG,hw];rfl) (by show 1<=99;decide),zh h b,aG,AE H];rfl
theorem YU:∀n d,d+n<=20->∀x L,RL a' n d x L->L.all oR=J|0,_,_,_,_,t=>t.elim|n+1,d,h,x,L,t=>acC (by lia) (YU n (d+1) (by lia)) t
def afI(t:NR a' x L):L.all oR=true:=by cases t with|@mk x p os r L a b H lp lo t=>
 have T:(x::p).all N6=true:=by rw[aG,a,b];rfl
 have c:(x::p).all wN=true:=ai.mpr λw hw=>rQ (ai.mp T w hw);have H:(os.map FV).all oR=true:=ai.mpr λl d=>by have(o,h,rfl):=a0.mp d;have hw:=rQ (ai.mp H o h);exact iP (by ext) (by ext) (show[o].all wN=J by rw[aG,hw];rfl) (by show 1<=99;decide)
 rw[aG,aX,aX,iP (by ext) (by ext) c (by show p.length+1<=99;lia),H,zh (YU 5 1 (by ext)) t,aG,AE (by ext)];rfl
def YB(t:zG a' x L):L.all oR=true:=by cases t with|@mk bs s fs o F R d p H q u f r=>
 have e:(bs.map zH).all oR=true:=ai.mpr λl H=>by have(b,h,rfl):=a0.mp H;have(g,G):=ah (ai.mp d b h);have a:=rQ g;have c:=Ly (ap.mp G);exact iP (by ext) (by ext) (show[b.1,jK b.2].all wN=J by rw[aG,aG,a,c];rfl) (by show 2<=99;decide)
 have j:(s.map yK).all oR=true:=ai.mpr λl P=>by
  have(b,h,rfl):=a0.mp P;have(g,G,k):=dG (ai.mp H b h);have a:=rQ g;have c:(b.2.map jK).all wN=true:=ai.mpr λw m=>by have(i,n,rfl):=a0.mp m;exact Ly (ap.mp (ai.mp k i n))
  have:=ap.mp G;exact iP (by ext) (by ext) (show(b.1::b.2.map jK).all wN=J by rw[aG,a,c];rfl) (by rw[ag,ae];lia)
 rw[aX,aX,aX,e,j,zh (λ_ _ t=>afI t) f,zh (YU 5 0 (by ext)) r];rfl
def El.g(t:El a L M b)(h:L.all oR):M.all oR=true:=by induction t with|nil=>rfl|cons x t i=>have(H,c):=ah (show(oR _&&List.all _ oR)=J from h);rw[aX,i c];cases x with|keep e=>rw[aG,H];rfl|put e=>rw[aG,aG,H,TK (d:=0) (by ext)];rfl
def gI:Str:=⟨#[]⟩
def sp(n:Nat):Str:=oZ " " n
noncomputable def nb(w:Str):Bool:=w.cps.toList.all λc=>!(aa6 c 32||aa6 c 10)
def abq(h:nb w):32∉w.cps.toList:=λz=>by have:=ai.mp h 32 z;cases this
def T9(h:nb w):10∉w.cps.toList:=λz=>by have:=ai.mp h 10 z;cases this
def NI(h:wS w):nb w=true:=by have(_,_,H):=dG h;refine ai.mpr λc a=>?_;have:=ap.mp (ai.mp H c a);rw[show aa6 c 32=a' from a8.mpr λz=>by have:=ax z;lia,show aa6 c 10=a' from a8.mpr λz=>by have:=ax z;lia];rfl
def SW(h:zs ≠[])(g:zs.all nb):gT (cN zs)=(zs.map Pv.str).filter qU:=by unfold gT cN;rw[EO,lK (c:=32) h λx H=>abq (ai.mp g x H)]
def Fw(h:zs ≠[]):cN zs++(" "++w)=cN (zs++[w]):=(dk (us:=[w]) h (by simp)).symm
theorem K1(h:zs ≠[]):∀k,cN zs++sp k=cN (zs++aa5 k gI)|0=>by rw[xD,aI];exact cG (by rw[hZ];exact aI _)|k+1=>by have e:sp (k+1)=" "++sp k:=rfl;have E:(" ":Str)=" "++gI:=cG (by rw[hZ];exact(aI _).symm);rw[e,<-vT,E,Fw h,K1 (by simp) k,aD];rfl
def vl(h:zs ≠[])(k:Nat):cN zs++sp (k+1)++w=cN (zs++(aa5 k gI++[w])):=by
 have e:∀k,sp (k+1)=sp k++" ":=λk=>by induction k with|zero=>exact cG (by rw[show sp (0+1)=" "++sp 0 from rfl,hZ,hZ];exact aI _)|succ k i=>show" "++sp (k+1)=sp (k+1)++" ";have z:sp (k+1)++" "=" "++(sp k++" "):=vT _ _ _;rw[z,<-i]
 rw[e,<-vT,vT _ " " w,K1 h,Fw (by simp[h]),aD]
def wT(a:Nat)(w:Str):sp a++w=cN (aa5 a gI++[w]):=by induction a with|zero=>exact cG (by rw[hZ];rfl)|succ a i=>rw[show sp (a+1)=" "++sp a from rfl,vT,i];rw[b0];show _=cN ([gI]++(aa5 a gI++[w]));rw[dk (ws:=[gI]) (us:=aa5 a gI++[w]) (by simp) (by simp)];exact cG (by rw[hZ (cN [gI])];rfl)
noncomputable def Fv(ls:ϐ):Str:=ac6 ⟨#[10]⟩ ls
def AV:("\n":Str)=⟨#[10]⟩:=aQ.mp (by ext)
theorem pZ:∀{ws us:ϐ},ws ≠[]->us ≠[]->Fv (ws++us)=Fv ws++("\n"++Fv us)|[w],[],_,h=>absurd rfl h|[w],u::us,_,_=>by refine cG ?_;show(ac6 ⟨#[10]⟩ (w::u::us)).cps.toList=_;rw[dq,hZ,hZ,AV];rfl|w::x::ws,us,_,hu=>by have i:=pZ (ws:=x::ws) (us:=us) (by simp) hu;refine cG ?_;show(ac6 ⟨#[10]⟩ (w::x::(ws++us))).cps.toList=_;rw[dq];show _++10::(Fv (x::ws++us)).cps.toList=(ac6 ⟨#[10]⟩ (w::x::ws)++("\n"++Fv us)).cps.toList;rw[i,hZ,hZ (ac6 _ _),dq,aD];rfl
def eB(ls:ϐ):Str:=Fv (ls++[gI])
def xb:eB ls++(z++"\n")=eB (ls++[z]):=by
 have e0:∀x:Str,gI++x=x:=λx=>cG (by rw[hZ];rfl);have e:∀x:Str,x++gI=x:=λx=>cG (by rw[hZ];exact aI _);have Z:Fv ([z]++[gI])=z++"\n":=by rw[pZ (by simp) (by simp)];show z++("\n"++gI)=_;rw[e]
 unfold eB;cases ls with|nil=>show gI++_=Fv ([z]++[gI]);rw[e0,Z]|cons l ls=>rw[pZ (ws:=l::ls) (by simp) (by simp),aD,pZ (ws:=l::ls) (us:=[z]++[gI]) (by simp) (by simp),Z];show _++("\n"++gI)++_=_;rw[e,vT]
def sx(g:zs.all nb):10∉(cN zs).cps.toList:=by induction zs with|nil=>exact λz=>by cases z|cons w zs i=>have(G,a):=ah (show(nb w&&zs.all nb)=J from g);cases zs with|nil=>exact T9 G|cons y zs=>
   intro h;have h:10∈(ac6 ⟨#[32]⟩ (w::y::zs)).cps.toList:=h;rw[dq]at h;rcases bf.mp h with h|h;.exact T9 G h
   .rcases aK.mp h with h|h;.cases h
    .exact i a h
def Nu(h:∀z∈ls,10∉z.cps.toList):cO (eB ls)=BN ls:=by unfold cO eB Fv;rw[AV,lK (c:=10) (by simp) (λx H=>by rcases bf.mp H with H|H;exact h x H;rw[aV.mp H];exact λz=>by cases z),aq,b7];show BN ls++ag7 kf [Pv.lst (gT gI)]=_;rw[show ag7 kf [Pv.lst (gT gI)]=[]by ext,aI]
def Zm(H:ls ≠[])(h:∀z∈ls,10∉z.cps.toList):cO (Fv ls)=BN ls:=by unfold cO Fv;rw[AV,lK (c:=10) H h];rfl
inductive Tf(X:ϑ)(M:List Ln)(pre post:ϑ):Es->Hs->Prop|mk(A B:List Ln)(ls:ϐ)(v:Int)(p3 p4 p5 p6 p7:Option Dv)(e:M=A++B)(eb:post=(B.map c7).map .str)(hl:∀z∈ls,10∉z.cps.toList)(hr:BN ls=A.map λl=>wl l.2)(hs:(eB ls).length<=1400*A.length)(hv:fS v):Tf X M pre post [O (.p (.lst X)),O (.r 0),O (.p (.str (eB ls))),p3,p4,p5,p6,p7] [.lst [.int v]]
def Fk:eB []="":=aQ.mp (by ext)
def Tf.in0(h:Tf X M pre post [O (.p (.lst X)),O (.r 0),O (.p (.str (eB []))),af,af,af,af,af] [.lst [.int v]]):Tf X M pre post [O (.p (.lst X)),O (.r 0),O (.p (.str "")),af,af,af,af,af] [.lst [.int v]]:=by rw[Fk]at h;exact h
def El.abb(t:El a L M b):M.length<=2*L.length:=by induction t with|nil=>exact ay _|cons x t i=>rw[aa,ag];cases x with|keep e=>show 1+_<=_;lia|put e=>show 2+_<=_;lia
def Dq{k:Nat}(h:(k:Int)<m)(H:m<=100):(ic 0 (k:Nat)&&(ic (k:Nat) 5000&&aa4 (" ":Str).length 100))=true:=by rw[bM.mpr (show(0:Int)<=(k:Nat)by lia),bM.mpr (show((k:Nat):Int)<=5000 by lia)];rfl
def mU(n:Nat):(sp n).length=n:=by induction n with|zero=>rfl|succ n i=>show(" "++sp n).length=_;rw[bt,i];show 1+n=n+1;lia
noncomputable def TN:ϑ:=[.str "",.str "",.str "",.str "\n",.str "   \n",.str "# end of it\n",.str "  #\n",.str "#tell number 1\n"]
def Q_(x:Str):x++gI=x:=cG (by rw[hZ];exact aI _)
def QK(h:k<8):∃(m:Str)(M:ϐ),nk TN (k:Nat)=O (.str m)/\m.length<=15/\(∀z∈M,10∉z.cps.toList)/\BN M=[]/\∀ls,eB ls++m=eB (ls++M):=by
 have no:∀m:Str,m=gI->∃M:ϐ,(∀z∈M,10∉z.cps.toList)/\BN M=[]/\∀ls,eB ls++m=eB (ls++M):=λm H=>([],(λ_ h=>by cases h),rfl,λls=>by rw[H,aI,Q_]);have Y:∀m z:Str,m=z++"\n"->z.cps.toList.contains 10=a'->BN [z]=[]->∃M:ϐ,(∀z∈M,10∉z.cps.toList)/\BN M=[]/\∀ls,eB ls++m=eB (ls++M):=λm z H a r=>([z],(λy b=>by rw[aV.mp b];exact λz=>by rw[ko.mpr z]at a;cases a),r,λls=>by rw[H,xb]);rcases k with _|_|_|_|_|_|_|_|k;.have(M,h):=no "" (aQ.mp (by ext));exact(_,M,rfl,by ext,h)
 .have(M,h):=no "" (aQ.mp (by ext));exact(_,M,rfl,by ext,h)
 .have(M,h):=no "" (aQ.mp (by ext));exact(_,M,rfl,by ext,h)
 .have(M,h):=Y "\n" "" (aQ.mp (by ext)) (by ext) (by ext);exact(_,M,rfl,by ext,h)
 .have(M,h):=Y "   \n" "   " (aQ.mp (by ext)) (by ext) (by ext);exact(_,M,rfl,by ext,h)
 .have(M,h):=Y "# end of it\n" "# end of it" (aQ.mp (by ext)) (by ext) (by ext);exact(_,M,rfl,by ext,h)
 .have(M,h):=Y "  #\n" "  #" (aQ.mp (by ext)) (by ext) (by ext);exact(_,M,rfl,by ext,h)
 .have(M,h):=Y "#tell number 1\n" "#tell number 1" (aQ.mp (by ext)) (by ext) (by ext);exact(_,M,rfl,by ext,h)
 .lia
inductive N_(X:ϑ)(T z:Str)(w:Str)(ws:ϐ)(pre post:ϑ):Es->Hs->Prop|mk(zs:ϐ)(v:Int)(p4 p7:Option Dv)(hz:zs ≠[])(hb:zs.all nb)(hf:(zs.map Pv.str).filter qU=.str w::pre)(hs:(cN zs).length<=13+12*pre.length)(hv:fS v):N_ X T z w ws pre post [O (.p (.lst X)),O (.r 0),O (.p (.str T)),O (.p (.str z)),p4,O (.p (.lst ((w::ws).map .str))),O (.p (.str (cN zs))),p7] [.lst [.int v]]
inductive cSp:Ct|mk{P:Pv}{L:List Ln}{v:Int}{Q:Dv->Hs->Prop}{xc:XP}(t:zG a' P L)(hz:L.length<=250)(hv:fS v)(q:∀(M:List Ln)(z:Str)(v':Int),zG J P M->M.all oR->M.length<=500->cO z=M.map (λl=>wl l.2)->z.length<=900000->fS v'->Q (.p (.str z)) [.lst [.int v']]):cSp [.p (.lst ((L.map c7).map .str)),.r 0] [.lst [.int v]] Q xc
def yO(k:Nat):((aa5 k gI).map Pv.str).filter qU=[]:=by rw[zO,sd.mpr];intro x h;rw[(nX.mp h).2];decide+kernel
def Ub(h:wS w):qU (.str w)=true:=(ah h).1
def yN(k:Nat):(aa5 k gI).all nb=true:=ai.mpr λx h=>by rw[(nX.mp h).2];rfl
def UE(h:wS w):kf (.lst ((w::ws).map .str))=true:=by have(H,_,a):=dG h;show(!Txt.startswith w "#")=J;rw[U1];cases e:w.cps.toList with|nil=>exact absurd (show aS w ""=J from aQ.mpr (cG (by rw[e];rfl))) (by rw[show aS w ""=a' by simpa using H];exact aL)|cons c r=>have:=ap.mp (ai.mp a c (by rw[e];exact au));rw[M8 e (by lia)];rfl
def agY(h:0<=j)(H:j<=1):xQ i j=true:=XA h (by lia)
def UP(h:j<=x.length):ae9 x af (O (j:Nat))=⟨(x.cps.toList.take j).toArray⟩:=by have z:=kB (PyProof.Rows.slice_closes_toL (x:=x) (j:=(j:Nat)) (by lia) (by lia));rw[z];congr 2
def Za(x:Str):ae9 x af (O (x.length:Nat))=x:=by rw[UP (ay _)];exact cG (eo (l8 bU))
def Zb:ae9 (x++⟨#[c]⟩) af (O (x.length:Nat))=x:=by rw[UP (by rw[bt];exact cZ _ _)];refine cG ?_;show List.take x.length (x++⟨#[c]⟩:Str).cps.toList=_;rw[hZ];exact List.take_left' bU
def π(B:LX ca W)(S:SX W):DX ca W 64 6 cSp:=by refine B.e (k:=4) 8 J [(30,mq),(63,cEE)] [] (.seq (.set 2 (.s "")) (.seq (.fo (.one 3) (.s (.cl 63 [0] (.u2 0 1))) (.seq (.setC 5 1 [] (.one 0) (.s (.mt QG 3 (.u (.s " ")))) (.one (.cmp G6 0 (.s ""))) 0) (.seq (.set 6 (.b2 cC (.b2 JC (.s " ") (.cl 30 [0] (.u2 1 (.i 4)))) (.ix 5 (.i 0)))) (.seq (.fo (.one 4) (.s (.sl 5 (.of (.i 1)) .no)) (.one (.set 6 (.b2 cC (.b2 cC 6 (.b2 JC (.s " ") (.b2 cC (.i 1) (.b2 Vv (.cl 30 [0] (.u2 1 (.i 6))) (.i 4))))) 4)))) (.seq (.set 7 (.ix (.lst (.cons (.s "") (.cons (.s "") (.cons (.s "") (.u5 (.s "\n") (.s "   \n") (.s "# end of it\n") (.s "  #\n") (.s "#tell number 1\n")))))) (.cl 30 [0] (.u2 1 (.i 8))))) (.one (.set 2 (.b2 cC (.b2 cC (.b2 cC (.b2 cC 2 7) 6) (.b2 JC (.s " ") (.cl 30 [0] (.u2 1 (.i 2))))) (.s "\n"))))))))) (.re (.sl 2 .no (.of (.b2 vU (.bi da (.u 2)) (.b2 B6 (.cl 30 [0] (.u2 1 (.i 2))) (.bi V9 (.u (.cmp G6 2 (.s ""))))))))))) S.zb rfl ((my B S).le (by lia),(afq B S).le (by lia),trivial) trivial λds h Q xc c=>?_;cases c with|@mk P L v Q xc t I f q=>
  refine(rfl,?_);refine aw rfl (.mk t (ai.mpr λl N=>yr (ai.mp (YB t) l N)) (by lia) f λM v' pm el hm WW=>?_);have gM:=el.g (YB t);refine eW (Tf ((L.map c7).map .str) M) ?_ (λpre x post σ h e j=>?_) λσ h j=>?_;. exact Tf.in0 (.mk [] M [] v' af af af af af rfl rfl (λ_ h=>by cases h) rfl (ay _) WW)
  . cases j with|mk A B a v p3 p4 p5 p6 p7 E eb N hr U f=>cases B with|nil=>cases eb|cons l B=>cases eb;have(d,ws):=l;have gl:oR (d,ws)=true:=ai.mp gM _ (by rw[E];simp);have gn:=yr gl;have wr:=yq gn;have(g0,g1,g2,g3):=nA gl;have ln:=ap.mp (dG gn).2.2;have le:=cy ad1 E;rw[aa,ag]at le;have l2:=el.abb;cases ws with|nil=>exact absurd (show 1<=0 from g1) (by ext)|cons w ws=>
    have(w1,w2):=ah (show(wS w&&ws.all wS)=J from g3);have g2:ws.length+1<=100:=g2;have wl1:=zy w1;refine aw (qi rfl (aE ln (by ext))) ?_;refine nz qU id rfl (λy H=>?_) ?_;. have(z,_,rfl):=a0.mp H;exact(λR q=>q,λ_ R q=>q)
    rw[IS,show(List.map Pv.str (ac5 (c7 (d,w::ws)) " ")).filter qU=(w::ws).map .str from wr];refine aw (kx f rfl) λY k Fq hk=>?_;have hk:(k:Int)<4:=hk;refine aw (Dq hk (by ext)) ?_;refine aw (dW (n:=(sp k).length+w.length) (by rw[mU];show _<=1000000;lia)) ?_;refine eW (N_ ((L.map c7).map .str) (eB a) (c7 (d,w::ws)) w ws) ?_ (λqe x2 rT σ h e3 j=>?_) λσ h j=>?_;. have z:=N_.mk (X:=(L.map c7).map .str) (T:=eB a) (z:=c7 (d,w::ws)) (w:=w) (ws:=ws) (pre:=[]) (post:=ws.map .str) (aa5 k gI++[w]) Y p4 p7 (by simp) (by rw[aX,yN,aG,NI w1];rfl) (by rw[aq,b7,yO];exact cD (Ub w1)) (by rw[<-wT,bt,mU];show _<=13+0;lia) Fq;rw[<-wT]at z;exact z
    . have e3:ws.map Pv.str=qe++x2::rT:=e3;have lp:=cy ad1 e3;rw[aa,ag,ae]at lp;have(u,hu,rfl):=a0.mp (show x2∈ws.map Pv.str by rw[e3];simp);have u1:=ai.mp w2 u hu;have ul:=zy u1;cases j with|mk Z v p4 p7 I hb hf U f=>
      refine aw (kx f rfl) λv2 K C b=>?_;have b:(K:Int)<6:=b;obtain⟨j,hj,ej⟩:∃j:Nat,j<=1/\1+(K:Int)/4=((j+1:Nat):Int):=(K/4,by omega,by omega);have er:oZ " " (1+(K:Int)/4).toNat=sp (j+1):=by rw[ej];rfl
      refine(aw (c:=ic 0 (1+(K:Int)/4)&&(ic (1+(K:Int)/4) 5000&&aa4 (" ":Str).length 100)) (by rw[ej];exact Dq (m:=3) (by lia) (by ext)) ?_);refine aw (dW (n:=(cN Z).length+(oZ " " (1+(K:Int)/4).toNat).length) (by rw[er,mU];show _<=1000000;lia)) ?_;refine aw (dW (n:=(cN Z++oZ " " (1+(K:Int)/4).toNat).length+u.length) (by rw[er,bt,mU];show _<=1000000;lia)) ?_;have z:∀D,N_ ((L.map c7).map .str) (eB a) (c7 (d,w::ws)) w ws (qe++[.str u]) rT [O (.p (.lst ((L.map c7).map .str))),O (.r 0),O (.p (.str (eB a))),O (.p (.str (c7 (d,w::ws)))),O (.p (.str u)),O (.p (.lst ((w::ws).map .str))),O (.p (.str (cN Z++oZ " " (1+(K:Int)/4).toNat++u))),D] [.lst [.int v2]]:=λD=>by have z:=N_.mk (X:=(L.map c7).map .str) (T:=eB a) (z:=c7 (d,w::ws)) (w:=w) (ws:=ws) (pre:=qe++[.str u]) (post:=rT) (Z++(aa5 j gI++[u])) v2 (O (.p (.str u))) D (by simp) (by rw[aX,hb,aX,yN,aG,NI u1];rfl) (by rw[aq,b7,hf,aq,b7,yO];show _::_++([]++ag7 qU [Pv.str u])=_;rw[show ag7 qU [Pv.str u]=[Pv.str u]from cD (Ub u1)];rfl) (by rw[<-vl I,bt,bt,mU,aa];show _<=13+12*(_+1);lia) C;rw[<-vl I,<-er]at z;exact z
      exact z _
    . cases j with|mk Z v p4 p7 I hb hf U f=>
      have hf:(Z.map Pv.str).filter qU=(w::ws).map .str:=hf;have U:(cN Z).length<=13+12*(ws.map Pv.str).length:=U;rw[ae]at U;refine aw (kx f rfl) λv2 K C b=>?_;have b:(K:Int)<8:=b;have(m,ms,em,ml,m10,mr,mt):=QK (k:=K) (by lia);refine bC em ?_;refine aw (dW (n:=(eB a).length+m.length) (by show _<=1000000;lia)) ?_;refine aw (dW (n:=(eB a++m).length+(cN Z).length) (by rw[bt];show _<=1000000;lia)) ?_;refine aw (kx C rfl) λv3 o hv3 F=>?_;have F:(o:Int)<2:=F;refine aw (Dq F (by ext)) ?_;refine aw (dW (n:=(eB a++m++cN Z).length+(sp o).length) (by rw[bt,bt,mU];show _<=1000000;lia)) ?_;refine aw (dW (n:=(eB a++m++cN Z++sp o).length+("\n":Str).length) (by rw[bt,bt,bt,mU];show _+1<=1000000;lia)) ?_;have nb':(Z++aa5 o gI).all nb=true:=by rw[aX,hb,yN];rfl
      have et:eB a++m++cN Z++sp o++"\n"=eB (a++ms++[cN (Z++aa5 o gI)]):=by rw[mt,vT,vT,<-xb,<-K1 I,vT]
      have z:∀G,Tf ((L.map c7).map .str) M (pre++[.str (c7 (d,w::ws))]) ((B.map c7).map .str) [O (.p (.lst ((L.map c7).map .str))),O (.r 0),O (.p (.str (eB a++m++cN Z++sp o++"\n"))),O (.p (.str (c7 (d,w::ws)))),G,O (.p (.lst ((w::ws).map .str))),O (.p (.str (cN Z))),O (.p (.str m))] [.lst [.int v3]]:=λG=>by
       have z:=Tf.mk (X:=(L.map c7).map .str) (M:=M) (pre:=pre++[.str (c7 (d,w::ws))]) (post:=(B.map c7).map .str) (A++[(d,w::ws)]) B (a++ms++[cN (Z++aa5 o gI)]) v3 (O (.p (.str (c7 (d,w::ws))))) G (O (.p (.lst ((w::ws).map .str)))) (O (.p (.str (cN Z)))) (O (.p (.str m))) (by rw[E,aD];rfl) rfl (λy H=>?_) ?_ ?_ hv3;. rw[<-et]at z;exact z
       . rcases bf.mp H with H|H
         . rcases bf.mp H with H|H;. exact N y H
           . exact m10 y H
         . rw[aV.mp H];exact sx nb'
       . rw[ze,ze,mr,aI,hr,aq];congr 1;unfold BN;rw[aH,b8,SW (by simp[I]) nb',aq,b7,yO,aI,hf];refine cD ?_;exact UE w1
       . rw[<-et,bt,bt,bt,bt,mU,aa];show _+1<=1400*(_+1);lia
      exact z _
  . cases j with|mk A B a v p3 p4 p5 p6 p7 E eb N hr U f=>cases B with|cons l B=>cases eb|nil=>
    rw[aI]at E;subst E;have l2:=el.abb;have zl:(eB a).length<=700000:=by lia
    refine aw (dW (aE zl (by ext))) (aw (kx f rfl) λY k Fq hk=>?_);have hk:(k:Int)<2:=hk;refine(aw (c:=xQ (k:Nat) (b2 !jx (.str (eB a)) (.str ""))) (agY (by cases jx (.str (eB a)) (.str "")<;>decide) (by cases jx (.str (eB a)) (.str "")<;>decide)) (aw (dW (aE zl (by ext))) ?_));have kQ:∀i:Int,i=((eB a).length:Nat)->Q (.p (.str (ae9 (eB a) af (O i)))) [.lst [.int Y]]:=λi hi=>by rw[hi,Za];exact q M _ Y pm gM (by lia) ((Nu N).trans hr) (by lia) Fq
    show Q (.p (.str (ae9 (eB a) af (O (((eB a).length:Nat)-(k:Nat)*b2 !jx (.str (eB a)) (.str "")))))) [.lst [.int Y]];cases he:jx (.str (eB a)) (.str "")with|true=>exact kQ _ (by show _-(k:Int)*0=_;lia)|false=>
      have hn:a ≠[]:=λz=>by rw[z,Fk]at he;rw[gK,aQ.mpr rfl]at he;cases he
      rcases k with _|_|k;. exact kQ _ (by show _-(0:Int)*1=_;lia)
      . have e1:eB a=Fv a++⟨#[10]⟩:=by unfold eB;rw[pZ hn (by simp),AV];show _++(_++gI)=_;rw[Q_]
        have E:((eB a).length:Int)-((0+1:Nat):Int)*b2 (!a')=((Fv a).length:Nat):=by rw[e1,bt];show(((Fv a).length+1:Nat):Int)-1*1=_;lia
        rw[E,e1,Zb];exact q M _ Y pm gM (by lia) ((Zm hn N).trans hr) (by rw[e1,bt]at zl;lia) Fq
      . lia
theorem El.same:∀{L:List Ln}{a b:ϐ},W2.l0 a L=O b->El a L L b|[],_,_,h=>by cases h;exact .nil|(_,[])::_,_,_,h=>by cases h|(d,w::ws)::L,a,b,h=>by have h:(W2.vh a w).bind (λk=>W2.l0 k L)=O b:=h;cases e:W2.vh a w with|none=>rw[e]at h;cases h|some k=>rw[e]at h;exact .cons (m:=[(d,w::ws)]) (.keep e) (El.same h)
def acd(t:zG a' P L):zG J P L:=((Mi _ _ t).2 (El.same ((Mi _ _ t).1 []))).2
def hC{L:List Ln}(h:L.all oR):BN (L.map c7)=L.map λl=>wl l.2:=by induction L with|nil=>rfl|cons l L i=>
  have(H,a):=ah (show(oR l&&L.all oR)=J from h);have(_,g,_,G):=nA H;rw[show(l::L).map c7=[c7 l]++L.map c7 from rfl,ze,i a];have e:BN [c7 l]=[wl l.2]:=by unfold BN;rw[aH,b8,yq (yr H)];have(d,ws):=l;cases ws with|nil=>exact absurd (show 1<=0 from g) (by ext)|cons w ws=>exact cD (UE (ah (show(wS w&&ws.all wS)=J from G)).1)
  rw[e];rfl
def YV(h:oR l):10∉(c7 l).cps.toList:=by
 have(_,g,_,G):=nA h;have H:l.2 ≠[]:=λz=>by rw[z]at g;exact absurd g (by ext)
 unfold c7 ind;rw[uZ H];exact sx (by rw[aX,show(aa5 (2*l.1) (⟨#[]⟩:Str)).all nb=J from yN _,ai.mpr λw a=>NI (ai.mp G w a)];rfl)
inductive cTx:Ct|mk{P:Pv}{L:List Ln}{v:Int}{Q:Dv->Hs->Prop}{xc:XP}(t:zG a' P L)(hz:L.length<=250)(hv:fS v)(q:∀(M:List Ln)(z:Str)(v':Int),zG J P M->M.all oR->M.length<=500->cO z=M.map (λl=>wl l.2)->z.length<=900000->fS v'->Q (.p (.str z)) [.lst [.int v']]):cTx [.p P,.r 0] [.lst [.int v]] Q xc
def YY{M:List Ln}(h:M.all oR):(M.map λl=>wl l.2).all Hr=true:=by
 refine ai.mpr λx a=>?_;have(l,b,rfl):=a0.mp a;have gl:=ai.mp h l b;have(_,_,g,_):=nA gl;have G:=Wk gl;show((l.2.map Pv.str).all gW&&aa4 (l.2.map Pv.str).length n9)=J;rw[ap.mpr (show(l.2.map Pv.str).length<=n9 by rw[ae];exact aE g (by ext)),ai.mpr λy c=>?_];.rfl
 .have(w,d,rfl):=a0.mp c;have(e,H):=ah (ai.mp G w d);exact UW e λn=>by rw[n]at H;exact H
def WH(B:LX ca W)(S:SX W):DX ca W 65 22 cTx:=by refine B.e (k:=20) 3 J [(30,mq),(61,cPL),(64,cSp)] [] (.seq (.set 2 (.cl 61 [] (.u 0))) (.seq (.iff (.cmp vW (.cl 30 [0] (.u2 1 (.i 4))) (.i 0)) (.re (.cl 64 [0] (.u2 2 1))) .nil) (.re (.mt Le (.s "") (.u (.comp 1 [] (.one 0) (.s 2) .no (.b2 cC 0 (.s "\n")))))))) S.DS rfl ((my B S).le (by lia),(afs B S).le (by lia),(π B S).le (by lia),trivial) trivial λds h Q x c=>?_;cases c with|@mk P L v Q x t a f q=>
 refine(rfl,?_);refine aw rfl (.mk t (by lia) ?_);refine aw (kx f rfl) λd k F X=>?_;refine aw rfl (bB (λ_=>?_) λ_=>?_);.exact .mk t a F λM z j m G o tr Z A=>q M z j m G o tr Z A
 .have g:=YB t;have r:∀l∈L,(c7 l).length<=1140:=λl H=>by have(h1,_,Y,C):=nA (ai.mp g l H);have:=tD (ws:=l.2) λw D=>zy (ai.mp C w D);unfold c7;rw[bt,yE];lia
  refine eX (λy=>.str (d8 y++"\n")) rfl (λy I=>?_) ?_;.have(z,b,rfl):=a0.mp I;have(l,H,rfl):=a0.mp b;have:=r l H;exact λR q=>aw (dW (n:=(c7 l).length+("\n":Str).length) (by show _+1<=1000000;lia)) q
  have N:((L.map c7).map Pv.str).map (λy=>Pv.str (d8 y++"\n"))=((L.map c7).map λl=>l++⟨#[10]⟩).map .str:=by rw[bK,bK,bK,bK,AV];rfl
  rw[N];have T:∀K:List Ln,(∀l∈K,(c7 l).length<=1140)->(((K.map c7).map λl=>l++(⟨#[10]⟩:Str)).map (·.length)).sum<=1141*K.length:=λK=>by induction K with|nil=>exact λ_=>ay _|cons l K U=>intro h;have h1:=h l au;have h2:=U λl H=>h l (ao _ H);rw[aH,aH,aH,cm,ag,bt];show(c7 l).length+1+_<=_;lia
  have sL:=T L r;refine bC qA (aw (ap.mpr ?_) ?_);.rw[ae,ae];show _+L.length*0<=_;refine aE (show _<=300000 by lia) (by ext)
  have E:ae2 "" ((L.map c7).map λl=>l++(⟨#[10]⟩:Str))=eB (L.map c7):=by rw[vw,show("":Str)=⟨#[]⟩ from aQ.mp (by ext),uH];rfl
  have el:(eB (L.map c7)).length<=300000:=by rw[<-E,vw];refine aE (StrLaws.join_length_le _ _) ?_;rw[ae,ae];show _+L.length*0<=_;lia
  show Q (.p (.str (ae2 "" ((L.map c7).map λl=>l++(⟨#[10]⟩:Str))))) [.lst [.int d]];rw[E];exact q L _ d (acd t) g (by lia) ((Nu λz a=>by have(l,H,rfl):=a0.mp a;exact YV (ai.mp g l H)).trans (hC g)) (by lia) F
end
def Run.app(h:Run s a o)(e:o=O s')(k:Run s' b o'):Run s (a++b) o':=by induction h with|nil=>cases e;exact k|cons E t i=>exact .cons E (i e)|no E=>cases e
def Wp(h:BY vs o):Vs (o.flatten.map Pv.str) vs:=by induction h with|nil=>exact .nil|@cons v ws vs o t k i=>have z:=t.rd.val (o.flatten.map Pv.str);rw[cx,aq];cases ws with|nil=>exact absurd rfl t.len.2|cons y ws=>exact .cons z i
def py(w:Str)(ks:ϐ):Bool:=ks.all λk=>bif aS w "call"then !aS k "value"else !aS k "values"
def ace(h:w∈zL)(e:lk w dI=O ks):py w ks/\wb ks=ks:=by
 have z:∀w∈zL,(match lk w dI with|some ks=>py w ks&&decide (wb ks=ks)|none=>J)=true:=by ext
 have z:=z w h;rw[e]at z;exact((ah z).1,aW (ah z).2)
def ach{ks:ϐ}{xs:ϑ}(h:NS ks xs):∀{zs ws:ϐ},py w ks=J->rA w xs zs ws->NT ks (ws.map .str) xs []:=by induction h with
 |nil=>intro zs ws _ t;cases t;exact .nil|@nm k x ks xs n N n3 a t i=>intro zs ws c p;cases p with|nm b p=>exact .cons (.r_ n N (by show(match aS k "number"with|true=>_|false=>_)=_;rw[a])) (i (ah c).2 p)
 |@val ks y xs t i=>intro zs ws c p;cases p with|val H v p=>rw[aq];exact .cons (.val (v.rd.val _)) (i (ah c).2 p)|vals H l v=>have c:=(ah c).1;rw[H]at c;exact absurd c (by ext)
 |@vals s=>intro zs ws c p;cases p with|val H v p=>have c:=(ah c).1;rw[H]at c;exact absurd c (by ext)|vals H l v=>exact .cons (.vals (by lia) (Wp v)) .nil
def abg(H:w∈zL)(e:lk w dI=O ks)(k:NS ks xs)(t:rA w xs zs ws)(a:jv 3 s.sec=a')(z:(vo s).length<100000):rp s ((w::ws).map .str) (O (xJ (k9 s) (.tup (.str w::xs)))):=by have(c,h):=ace H e;have p:=ach k c t;exact .mk (.row (.mk e a (by rw[h];exact p) (.pl h z)))
def FD{w:Str}(a:w="if"\/w="while")(t:VW 4 v ws)(h:jv 3 s.sec=a')(H:s.ops.length<100000):rp s ((w::ws).map .str) (O (Q4 (k9 s) [.p (.str w),.p v])):=by
 have p:NT ["value"] (ws.map .str) [v] []:=by have z:=t.rd.val [];rw[aI]at z;exact .cons (.val z) .nil
 rcases a with rfl|rfl;.exact .mk (.row (.mk (ks:=["value","rows","rows"]) rfl h p (.op (by ext) (show 1<=2 by ext) H)))
 .exact .mk (.row (.mk (ks:=["value","rows"]) rfl h p (.op (by ext) (show 1<=2 by ext) H)))
def Xt(h:jv 3 s.sec=a')(H:s.ops.length<100000):rp s [.str "try"] (O (Q4 (k9 s) [.p (.str "try")])):=.mk (.row (.mk (ks:=["rows","box","rows"]) rfl h (show NT (wb ["rows","box","rows"]) [] [] []from .nil) (.op (by ext) (by ext) H)))
def lw(L:List Ln):ϑ:=L.map λl=>wl l.2
def uL(L M:List Ln):lw (L++M)=lw L++lw M:=aq ..
def Oq(s:Rp)(xs:ϑ):Rp:=xs.foldl (λs x=>xJ (k9 s) x) s
theorem B1:∀(xs b_:ϑ),Oq (sec,bs,ls,fs,r,(pre,b_)::t) xs=(sec,bs,ls,fs,r,(pre,b_++xs)::t)|[],b_=>by rw[aI];rfl|x::xs,b_=>by show Oq (sec,bs,ls,fs,r,(pre,b_++[x])::t) xs=_;rw[B1 xs,aD];rfl
theorem EG:∀(xs r:ϑ),∃a,Oq (sec,bs,ls,fs,r,[]) xs=(a,bs,ls,fs,r++xs,[])|[],r=>(sec,by rw[aI];rfl)|x::xs,r=>by have(k,e):=EG (sec:=3) (bs:=bs) (ls:=ls) (fs:=fs) xs (r++[x]);rw[aD]at e;exact(k,e)
structure Gs(s:Rp)(n k:Nat):Prop where
 c:jv 3 s.sec=a'
 t:(vo s).length+k<=9000o:s.ops.length+n<=100
theorem Gs.k9{s:Rp}{n k:Nat}(h:Gs s n k):Gs (k9 s) n k:=by have(S,bs,l,fs,r,b):=s;cases b with|nil=>exact(show jv 3 3=a' by ext,h.t,h.o)|cons a t=>exact h
def Gs.add(h:Gs s n k)(H:m+1<=k):Gs (xJ s x) n m:=by have(S,bs,l,fs,R,b):=s;have(c,t,o):=h;cases b with|nil=>refine(c,?_,o);show(R++[x]).length+m<=9000;have t:R.length+k<=9000:=t;rw[aa];show R.length+1+m<=_;lia|cons a r=>refine(c,?_,o);show(a.2++[x]).length+m<=9000;have t:a.2.length+k<=9000:=t;rw[aa];show a.2.length+1+m<=_;lia
def uK{b_:ϑ}(h:(aS w "try"&&aa6 (pre.length+2) 2)=a')(H:aS w "def"=a')(c:pre.all ny)(z:(vo (sec,bs,ls,fs,r,t)).length<100000):rp (sec,bs,ls,fs,r,(.p (.str w)::pre,b_)::t) [.str "end"] (O (xJ (sec,bs,ls,fs,r,t) (.tup (.str w::(pre.map Fi++.tup b_::oM w (pre.length+2)))))):=.mk (.fin (.mk rfl h c (.row H z)))
def vD(h:VW n v ws):∃ys,v=.tup ys:=by cases h<;>exact(_,rfl)
def Rd(n:Nat)(x:Pv)(L:List Ln):Prop:=1<=L.length/\∀s,Gs s n L.length->Run s (lw L) (O (xJ (k9 s) x))
def Eg(H:∀x L,R x L->Rd n x L)(h:qr R xs L):∀s,Gs s n L.length->Run s (lw L) (O (Oq s xs)):=by induction h with|nil=>exact λs _=>.nil|@cons x xs L M a t i=>intro s g;have(l1,r):=H _ _ a;rw[aa]at g;rw[uL];refine Run.app (r s (g.c,by have:=g.t;lia,g.o)) rfl (i _ (g.k9.add (by lia)))
def MK:∀n d x L,RL J n d x L->Rd n x L:=by intro n;induction n with|zero=>exact λ_ _ _ h=>h.elim|succ n I=>
  intro d x L h;have h:lU J (RL J n) d x L:=h;have sub:∀{X:ϑ}{A:List Ln}{S:Int}{bs l fs r:ϑ}{t:List (List Pc×ϑ)}(pre:List Pc),qr (RL J n (d+1)) X A->Gs (S,bs,l,fs,r,t) (n+1) A.length->Run (S,bs,l,fs,r,(pre,[])::t) (lw A) (O (S,bs,l,fs,r,(pre,X)::t)):=λ{X A S bs l fs r t}pre a g=>by have z:=Eg (I (d+1)) a (S,bs,l,fs,r,(pre,[])::t) (g.c,by show 0+_<=9000;have:=g.t;lia,by have:=g.o;show t.length+1+n<=100;have this:t.length+(n+1)<=100:=this;lia);rw[B1]at z;exact z
  refine(by cases h<;>exact fH (bA _),λs G=>?_);have g:=G.k9;cases h with|pl H m j t=>have(K,e,k):=j;exact .cons (abg H e k t G.c (by have:=G.t;lia)) .nil|@N2 v ws X A t a=>refine .cons (FD (.inl rfl) t G.c (by have:=G.o;lia)) ?_;have(Y,rfl):=vD t;rw[aq];rw[ag,aa]at g;generalize k9 s=f at g;have(S,bs,l,fs,r,i):=f;have z:=g.t;refine Run.app (sub _ a (g.c,by lia,g.o)) rfl (.cons (uK rfl (by ext) rfl (by lia)) .nil)|@h_ v e ws X A p t a=>refine .cons (FD (.inl rfl) t G.c (by have:=G.o;lia)) ?_;have(Y,rfl):=vD t;rw[aq];rw[ag,aa]at g;generalize k9 s=f at g;have(S,bs,l,fs,r,i):=f;have z:=g.t;refine Run.app (sub _ a (g.c,by lia,g.o)) rfl (.cons (.mk (.Θ (.mk rfl))) (.cons (uK rfl (by ext) rfl (by lia)) .nil))|@WX v y ws X Y A B t a b=>refine .cons (FD (.inl rfl) t G.c (by have:=G.o;lia)) ?_;have(Z,rfl):=vD t;rw[aq];rw[ag,aa,ag,aa]at g;generalize k9 s=f at g;have(S,bs,l,fs,r,i):=f;have z:=g.t;refine Run.app (sub _ a (g.c,by lia,g.o)) rfl (.cons (.mk (.Θ (.mk rfl))) ?_);rw[aq];exact Run.app (sub _ b (g.c,by lia,g.o)) rfl (.cons (uK rfl (by ext) rfl (by lia)) .nil)|@ZH v ws X A t a=>refine .cons (FD (.inr rfl) t G.c (by have:=G.o;lia)) ?_;have(Y,rfl):=vD t;rw[aq];rw[ag,aa]at g;generalize k9 s=f at g;have(S,bs,l,fs,r,i):=f;have z:=g.t;refine Run.app (sub _ a (g.c,by lia,g.o)) rfl (.cons (uK rfl (by ext) rfl (by lia)) .nil)|@wB x X Y A B q a b=>refine .cons (Xt G.c (by have:=G.o;lia)) ?_;rw[aq];rw[ag,aa,ag,aa]at g;generalize k9 s=f at g;have(S,bs,l,fs,r,i):=f;have z:=g.t;refine Run.app (sub _ a (g.c,by lia,g.o)) rfl (.cons (.mk (.cat (.ok rfl))) ?_);rw[aq];exact Run.app (sub _ b (g.c,by lia,g.o)) rfl (.cons (uK rfl (by ext) rfl (by lia)) .nil)
def I'(h:i<=999999):A1 (.str (jK i))/\oY (.str (jK i))=.int (i:Nat):=by
 refine(?_,?_);.show(gW (.str (jK i))&&j8 (jK i))=J;rw[Rs h,UW (Uj h) λ_=>by rw[FL h];rfl];rfl
 .show(match aa7 (jK i)with|some n=>Pv.int n|none=>.non)=_;rw[FL h]
theorem Ul:∀{l:Ϙ},(l.all λi=>aa4 i 999999)=J->((l.map jK).map Pv.str).all A1/\((l.map jK).map Pv.str).map oY=l.map λi=>.int (i:Nat)|[],_=>(rfl,rfl)|i::l,h=>by have(H,e):=ah (show(aa4 i 999999&&l.all λi=>aa4 i 999999)=J from h);have(a,b):=I' (ap.mp H);have(c,d):=Ul e;rw[aH,aH,aG,aH,a,b,c,d];exact(rfl,rfl)
theorem MN:∀(bs:List (Str×Nat))(a:ϑ),bs.all Z0=J->a.length+bs.length<=100->Run (0,a,[],[],[],[]) (lw (bs.map zH)) (O (0,a++bs.map EU,[],[],[],[]))|[],a,_,_=>by rw[b8,b8,aI];exact .nil|b::bs,a,h,l=>by have(H,c):=ah (show(Z0 b&&bs.all Z0)=J from h);have(x,y):=I' (ap.mp (ah H).2);rw[ag]at l;have z:=MN bs (a++[EU b]) c (by rw[aa];show a.length+1+_<=_;lia);rw[aD]at z;have t:=GU.mk (s:=(0,a,[],[],[],[])) (x:=.str b.1) (y:=.str (jK b.2)) (r:=[]) rfl (show jv 0 0=a' by ext) x (show a.length<=100 by lia);rw[y]at t;exact .cons (.mk (.box t)) z
def agQ(h:jv 1 k=a'):jv 2 k=false:=a8.mpr λz=>by have z:=cw.mp z;rw[cw.mpr (show(1:Int)<k by lia)]at h;cases h
def agR(h:jv 2 k=a'):jv 3 k=false:=a8.mpr λz=>by have z:=cw.mp z;rw[cw.mpr (show(2:Int)<k by lia)]at h;cases h
theorem MO:∀(ls:List (Str×Ϙ))(a:ϑ)(k:Int),jv 1 k=a'->ls.all l_->a.length+ls.length<=100->∃K,jv 1 K=a'/\Run (k,b,a,[],[],[]) (lw (ls.map yK)) (O (K,b,a++ls.map FE,[],[],[]))|[],a,k,H,_,_=>(k,H,by rw[b8,b8,aI];exact .nil)|x::ls,a,k,H,h,l=>by have(e,f):=ah (show(l_ x&&ls.all l_)=J from h);have(c,d):=Ul (dG e).2.2;rw[ag]at l;have(K,T,z):=MO ls (a++[FE x]) 1 (by ext) f (by rw[aa];show a.length+1+_<=_;lia);rw[aD]at z;have t:=GY.mk (s:=(k,b,a,[],[],[])) (x:=.str x.1) rfl H c (show a.length<=100 by lia);rw[d]at t;exact(K,T,.cons (.mk (.list t)) z)
theorem MP:∀(os:ϐ)(s:ϑ),s.length+os.length<=100->Run (k,b,l,f,r,[([.p (.str "def"),.p nm,.p ps,.l s],[])]) (lw (os.map FV)) (O (k,b,l,f,r,[([.p (.str "def"),.p nm,.p ps,.l (s++os.map .str)],[])]))|[],s,_=>by rw[b8,b8,aI];exact .nil|o::os,s,h=>by rw[ag]at h;have z:=MP (k:=k) (b:=b) (l:=l) (f:=f) (r:=r) (nm:=nm) (ps:=ps) os (s++[.str o]) (by rw[aa];show s.length+1+_<=_;lia);rw[aD]at z;exact .cons (.mk (.own (.mk rfl (by lia)))) z
def YZ{fs:ϑ}{F:List Ln}(h:qr (NR J) fs F):∀(a:ϑ)(k:Int),jv 2 k=a'->F.length<=500->a.length+fs.length<=100->∃K,jv 2 K=a'/\Run (k,b,l,a,[],[]) (lw F) (O (K,b,l,a++fs,[],[])):=by induction h with|nil=>exact λa k H _ _=>(k,H,by rw[aI];exact .nil)|@cons f fs L M x t i=>intro a k H c d;rw[aa]at c;rw[ag]at d;have(K,T,z):=i (a++[f]) 2 (by ext) (by lia) (by rw[aa];show a.length+1+_<=_;lia);rw[aD]at z;refine(K,T,?_);rw[uL];refine Run.app ?_ rfl z;cases x with|@mk x P os r L e g o lp lo t=>rw[ag,aa,aa]at c;refine .cons (.mk (.dfn (.mk rfl H))) ?_;rw[aq,aq];refine Run.app (MP os [] (by show 0+_<=_;lia)) rfl ?_;have y:=Eg (MK 5 1) t (2,b,l,a,[],[([.p (.str "def"),.p (.str x),.p (.lst (P.map .str)),.l (os.map .str)],[])]) (show jv 3 2=a' by ext,by show 0+_<=_;lia,by show 1+5<=100;decide);rw[B1]at y;refine Run.app y rfl (.cons (.mk (.fin (.mk rfl rfl rfl (.df (by ext) (show a.length<1000 by lia))))) .nil)
def Y0(h:zG J P M)(H:M.length<=500):∃s,Run s0 (lw M) (O s)/\s.ops=[]/\P=.tup [.tup s.bs,.tup s.ls,.tup s.fs,.tup s.rs]:=by cases h with|@mk bs ls fs c F R d L p m n f r=>rw[aa,aa,aa]at H;have(K,e,g):=MO (b:=bs.map EU) ls [] 0 (by ext) p (by show 0+_<=_;lia);have(k,i,j):=YZ (b:=bs.map EU) (l:=ls.map FE) f [] K (agQ e) (by lia) (by show 0+_<=_;lia);have a:=Eg (MK 5 0) r (k,bs.map EU,ls.map FE,fs,[],[]) (agR i,by show 0+_<=_;lia,by show 0+5<=100;decide);have(o,E):=EG (sec:=k) (bs:=bs.map EU) (ls:=ls.map FE) (fs:=fs) c [];rw[E]at a;rw[uL,uL,uL];exact(_,Run.app (MN bs [] d (by show 0+_<=_;lia)) rfl (Run.app g rfl (Run.app j rfl a)),rfl,rfl)
def WF(k:Str):Bool:=!aS k "rows"&&(!aS k "value"&&(!aS k "values"&&!aS k "number"))
def pk(w:Str):ϐ->Bool|[]=>J|k::K=>(aS k "value"&&!aS w "call"||(aS k "values"&&(aS w "call"&&K.isEmpty)||WF k))&&pk w K
def MM(e:lk w dI=O ks):w∈zL/\pk w ks/\ks.length<=3\/w="if"/\ks=(["value","rows","rows"]:ϐ)\/w="while"/\ks=(["value","rows"]:ϐ)\/w="try"/\ks=(["rows","box","rows"]:ϐ):=by
 have(p,h,rfl):=yI e;have z:∀p∈dI,(match lk p.1 dI with|some ks=>decide (p.1∈zL/\pk p.1 ks=J/\ks.length<=3\/p.1="if"/\ks=(["value","rows","rows"]:ϐ)\/p.1="while"/\ks=(["value","rows"]:ϐ)\/p.1="try"/\ks=(["rows","box","rows"]:ϐ))|none=>J)=true:=by ext
 have z:=z p h;rw[e]at z;exact aW z
theorem BD:∀{vs:ϑ},vs.all (val 4 bs ls)=J->∃o,BY vs o|[],_=>([],.nil)|v::vs,h=>by have(H,a):=ah (show(val 4 bs ls v&&vs.all (val 4 bs ls))=J from h);have(ws,t):=zx H;have(o,k):=BD a;exact(_,.cons t k)
def LW(h:(a||b)):a\/b=true:=Bool.or_eq_true_iff.mp h
def eF(h:(!a)):a=false:=by cases a;rfl;cases h
theorem Uv:∀{ks:ϐ}{r:ϑ},pk w ks=J->r.length=ks.length->(iT (ks.map .str) r).all (rR f s)->(aS w "call"=J->∀pre vs,r=pre++[.tup vs]->vs.length<=3)->NS ks r/\∃zs ws,rA w r zs ws
 |[],[],_,_,_,_=>(.nil,[],[],.nil)|[],_::_,_,h,_,_=>by cases h|_::_,[],_,h,_,_=>by cases h|k::ks,p::r,b,l,c,v=>by
  have(H,d):=ah b;have(a,i):=ah (show(oA f s k p&&(iT (ks.map .str) r).all (rR f s))=J from c);have l:r.length=ks.length:=Nat.succ.inj l;have(g,zs,ws,G):=Uv d l i λj pre vs e=>v j (p::pre) vs (by rw[e];rfl);rcases LW H with H|H;.have(e1,e2):=ah H;have e1:=aQ.mp e1;subst e1;have(u,t):=zx (show val 4 s.bs s.ls p=J from a);have(y,rfl):=vD t;exact(.val g,_,_,.val (eF e2) t G)
  rcases LW H with H|H;.have(e1,e2,e3):=dG H;have e1:=aQ.mp e1;subst e1;cases ks with|cons _ _=>cases e3|nil=>cases r with|cons _ _=>cases l|nil=>
   have(m,n):=ah (show(pY p&&(rk p).all (val 4 s.bs s.ls))=J from a);cases p<;>first|(cases m;done)|skip
   rename_i vs;have(q,t):=BD (show vs.all (val 4 s.bs s.ls)=J from n);exact(.vals,_,_,.vals e2 (v e2 [] vs rfl) t)
  .have(e1,e2,e3,E):=iN H;have e1:=eF e1;have e2:=eF e2;have e3:=eF e3;unfold oA at a;rw[e1,e2,e3]at a;have(x,rfl,o):=p9 (ah a).1;exact(.nm e2 e3 e1 (eF E) g,_,_,.nm o G)
theorem Gz(H:∀x,f x=J->∃L,R x L/\L.length<=3*g x):∀{xs:ϑ},xs.all f=J->∃L,qr R xs L/\L.length<=3*sum g xs|[],_=>([],.nil,bA _)|x::xs,h=>by have(b,c):=ah (show(f x&&xs.all f)=J from h);have(L,a,l):=H x b;have(M,t,m):=Gz H c;refine(L++M,.cons a t,?_);rw[aa];show _<=3*(g x+sum g xs);lia
def W'(hu:∀c∈s.us,sE c<=3)(h:Cb s r)(e:r=pre++[.tup vs]):vs.length<=3:=by
 unfold Cb at h;split at h
 .rename_i a g u;split at h;.rename_i c E;have e:=List.append_inj_right' (show[a,g]++[Pv.tup u]=pre++[.tup vs]from e) rfl;injection e with e _;injection e with e;subst e;have:=hu c (yh E);have:=cB.mp h;lia
  .cases h
 .cases h
def ML(hu:∀c∈s.us,sE c<=3):∀(n:Nat)(d:Nat)(x:Pv),row n s x=J->∃L,RL a' n d x L/\L.length<=3*eu n x:=by intro n;induction n with|zero=>exact λ_ _ h=>xi h|succ n I=>intro d x q;have(w,r,rfl,h):=u0 q;clear q;cases E:lk w dI with|none=>rw[E]at h;cases h|some K=>
  rw[E]at h;have(h1,_,i,f):=iN h;rw[ae]at h1;have h1:=K6 h1;have sub:∀{p:Pv},b5 (row n s) p=J->∃xs L,p=.tup xs/\qr (RL a' n (d+1)) xs L/\L.length<=3*sum (eu n) xs:=λ{p}z=>nR z λxs j=>by have(L,t,l):=Gz (I (d+1)) j;exact(xs,L,rfl,t,l)
  rcases MM E with ⟨C,D,F⟩|⟨rfl,rfl⟩|⟨rfl,rfl⟩|⟨rfl,rfl⟩
  .have(k,Z,ws,t):=Uv D h1 i λH pre N e=>by
    rcases LW f with f|f;.rw[H]at f;cases f
    .exact W' hu f e
   refine(_,lU.pl C (by rw[h1];exact F) (K,E,k) t,?_);show 1<=3*(1+_);lia
  .have(v,a,b,rfl):=l3 h1;have(g,G,m,_):=iN (show(val 4 s.bs s.ls v&&(b5 (row n s) a&&(b5 (row n s) b&&J)))=J from i);have(U,t):=zx g;have(xs,A,rfl,T,u):=sub G;have(Y,B,rfl,o,M):=sub m;have H:eu (n+1) (.tup [.str "if",v,.tup xs,.tup Y])=1+(sum (eu n) xs+(sum (eu n) Y+0)):=rfl;rw[H];cases Y with|nil=>refine(_,lU.N2 t T,?_);rw[ag,aa];show A.length+1+1<=_;lia|cons y Y=>refine(_,lU.WX t T o,?_);rw[ag,aa,ag,aa];show A.length+(B.length+1+1)+1<=_;lia
  .have(v,a,rfl):=l2 h1;have(g,G,_):=dG (show(val 4 s.bs s.ls v&&(b5 (row n s) a&&J))=J from i);have(U,t):=zx g;have(xs,A,rfl,T,u):=sub G;have H:eu (n+1) (.tup [.str "while",v,.tup xs])=1+(sum (eu n) xs+0):=rfl;rw[H];refine(_,lU.ZH t T,?_);rw[ag,aa];show A.length+1+1<=_;lia
  .have(a,v,b,rfl):=l3 h1;have(g,G,m,_):=iN (show(b5 (row n s) a&&(aY v&&g8 v s.bs&&(b5 (row n s) b&&J)))=J from i);have(x,rfl,j):=p9 (ah G).1;have(xs,A,rfl,T,u):=sub g;have(Y,B,rfl,o,M):=sub m;have H:eu (n+1) (.tup [.str "try",.tup xs,.str x,.tup Y])=1+(sum (eu n) xs+(sum (eu n) Y+0)):=rfl;rw[H];refine(_,lU.wB j T o,?_);rw[ag,aa,ag,aa];show A.length+(B.length+1+1)+1<=_;lia
theorem Tn:∀{b:ϑ},b.all iG=J->∃bs:List (Str×Nat),b=bs.map EU/\bs.all Z0=J
 |[],_=>([],rfl,rfl)|x::b,h=>by
  have(H,a):=ah (show(iG x&&b.all iG)=J from h);have(bs,rfl,c):=Tn a;unfold iG at H;split at H;.have(g,G):=ah H;have(z,rfl,d):=p9 g;have(i,rfl,e):=DB G;refine((z,i)::bs,rfl,?_);show(aY (.str z)&&aa4 i 999999&&bs.all Z0)=J;rw[d,c,ap.mpr e];rfl
  .cases H
theorem FN:∀{b:ϑ},b.all gD=J->∃l:Ϙ,(b=l.map λi=>Pv.int (i:Nat))/\(l.all λi=>aa4 i 999999)=J|[],_=>([],rfl,rfl)|x::b,h=>by have(H,a):=ah (show(gD x&&b.all gD)=J from h);have(l,rfl,c):=FN a;have(i,rfl,d):=DB H;refine(i::l,rfl,?_);show(aa4 i 999999&&l.all λi=>aa4 i 999999)=J;rw[c,ap.mpr d];rfl
theorem Dw:∀{b:ϑ},b.all aY=J->∃l:ϐ,b=l.map Pv.str/\l.all N6=J|[],_=>([],rfl,rfl)|x::b,h=>by have(H,a):=ah (show(aY x&&b.all aY)=J from h);have(l,rfl,c):=Dw a;have(z,rfl,d):=p9 H;refine(z::l,rfl,?_);show(aY (.str z)&&l.all N6)=J;rw[c,d];rfl
def jw(h:lQ m g x):∃xs:ϑ,x=.tup xs/\(xs.length:Int)<=m/\xs.all g=true:=by cases x<;>first|(cases h;done)|exact(_,rfl,bM.mp (ah h).1,(ah h).2)
theorem T8:∀{b:ϑ},b.all isList=J->∃bs:List (Str×Ϙ),b=bs.map FE/\bs.all l_=J
 |[],_=>([],rfl,rfl)|x::b,h=>by
  have(H,a):=ah (show(isList x&&b.all isList)=J from h);have(bs,rfl,c):=T8 a;unfold isList at H;split at H;.have(G,g):=ah H;have(z,rfl,d):=p9 G;have(_,rfl,g,e):=jw g;have(l,rfl,f):=FN e;rw[ae]at g;refine((z,l)::bs,rfl,?_);show(aY (.str z)&&(aa4 l.length 12&&l.all λi=>aa4 i 999999)&&bs.all l_)=J;rw[d,c,f,ap.mpr (by lia)];rfl
  .cases H
def vp(h:b5 g x):∃xs:ϑ,x=.tup xs/\xs.all g=true:=by cases x<;>first|(cases h;done)|exact(_,rfl,h)
def AA(hu:∀c∈(rk f).map lu,sE c<=3)(h:eQ g)(H:b_ 5 (jM b l f (lX g) J) (mS g)):∃L,NR a' g L/\L.length<=3*iS g+3:=by
 unfold eQ at h;split at h;.rename_i a p o d;have(G,e,i,_):=iN h;have(z,rfl,j):=p9 G;have(_,rfl,k,m):=jw e;have(_,rfl,o1,n):=jw i;have(P,rfl,q):=Dw m;have(os,rfl,u):=Dw n;have H:b5 (row 5 (jM b l f (P.map .str++os.map .str) J)) d=true:=H;rw[ae]at k o1;have(r,rfl,H):=vp H;have(L,t,v):=Gz (ML (s:=jM b l f (P.map Pv.str++os.map Pv.str) J) hu 5 1) (xs:=r) H;refine(_,.mk j q u (by lia) (by lia) t,?_);rw[ag,aa,aa,ae];show os.length+(L.length+1)+1<=3*(1+sum (eu 5) r)+3;lia
 .cases h
theorem Kj{f:Pv}(hu:∀c∈(rk f).map lu,sE c<=3):∀{fs:ϑ},fs.all eQ=J->(fs.all λg=>b_ 5 (jM b l f (lX g) J) (mS g))->∃L,qr (NR a') fs L/\L.length<=3*sum iS fs+3*fs.length|[],_,_=>([],.nil,bA _)|g::fs,h,H=>by have(d,e):=ah (show(eQ g&&fs.all eQ)=J from h);have(r,R):=ah (show(b_ 5 (jM b l f (lX g) J) (mS g)&&fs.all λg=>b_ 5 (jM b l f (lX g) J) (mS g))=J from H);have(L,a,k):=AA hu d r;have(M,t,m):=Kj hu e R;refine(L++M,.cons a t,?_);rw[aa,ag];show _<=3*(iS g+sum iS fs)+_;lia
def vA(h:ND c n o=af):c/\o=none:=by cases c with|true=>exact(rfl,h)|false=>cases h
def TL(h:wD b l f r=af):∃L,zG a' (.tup [b,l,f,r]) L/\L.length<=250:=by
 unfold wD at h;have(v,h):=vA h;have(n,h):=vA h;have(w,h):=vA h;have(v4,h):=vA h;have(v5,_):=vA h;have(B,l1,_):=dG v;have(i,_):=ah n;have(o,e):=ah v4;have(_,rfl,B,b2):=jw B;have(_,rfl,l1,l2):=jw l1;have(fs,rfl,i,j):=jw i;have(bs,rfl,H):=Tn b2;have(p,rfl,q):=T8 l2;rw[ae]at B l1;have hu:∀c∈fs.map lu,sE c<=3:=λc t=>by have(g,u,rfl):=a0.mp t;exact Ko (P:=λg=>sE (lu g)<=3) (ai.mp j g u) λa b c d k=>k
 have(F,T,x):=Kj (f:=.tup fs) hu j o;have(m,rfl,e):=vp e;have(R,tr,y):=Gz (ML (s:=jM (.tup (bs.map EU)) (.tup (p.map FE)) (.tup fs) [] a') hu 5 0) e;refine(_,.mk H (by lia) q (by lia) (by lia) T tr,?_);have v5:=eF v5;have v5:¬(60:Int)<((sum iS fs+sum (eu 5) m:Nat):Int):=λz=>by have z:jv 60 (mW (.tup fs) (.tup m):Nat)=true:=cw.mpr z;rw[v5]at z;cases z
 rw[aa,aa,aa,ae,ae];lia
end W2
namespace L2
def RG{t:XK->TS}(g:∀P E1,oH (X.tr P E1) b (t E1)):PS X (.Try b (c::d) [] [] pos) (t λ_ _ _=>False):=by
 intro p s σ H D I h;refine wpAny_Try_except (fe (g (X.pn++p) (λ_ _ _=>False) [] s σ H D (I.ahM _) h) (λf s1 q=>?_) λe s1 q=>?_);.have q':=SP.HQ I.ok q;cases f with|next=>exact lT q'|brk=>exact q'|cont=>exact q'|ret u=>exact q'
 .have(i,k,s0,j,a,C,l,rfl,F,E):=q;exact E.elim
end L2
namespace W2
open L2 F
inductive JM:Ct|mk{t:Str}{o:Option Rp}{Q:Dv->Hs->Prop}{xc:XP}(ht:t.length<=900000)(hg:(cO t).all Hr)(e:Run s0 (cO t) o)(q:Kc o (λx=>Q (.p x) []) λ_=>False):JM [.p (.str t)] [] Q xc
def Hl{K:Pv->Prop}(h:Kc o K X)(i:∀x,K x->k x)(j:∀c,X c->X' c):Kc o k X':=by cases o with|none=>exact j 4 h|some s=>unfold Kc at h⊢;dsimp only at h⊢;cases H:s.ops with
  |nil=>rw[H]at h;have(d,e):=bq h;refine aw d ?_;revert e;cases wD (.tup s.bs) (.tup s.ls) (.tup s.fs) (.tup s.rs)with|none=>exact i _|some c=>exact j c
  |cons a b=>rw[H]at h;exact j 4 h
def Y6:eD ["_law_text_here"] ["_law_text_here"] (aT (top 100)):=oP (by ext)
section
variable{ca:Nat->Addr}{W:Wd}
seal L2.PE L2.PS L2.oH L2.PT L2.PW L2.PA L2.PG L2.Vh L2.PI L2.PO L2.pE L2.PC L2.jZ L2.dQ L2.ED L2.IV L2.Om L2.ZW in
def OZ(b:DX ca W 36 30 JQ)(S:SX W):DX ca W 66 31 JM:=by
 have(P,b):=b;refine(["_law_text_here"],S.DR.okX Y6 (λw H Q E (G,M,h,ds,l,X,r,i,c,_,_)=>?_) λf N A g s H w Q E y B=>?_);.cases c;rw[<-i.len];rfl
 have(G,M,h,ds,l,X,r,i,c,out,z):=B;cases c with|@mk t o _ _ C D e q=>
 have(v,rfl,I):=i.lW;cases(show v=.str t by unfold F.cL bT at I;exact I);have K:M=[]:=cX.mp r.ln;subst K;refine(_,qg (RG λT E1=>qg (y6 (yX b y SA rfl (hX (pv 0) qX)))),?_);refine(_,rfl,?_);refine(G,[],[],[.p (.str t)],λd a=>∃x,d=.p x/\a=[]/\l (.p x) [],λk a=>False,r,(I,trivial),.mk C D e (Hl q (λx h=>(x,rfl,rfl,h)) λc h=>h),?_,?_);.rintro d a m n v u R L ⟨x,rfl,rfl,j⟩;exact out (.p x) [] m n v u R L j
 .rintro k a m n u R j;exact j.elim
end
def LQ:∀{n:Nat}{x:Pv},qW n x=J->qW (n+1) x=true:=by intro n;induction n with|zero=>intro x h;cases h|succ n i=>
  intro x h;cases x<;>first|(cases h;done)|exact h|skip
  have(H,a):=ah h;show(_&&_)=J;rw[a,c8 (λ_ h=>i h) H];rfl
def DD(h:qW n x)(l:n<=m):qW m x=true:=by obtain⟨k,rfl⟩:∃k,m=n+k:=(m-n,by lia);clear l;induction k with|zero=>exact h|succ k i=>exact LQ i
def dm(h:xs.all (qW n))(l:xs.length<=100000):qW (n+1) (.tup xs)=true:=by show(xs.all (qW n)&&aa4 xs.length 100000)=J;rw[h,ap.mpr l];rfl
def A2(l:ϐ)(h:l.length<=100000):qW (n+2) (.tup (l.map .str))=true:=dm (by rw[eh];exact ai.mpr λ_ _=>rfl) (by rw[ae];exact h)
def VW.ok{n:Nat}{v:Pv}{ws:ϐ}(h:VW n v ws):qW (n+1) v=true:=by induction h with|num h=>rfl|nm H x=>rfl|not t i=>exact dm (by show(J&&(_&&J))=J;rw[i];rfl) (ap.mp rfl)|item x t i=>exact dm (by show(J&&(J&&(_&&J)))=J;rw[i];rfl) (ap.mp rfl)|bin H t T i I=>exact dm (by show(J&&(_&&(_&&J)))=J;rw[i,I];rfl) (ap.mp rfl)
theorem BY.ok(h:BY vs o):vs.all (qW 5)=true:=by induction h with|nil=>rfl|cons t k i=>rw[aG,t.ok,i];rfl
theorem rA.ok{ws:ϐ}(h:rA w xs zs ws):xs.all (qW 6)=true:=by induction h with|nil=>rfl|nm x t i=>rw[aG,i];rfl|val H v t i=>rw[aG,LQ v.ok,i];rfl|vals H l t=>rw[aG,dm t.ok (by lia)];rfl
def qr.ok{xs:ϑ}{L:List Ln}(h:qr R xs L)(H:∀x M,R x M->M.length<=L.length->f x/\1<=M.length):xs.all f/\xs.length<=L.length:=by induction h with|nil=>exact(rfl,ay _)|@cons x xs L M a t i=>rw[aa]at H⊢;have(b,d):=H x L a (by lia);have(c,e):=i λx N r l=>H x N r (by lia);rw[aG,b,c,ag];exact(rfl,by lia)
def UD:∀n d x L,RL a' n d x L->L.length<=1000->qW (2*n+6) x/\1<=L.length:=by intro n;induction n with|zero=>exact λ_ _ _ h=>h.elim|succ n i=>
  intro d x L h H;have h:lU a' (RL a' n) d x L:=h;have sub:∀{X:ϑ}{A:List Ln},qr (RL a' n (d+1)) X A->A.length<=1000->qW (2*n+7) (.tup X)=true:=λa l=>by have(e,j):=a.ok (f:=qW (2*n+6)) λx M r k=>i _ _ _ r (by lia);exact dm e (by lia)
  refine(?_,by cases h<;>exact fH (bA _));show qW (2*n+7+1) x=J;have c:∀{v:Pv}{ws:ϐ},VW 4 v ws->qW (2*n+7) v=true:=λt=>DD t.ok (by lia);cases h with|pl w T m t=>exact dm (by show(J&&_)=J;exact c8 (λ_ h=>DD h (by lia)) t.ok) (by rw[ag];lia)|N2 t a=>rw[ag,aa]at H;exact dm (by show(J&&(_&&(_&&(J&&J))))=J;rw[c t,sub a (by lia)];rfl) (ap.mp rfl)|h_ g=>cases g|WX t a b=>rw[ag,aa,ag,aa]at H;exact dm (by show(J&&(_&&(_&&(_&&J))))=J;rw[c t,sub a (by lia),sub b (by lia)];rfl) (ap.mp rfl)|ZH t a=>rw[ag,aa]at H;exact dm (by show(J&&(_&&(_&&J)))=J;rw[c t,sub a (by lia)];rfl) (ap.mp rfl)|wB o a b=>rw[ag,aa,ag,aa]at H;exact dm (by show(J&&(_&&(J&&(_&&J))))=J;rw[sub a (by lia),sub b (by lia)];rfl) (ap.mp rfl)
def U2(h:NR a' x L)(H:L.length<=1000):qW 18 x/\1<=L.length:=by cases h with|@mk x p os R L b c o lp lo t=>rw[ag,aa,aa]at H;have(a,d):=t.ok (f:=qW 16) λx M r k=>UD 5 1 x M r (by lia);refine(dm ?_ (ap.mp rfl),fH (bA _));show(J&&(_&&(_&&(_&&J))))=J;rw[A2 (n:=15) p (by lia),A2 (n:=15) os (by lia),dm a (by lia)];rfl
def acb(h:zG a' P L)(H:L.length<=1000):qW 20 P=true:=by cases h with|@mk bs s fs d F R e i p j o f r=>
 rw[aa,aa,aa]at H;have(a,q):=r.ok (f:=qW 16) λx M r k=>UD 5 0 x M r (by lia);have(b,t):=f.ok (f:=qW 18) λx M r k=>U2 r (by lia);have B:(bs.map EU).all (qW 18)=true:=by rw[eh];exact ai.mpr λ_ _=>rfl
 have c:(s.map FE).all (qW 18)=true:=by rw[eh];refine ai.mpr λl m=>?_;have(_,g,_):=dG (ai.mp p l m);refine dm (n:=17) ?_ (ap.mp rfl);show(J&&(_&&J))=J;rw[dm (n:=16) (by rw[eh];exact ai.mpr λ_ _=>rfl) (by rw[ae];have:=ap.mp g;lia)];rfl
 refine dm (n:=19) ?_ (ap.mp rfl);show(_&&(_&&(_&&(_&&J))))=J;rw[dm B (by rw[ae];lia),dm c (by rw[ae];lia),dm b (by lia),DD (dm a (by lia)) (show 17<=19 by ext)];rfl
end W2
namespace F
open L2
def Ms.afJ{K:Frag}{st:Stmt}{ps:ϐ}(B:Ms Γ t)(z:Bool)(n:IT K x l st f d)(F:eD N ps (aT st))(g:Gk Γ t k S P w K a base)(u:B.ck (S.at N (aT st) a') (bZ st)=J)(j:∀ds h Q b,C ds h Q b->ds.length=ps.length/\B.m (eA z h.length Q λ_ _=>False) (jN N.length ds) h):iB P w K a base GW (k+2) f d ps (iK (K,a,t) C):=by refine n.ok F (λv H Q E (G,M,h,ds,D,b,r,i,c,_,_)=>by rw[<-i.len];exact(j _ _ _ _ c).1) λL A o s H v Q E R (G,M,h,ds,D,b,r,i,c,out,T)=>?_;refine(_,B.ps (Γ:=Γ) (t:=t) (k:=k) (S:=S.at N (aT st) a') (E:=λ_ _ _=>False) (Gk.okx (X:=(qN GW P w K a base N l (aT st) f L A o s H E).XG) g rfl rfl rfl (λp σ H s e U I (_,_,_,_,_,q)=>q.elim) R (λh=>by cases h),F.nd,λy _=>.inl rfl,PassesOwn.never,F.kind,g.exc) u,?_);exact(G,M,_,h,_,yj r (zj N i) out λ_ _ _ _ _ _ q=>q.elim,(j _ _ _ _ c).2)
end F
namespace W2
open L2 F
abbrev VH:Ct:=JJ AL λ_=>.bl J
noncomputable def lwN:ϐ:=["_law_script","_law_one","_law_other","_law_state_here","_law_texts","_law_text_here","_law_program_here"]
def U8(d:fZ x)(z:eZ x<=1000000):dz x=true:=by unfold dz;rw[d,ap.mpr (show eZ x<=n9 from z)];rfl
structure M_(z:Str)(P:Pv):Prop where
 r:∀(Q:Dv->Hs->Prop)(xc:XP),Q (.p P) []->JM [.p (.str z)] [] Q xc
 k:qW 20 P=J
def UC(g:GdP b l f r)(t:zG a' (.tup [b,l,f,r]) L)(H:L.length<=250)(p:zG J (.tup [b,l,f,r]) M)(G:M.all oR)(m:M.length<=500)(tr:cO z=M.map λl=>wl l.2)(Z:z.length<=900000):M_ z (.tup [b,l,f,r]):=by refine(λQ x q=>?_,acb t (by lia));have(s,c,h,e):=Y0 p m;have(S,bs,a,fs,R,i):=s;cases h;cases e;refine .mk (o:=O (S,bs,a,fs,R,[])) Z (by rw[tr];exact YY G) (by rw[tr];exact c) ?_;have hv:=g.v;show gd (dz (.tup [.tup bs,.tup a,.tup fs,.tup R])) (ie (wD (.tup bs) (.tup a) (.tup fs) (.tup R)) _ _);rw[hv];exact aw (U8 g.d (aE g.z (by ext))) q
inductive LWJ(x P1 P2:Pv)(z1 z2:Str):Es->Hs->Prop|mk(m1 m2 m3:Int)(v5 v6:Option Dv):LWJ x P1 P2 z1 z2 [O (.p x),O (.p P1),O (.p P2),O (.r 2),O (.p (.lst [.str z1,.str z2])),v5,v6] [.lst [.int m1],.lst [.int m2],.lst [.int m3]]
section
variable{ca:Nat->Addr}{W:Wd}
def agK{f:Addr}{F:dV}{st:Stmt}{l:List (Nat×Ct)}{k:Nat}{M:Ss}{C:Ct}(B:LX ca W)(N:ϐ)(a:IT W.K "law" "law" st f F)(b:Ms ((Lx ca).G l []) (Lx ca).t)(u:(Km N ["_law_script"] (aT st)&&b.ck ((Lx ca).S.at N (aT st) a') (bZ st))=J)(H:All (Lx ca) W (k+1) l)(c:∀ds h Q x,C ds h Q x->ds.length=1/\M (eA J h.length Q λ_ _=>False) (jN N.length ds) h)(d:b.m=M:=by exact hO _):iB W.P W.w W.K W.mg W.base GW (k+2) f F ["_law_script"] (iK ((Lx ca).y W) C):=by subst d;exact b.afJ (N:=N) J a (oP (ah u).1) (B.gk (BI.of H.at) trivial) (ah u).2 c
def μ(B:LX ca W)(F0:IT W.K "law" "law" (top 101) f U)(D:DX ca W 28 2 JK)(d:DX ca W 29 2 xT)(a:DX ca W 35 13 tX)(b:DX ca W 62 22 (B' 20))(m:DX ca W 65 22 cTx)(o:DX ca W 66 31 JM):iB W.P W.w W.K W.mg W.base GW 32 f U ["_law_script"] (iK ((Lx ca).y W) VH):=by
 refine agK B lwN F0 (l:=[(28,JK),(29,xT),(35,tX),(62,B' 20),(65,cTx),(66,JM)]) (k:=30) (.seq (.set 1 (.cl 35 [0] (.u2 (.cl 29 [] (.u2 (.cl 28 [] (.u2 0 (.i 0))) (.i 1))) (.i 6)))) (.seq (.set 2 (.cl 35 [1] (.u2 (.cl 29 [] (.u2 (.cl 28 [] (.u2 0 (.i 1))) (.i 2))) (.i 6)))) (.seq (.set 3 (.cl 29 [] (.u2 (.cl 28 [] (.u2 0 (.i 2))) (.i 3)))) (.seq (.set 4 (.lst (.u2 (.cl 65 [2] (.u2 1 3)) (.cl 65 [2] (.u2 2 3))))) (.seq (.fo (.many [5,6]) (.s (.lst (.u3 (.tup (.u2 (.ix 4 (.i 0)) 1)) (.tup (.u2 (.ix 4 (.i 1)) 2)) (.tup (.u2 (.ix 4 (.i 0)) 1))))) (.one (.iff (.not (.val (.cl 62 [] (.u2 (.cl 66 [] (.u 5)) 6)))) (.re (.c (.bl a'))) .nil))) (.re (.c (.bl J)))))))) rfl (D.up rfl,d.up rfl,a.up rfl,b.up rfl,m.up rfl,o,trivial) λds h Q xc c=>zJ (λx Q xc t q=>?_) ds h Q (λ_ _=>False) (show VH ds h Q λ_ _=>False from c);have q:Q (.p (.bl J)) []:=q;refine aw (by show(AL x&&J)=J;rw[t];rfl) λi n H=>aw (by show(J&&(fS n&&J))=J;rw[H];rfl) λm1 b1 l1 f1 r1 Ja g=>?_;refine aw (by show(AL x&&J)=J;rw[t];rfl) λi n H=>aw (by show(J&&(fS n&&J))=J;rw[H];rfl) λm2 b2 l2 f2 r2 rJ G=>?_;refine aw (by show(AL x&&J)=J;rw[t];rfl) λi n H=>?_;have(L1,X,Y):=TL g.v;have(L2,t2,h2):=TL G.v;refine .mk X Y H λM1 Z v1 A C M T E Fq=>?_;refine .mk t2 h2 Fq λM2 F v2 I L N R S hv2=>?_;have k1:=UC g X Y A C M T E;have k2:=UC G t2 h2 I L N R S;generalize Pv.tup [b1,l1,f1,r1]=P1 at k1⊢;generalize Pv.tup [b2,l2,f2,r2]=P2 at k2⊢;refine eW (λpre post σ h=>LWJ x P1 P2 Z F σ h) (.mk m1 m2 v2 _ _) (λpre y post σ h e j=>?_) λσ h j=>?_
 .have hy:∃z P,y=.tup [.str z,P]/\M_ z P:=by
   have hm:y ∈[Pv.tup [.str Z,P1],.tup [.str F,P2],.tup [.str Z,P1]]:=by rw[show[Pv.tup [.str Z,P1],.tup [.str F,P2],.tup [.str Z,P1]]=_ from e];simp
   simp only[aK,qw,or_false]at hm;rcases hm with rfl|rfl|rfl;.exact(_,_,rfl,k1)
   .exact(_,_,rfl,k2)
   .exact(_,_,rfl,k1)
  have(z,P,rfl,k):=hy;cases j with|mk a1 a2 a3 v5 v6=>refine k.r _ _ ?_;refine .mk k.k ?_;exact .mk a1 a2 a3 _ _
 .cases j with|mk a1 a2 a3 v5 v6=>exact q
end
def zW{α:Type}(P:α->Prop):List α->Prop|[]=>True|x::r=>P x/\zW P r
theorem je:∀{l:List α},zW P l->∀x∈l,P x|[],_,_,h=>nomatch h|y::r,a,x,h=>(aK.mp h).elim (λz=>z▸a.1) λz=>je a.2 x z
structure Txt(w:cf)(K:Frag)(mg:db)(av ar al:Addr):Prop where
 z:zW (λx=>mg x=af) VC
 is:zW (λp:Str×Int=>∃t,mg p.1=O (.int p.2 t)) [("MOST_LETTERS",6),("GREATEST",999999),("DEEPEST",4),("NO_ROW",-1),("MOST_BOXES",6),("MOST_LISTS",3),("MOST_THINGS",12),("MOST_FUNCTIONS",4),("MOST_NAMES",3),("DEEPEST_ROW",5),("MOST_NUMBERS",60),("MOST_FIGURES",6),("BOXES",0),("LISTS",1),("FUNCTIONS",2),("ROWS",3)]mv:mg "VALUE_FORMS"=O (.ref av)mr:mg "ROW_FORMS"=O (.ref ar)ml:mg "LINES"=O (.ref al)tv:zV w K av λx=>lk x eJ
 tr:zV w K ar λx=>lk x dI
 tl:zU w K mg (λi=>ad6 (hH Wg "" i)) al λx=>(lk x HL).map λn=>aa5 n ""
structure U7(K:Frag)(mg:db)(x:Str)(C:Addr)(fs:ϐ):Prop where
 m:mg x=O (.ref C)cl:L2.EC K C
 na:zW (λf=>kX K C f) fs
structure Ex4(K:Frag)(mg:db)(C1 C2 C3 C5:Addr):Prop where
 m1:mg "NoProgram"=O (.ref C1)m2:mg "NoRow"=O (.ref C2)m3:mg "TooLong"=O (.ref C3)m5:mg "NoText"=O (.ref C5)e1:pB K C1
 e2:pB K C2
 e3:pB K C3
 e5:pB K C5
noncomputable def oz(C c a CS b W CR:Addr):Nat->Addr|0=>C|1=>c|2=>a|3=>CS|4=>b|5=>W|_=>CR
def iZ(h:∃t,W.mg x=O (.int i t)):∃u v,W.mg x=O u/\RelV v u/\∀G M H,bT (((Lx c).y W).z G) M H (.int i) v:=let (t,h):=h;(_,.int i,h,(t,rfl),λ_ _ _=>by unfold bT;rfl)
def Nr{K:Frag}(T:zV w K a tab):BX w K a tab:=by have(E,n,l,k,h):=T.ex;refine((E,n,l,k,λx=>?_),T.lo);have h:=h x;cases e:tab x with|none=>rw[e]at h;exact h|some s=>rw[e]at h;have(b,H,o,i,m,c,d,_,f,g,j):=h;exact(b,H,o,i,m,c,d,f,g,j)
def RP:ϐ:=["boxes","lists","param_counts","may_return"]
def N3:ϐ:=["words","place"]
noncomputable def Kx:ϐ:=["section","boxes","lists","functions","rows","opened"]
def abf{K:Frag}{CS CR:Addr}(T:Txt w K m A r h)(Z:Ex4 K m C e f g)(V:U7 K m "Scope" CS RP)(v:U7 K m "Words" W N3)(j:U7 K m "Reader" CR Kx):Lk (Lx (oz C e f CS g W CR)) (P,w,K,m,base) where
 bl:=je (P:=λx=>m x=af) (l:=VC) T.z;gl:=by have(k,n,o,p,q,s,t,u,y,B,i,I,a,b,c,d,_):=T.is;exact je (l:=[0,1,2,3,4,5,6,7,8,9,10,11,12,13,14,15]) (iZ k,iZ n,iZ o,iZ p,iZ q,iZ s,iZ t,iZ u,iZ y,iZ B,iZ i,iZ I,iZ a,iZ b,iZ c,iZ d,trivial)
 tab:=je (l:=[0,1,100]) ((A,T.mv,Nr T.tv),(r,T.mr,Nr T.tr),(h,T.ml,T.tl),trivial);cls:=je (l:=[3,5,6]) ((V.cl,je V.na,mO rfl),(v.cl,je v.na,mO rfl),(j.cl,je j.na,mO rfl),trivial);exc:=je (l:=[0,1,2,4]) ((Z.m1,Z.e1),(Z.m2,Z.e2),(Z.m3,Z.e3),(Z.m5,Z.e5),trivial)
def Gy(K:Frag):Sp:=λv H Q _=>∃(a:Addr)(n:List Int),v=[.ref a]/\jd K H a (n.map V.int)/\∀h,Q (.bl J) h
theorem KG:∀N:List Int,aR Z M H (N.map .int) (N.map V.int)|[]=>by unfold aR;trivial|n::N=>by show aR Z M H (.int n::N.map .int) (V.int n::N.map V.int);unfold aR;exact(by unfold bT;rfl,KG N)
def Xq{L:Lw}(h:Gy W.K vs H Q E):iK (L.y W) VH vs H Q E:=by
 have(a,n,rfl,S,q):=h;refine([],[],[],[.p (.scr (n.map .int))],λd b=>d=.p (.bl J),λ_ _=>False,(fE,(λ_ h=>nomatch h),rfl,(λ_ h=>nomatch h),λi a o h=>by simp at h),(?_,trivial),aw ?_ rfl,?_,λ_ _ _ _ _ _ h=>h.elim)
 .show bT _ _ _ _ _;unfold bT;refine(a,_,rfl,?_,KG n);rcases S with r|c;.exact .inl (((λh=>nomatch h),λh=>nomatch h),r)
  .exact .inr (.inr c)
 .show(n.map Pv.int).all isInt=J;rw[eh];exact ai.mpr λ_ _=>rfl
 .rintro d b M e v _ _ i rfl;rw[Jr i];exact q e
section
variable{w:cf}{K:Frag}{mg:db}{h:Heap}
def JD{α:Type}{f g:List Value->α}(H:n<=5)(h:∀a b c d e,f ([a,b,c,d,e].take n)=g ([a,b,c,d,e].take n)):∀us:List Value,us.length=n->f us=g us|[],rfl=>h .none .none .none .none .none|[a],rfl=>h a .none .none .none .none|[a,b],rfl=>h a b .none .none .none|[a,b,c],rfl=>h a b c .none .none|[a,b,c,d],rfl=>h a b c d .none|[a,b,c,d,e],rfl=>h a b c d e|_::_::_::_::_::_::r,e=>by have:r.length+6=n:=e;omega
def Ze{st:Stmt}{kV:Value}(X:K.In h)(G:h.Ns dr mg)(H:ps.length<=5)(j:∀(kV doc p:Value)(A:Option Addr)(g ct a b c d e:Value),bindArgs (fnOf x x (gh st) (bZ st) (aT st) .none kV doc p A g ct) ([a,b,c,d,e].take ps.length,[])=pure (ps.zip ([a,b,c,d,e].take ps.length)))(a:nsIn K dr x=O (O (.ref f)))(l:K.lookup f=O (oc,o,.func (fnOf x x (gh st) (bZ st) (aT st) .none kV doc p A g ct),i))(c:codeIn K g x)(k:keepIn K (.ref f)):Src K mg x st ps:=have F:=yp (st:=st) l c k;(f,_,F,bw X G a,F.binds λkV doc p A g ct=>JD H (j kV doc p A g ct))
def R7{st:Stmt}{kV:Value}(H:ps.length<=5)(m:∀(kV doc p:Value)(A:Option Addr)(g ct a b c d e:Value),bindArgs (fnOf "__init__" q (gh st) (bZ st) (aT st) .none kV doc p A g ct) ([a,b,c,d,e].take ps.length,[])=pure (ps.zip ([a,b,c,d,e].take ps.length)))(a:findIn K (.ref C) "__init__"=O (O (.ref f)))(i:isFn K (.ref f))(l:K.lookup f=O (oc,o,.func (fnOf "__init__" q (gh st) (bZ st) (aT st) .none kV doc p A g ct),j))(c:codeIn K g q)(k:keepIn K (.ref f))(mk:makesIn K C)(n:keepIn K (.ref C)):qF K C q st ps:=have F:=yp (st:=st) l c k;(f,_,F,(mk,a,i,n),F.binds λkV doc p A g ct=>JD H (m kV doc p A g ct))
def R8{st:Stmt}{kV:Value}(H:ps.length<=5)(m:∀(kV doc p:Value)(A:Option Addr)(g ct a b c d e:Value),bindArgs (fnOf x q (gh st) (bZ st) (aT st) .none kV doc p A g ct) ([a,b,c,d,e].take ps.length,[])=pure (ps.zip ([a,b,c,d,e].take ps.length)))(a:findIn K (.ref C) x=O (O (.ref f)))(i:isFn K (.ref f))(l:K.lookup f=O (oc,o,.func (fnOf x q (gh st) (bZ st) (aT st) .none kV doc p A g ct),j))(c:codeIn K g q)(k:keepIn K (.ref f)):qG K C x q st ps:=have F:=yp (st:=st) l c k;(f,_,F,(a,i,k),F.binds λkV doc p A g ct=>JD H (m kV doc p A g ct))
def wI(w:cf)(K:Frag):List (Str×ϐ)->List ft->Prop|[],[]=>True|(x,k)::r,e::E=>(∃t b,e=(ae1 w.params x,.str x t,.ref b)/\∃(o:Obj)(i:Array Value)(m:Nat),K.lookup b=O o/\o.cls=.type "tuple"/\o.dict=af/\o.data=.seq i m/\i.size<=sizeLine/\Vals (k.map V.str) i.toList)/\wI w K r E|_,_=>False
def rkc{h:Int}(e:h=ae1 w.params x)(l:K.lookup b=O o)(c:o.cls=.type "tuple")(dn:o.dict=af)(d:o.data=.seq its m)(z:its.size<=sizeLine)(v:Vals (ks.map V.str) its.toList)(q:wI w K r es):wI w K ((x,ks)::r) ((h,.str x t,.ref b)::es):=by subst e;exact((t,b,rfl,o,its,m,l,c,dn,d,z,v),q)
theorem va:∀{r:List (Str×ϐ)}{es:List ft},wI w K r es->KeysLit w.params es|[],[],_=>trivial|_::_,_::_,((_,_,e,_),q)=>by subst e;exact((_,_,rfl,rfl),va q)|[],_::_,q=>q.elim|_::_,[],q=>q.elim
theorem vb{x:Str}:∀{r:List (Str×ϐ)}{es:List ft},wI w K r es->match lk x r with|some k=>∃b,((es.find? λe=>ab5 x e.key).map (·.val))=O (.ref b)/\∃(o:Obj)(i:Array Value)(m:Nat),K.lookup b=O o/\o.cls=.type "tuple"/\o.dict=af/\o.data=.seq i m/\i.size<=sizeLine/\Vals (k.map V.str) i.toList|none=>((es.find? λe=>ab5 x e.key).map (·.val))=af
 |[],[],_=>rfl|(y,k)::r,_::es,((t,b,e,Q),q)=>by subst e;have I:=vb (x:=x) q;show match match aS x y with|true=>O k|false=>lk x r with|some k=>_|none=>_;cases e:aS x y with|true=>have e:=aQ.mp e;subst e;exact(b,by rw[w_ (by show(x==x)=J;simp)];rfl,Q)|false=>
   have n:List.find? (λe=>ab5 x e.key) ((ae1 w.params y,.str y t,.ref b)::es)=es.find? λe=>ab5 x e.key:=v_ λz=>by rw[aQ.mpr (kB (show(y==x)=J from z)).symm]at e;cases e
   rw[n];exact I
 |[],_::_,q=>q.elim|_::_,[],q=>q.elim
def Zj(l:K.lookup a=O (.type "dict",af,.dict es n,#[]))(lo:(a==ga)=a')(q:wI w K r es.toList):zV w K a λx=>lk x r:=((es,n,l,va q,λx=>by have h:=vb (x:=x) q;unfold findBy;rw[<-zN];exact h),lo)
def wH(w:cf)(mg:db)(F:Nat->Str):List (Str×Nat)->List ft->Prop|[],[]=>True|(x,n)::r,e::E=>(∃t f,e=(ae1 w.params x,.str x t,.ref f)/\mg (F n)=O (.ref f))/\wH w mg F r E|_,_=>False
def rfc(X:K.In h)(G:h.Ns dr mg)(e:h'=ae1 w.params x)(a:nsIn K dr (F n)=O (O (.ref f)))(q:wH w mg F r es):wH w mg F ((x,n)::r) ((h',.str x t,.ref f)::es):=by subst e;exact((t,f,rfl,bw X G a),q)
theorem u7:∀{r:List (Str×Nat)}{es:List ft},wH w mg f r es->KeysLit w.params es|[],[],_=>trivial|_::_,_::_,((_,_,e,_),q)=>by subst e;exact((_,_,rfl,rfl),u7 q)|[],_::_,q=>q.elim|_::_,[],q=>q.elim
theorem u9{F:Nat->Str}{x:Str}:∀{r:List (Str×Nat)}{es:List ft},wH w mg F r es->match(lk x r).map λn=>aa5 n ("":Str)with|some k=>∃f,((es.find? λe=>ab5 x e.key).map (·.val))=O (.ref f)/\mg (F k.length)=O (.ref f)|none=>((es.find? λe=>ab5 x e.key).map (·.val))=af
 |[],[],_=>rfl|(y,n)::r,_::es,((t,f,e,Q),q)=>by subst e;have i:=u9 (x:=x) q;show match(match aS x y with|true=>O n|false=>lk x r).map λn=>aa5 n ("":Str)with|some k=>_|none=>_;cases e:aS x y with|true=>have e:=aQ.mp e;subst e;exact(f,by rw[w_ (by show(x==x)=J;simp)];rfl,by rw[bR];exact Q)|false=>
   have n:List.find? (λe=>ab5 x e.key) ((ae1 w.params y,.str y t,.ref f)::es)=es.find? λe=>ab5 x e.key:=v_ λz=>by rw[aQ.mpr (kB (show(y==x)=J from z)).symm]at e;cases e
   rw[n];exact i
 |[],_::_,q=>q.elim|_::_,[],q=>q.elim
def Sw(l:K.lookup a=O (.type "dict",af,.dict es n,#[]))(lo:(a==ga)=a')(q:wH w mg f r es.toList):zU w K mg f a λx=>(lk x r).map λn=>aa5 n "":=((es,n,l,u7 q,λx=>by have h:=u9 (x:=x) q;unfold findBy;rw[<-zN];exact h),lo)
end
def aat(ds:List Dv)(h:Hs)(Q:Dv->Hs->Prop)(xc:XP)(c:Z_ ds h Q xc):Tp ds h Q xc:=by unfold Z_ mu Tt at c;refine iI c λx _ c=>fh c λc=>fh c λc=>?_;have(H,a):=bq c;refine aw H ?_;revert a;show ie (lk (d8 x) dI) (λk=>Q (.p (jP (wb k))) []) False->Q (.p (AG x)) [];unfold AG;cases lk (d8 x) dI with|none=>exact ad0|some k=>exact id
def Xp{l:OpenLaw}{K:Frag}{M:db}{CS CR:Addr}(X:K.In h)(G:h.Ns dr M)(q:M "law"=O (.ref fa))(T:Txt w K M av ar al)(Z:Ex4 K M i j n o)(V:U7 K M "Scope" CS RP)(Vw:U7 K M "Words" C N3)(Vr:U7 K M "Reader" CR Kx)(M0:qF K CS "Scope.__init__" (gj (top 36) 0) ["self","boxes","lists","param_counts","may_return"])(M1:qF K C "Words.__init__" (gj (top 58) 0) ["self","words"])(M2:qF K CR "Reader.__init__" (gj (top 59) 0) ["self"])(M3:qG K C "are_left" "Words.are_left" (gj (top 58) 1) ["self"])(M4:qG K C "take" "Words.take" (gj (top 58) 2) ["self"])(M5:qG K C "take_all" "Words.take_all" (gj (top 58) 3) ["self"])(S:Sg K M)(a3:nsIn K dr "law"=O (O (.ref F)))(l3:K.lookup F=O (u,r,.func (fnOf "law" "law" (gh (top 101)) (bZ (top 101)) (aT (top 101)) .none k d p a c b),t))(c3:codeIn K c "law"=J)(k3:keepIn K (.ref F)):∃fd:dV,(∀(s:be)(v:Value),BindsTo s fd ([v],[]) [("_law_script",v)])/\∀base:Heap,K.In base->base.Ns dr M->iB l.prog w K M base GW 32 fa fd ["_law_script"] (Gy K):=by have e:=q.symm.trans (bw X G a3);cases e;have F3:=yp (st:=top 101) l3 c3 k3;refine(fnOf "law" "law" (gh (top 101)) (bZ (top 101)) (aT (top 101)) .none k d p a c b,λs v=>.of_eq rfl,λbase _ _=>?_);have B:Lk (Lx (oz i j n CS o C CR)) (l.prog,w,K,M,base):=abf T Z V Vw Vr;have D9:=Cq B S (An B S 4);have D:=J4 B S;have f:=Hg B S (iu B S 2 [(8,gD)] (jS B S,trivial));have g:=vZ B S (iu B S 1 [(6,aY)] (jr B S,trivial));have x:=pP B S (iu B S 4 [(18,iG),(19,isList)] (D.up rfl,f,trivial)) D f;have y:=pO B S (iu B S 3 [(20,eQ)] (g,trivial)) g;have G_:=ue B S 5 (Ag B S D9 5);have D4:=Hi B S (ud B S 5);have z:=yb B S G_ (O6 B M0 V.m);have A:=yd B S x y z D4;have L:=VT B M3;have I:=VY B M4 L;have ZR:=Al B S I;have N:=yf B S (ug B S I) ZR;have P:DX (oz i j n CS o C CR) (l.prog,w,K,M,base) 27 4 Z_:=(VS (W:=(l.prog,w,K,M,base)) T.mr T.tr S).imp aat;have R:=Cy B S P (Ak B S L N ZR);have U:=Ai B S I L (Cs B S I) (Aj B S I (ui B S (J7 B M5))) (Cu B S I (J7 B M5)) (Cw B S I) (Ah B S) (ye B S I) (Cv B S) R;have H_:=VX B S (VU B M2 Vr.m) (Ao B S (VV B M1 Vw.m)) U A;have Y:=J2 B S 3;have D35:=O5 B S (O0 B S) Y (E7 B S Y (O4 B S Y) 4);exact(μ B F3 (VR B S) (O7 B S) D35 (ι B S 20) (WH B S) (OZ H_ S)).imp λvs H Q E h=>Xq h
def Zn{K:Frag}{m:db}(X:K.In h)(G:h.Ns dr m)(F:nsIn K dr "len"=O af)(H:nsIn K dr "isinstance"=O af)(I:nsIn K dr "all"=O af)(L:nsIn K dr "zip"=O af)(N:nsIn K dr "range"=O af)(P:nsIn K dr "list"=O af)(Q:nsIn K dr "tuple"=O af)(R:nsIn K dr "str"=O af)(S:nsIn K dr "int"=O af)(U:nsIn K dr "bool"=O af)(z:nsIn K dr "set"=O af)(Z:nsIn K dr "dict"=O af)(f:nsIn K dr "max"=O af)(g:nsIn K dr "min"=O af)(m0:nsIn K dr "MOST_LETTERS"=O (O (.int 6 q)))(W:nsIn K dr "GREATEST"=O (O (.int 999999 r)))(Y:nsIn K dr "DEEPEST"=O (O (.int 4 s)))(m3:nsIn K dr "NO_ROW"=O (O (.int (-1) u)))(m4:nsIn K dr "MOST_BOXES"=O (O (.int 6 v)))(m5:nsIn K dr "MOST_LISTS"=O (O (.int 3 y)))(m6:nsIn K dr "MOST_THINGS"=O (O (.int 12 B)))(m7:nsIn K dr "MOST_FUNCTIONS"=O (O (.int 4 C)))(m8:nsIn K dr "MOST_NAMES"=O (O (.int 3 D)))(m9:nsIn K dr "DEEPEST_ROW"=O (O (.int 5 E)))(M:nsIn K dr "MOST_NUMBERS"=O (O (.int 60 t)))(j:nsIn K dr "MOST_FIGURES"=O (O (.int 6 T)))(k:nsIn K dr "BOXES"=O (O (.int 0 b)))(l:nsIn K dr "LISTS"=O (O (.int 1 c)))(o:nsIn K dr "FUNCTIONS"=O (O (.int 2 d)))(p:nsIn K dr "ROWS"=O (O (.int 3 e)))(mv:nsIn K dr "VALUE_FORMS"=O (O (.ref a)))(mr:nsIn K dr "ROW_FORMS"=O (O (.ref A)))(ml:nsIn K dr "LINES"=O (O (.ref al)))(tv:zV w K a λx=>lk x eJ)(tr:zV w K A λx=>lk x dI)(tl:zU w K m (λi=>ad6 (hH Wg "" i)) al λx=>(lk x HL).map λn=>aa5 n ""):Txt w K m a A al:=((bS X G F,bS X G H,bS X G I,bS X G L,bS X G N,bS X G P,bS X G Q,bS X G R,bS X G S,bS X G U,bS X G z,bS X G Z,bS X G f,bS X G g,trivial),((_,bw X G m0),(_,bw X G W),(_,bw X G Y),(_,bw X G m3),(_,bw X G m4),(_,bw X G m5),(_,bw X G m6),(_,bw X G m7),(_,bw X G m8),(_,bw X G m9),(_,bw X G M),(_,bw X G j),(_,bw X G k),(_,bw X G l),(_,bw X G o),(_,bw X G p),trivial),bw X G mv,bw X G mr,bw X G ml,tv,tr,tl)
def V7{K:Frag}{m:db}(X:K.In h)(G:h.Ns dr m)(n:nsIn K dr "NoProgram"=O (O (.ref C)))(N:nsIn K dr "NoRow"=O (O (.ref c)))(n3:nsIn K dr "TooLong"=O (O (.ref a)))(b:nsIn K dr "NoText"=O (O (.ref C5)))(e:pB K C)(E:pB K c)(d:pB K a)(f:pB K C5):Ex4 K m C c a C5:=(bw X G n,bw X G N,bw X G n3,bw X G b,e,E,d,f)
def VO{K:Frag}{M:db}(X:K.In h)(G:h.Ns dr M)(m:nsIn K dr x=O (O (.ref C)))(p:plainGet K C Str.empty)(H:hasDictIn K C)(P:plainOver K C)(s:findIn K (.ref C) "__setattr__"=O (O (.builtin "object.__setattr__")))(n:zW (λf=>findIn K (.ref C) f=O af) fs):U7 K M x C fs:=(bw X G m,(p,H,P,s),n)
def nac{K:Frag}(h:findIn K (.ref C) f=O af)(t:zW (λf=>findIn K (.ref C) f=O af) r):zW (λf=>findIn K (.ref C) f=O af) (f::r):=(h,t)
def Ph{K:Frag}(e:excIn K C Li "ValueError.__new__"=J):pB K C:=e
def walk{l:OpenLaw}{XP:db->Heap->Prop}{K:Params->Frag}(e:l.most=O 63)(H:d.params.defaults=[])(g:∀(w:cf)(h:Heap),Y w h->(K w.params).In h)(F:∀(w:cf)(m:db)(b:Addr)(h:Heap),(K w.params).In h->h.Ns dr m->m d.name=O (.ref b)->∃c:dV,(∀(s:be)(u:Value),BindsTo s c ([u],[]) [("_law_script",u)])/\∀base:Heap,(K w.params).In base->base.Ns dr m->iB l.prog w (K w.params) m base GW 32 b c ["_law_script"] (Gy (K w.params))):WalkO q L XP Y l.row.toRowW d [] λf vs=>PySem.call f vs:=L2.SV (n:=63) (k:=32) (x:="_law_script") (CX:=λ_=>GW) (sp:=λw=>Gy (K w.params)) e (by ext) H (rfl,by ext,by ext) g F (λ_ _ a N i _ S=>(a,N,rfl,S,λ_=>rfl)) λ_ _ _ _ _ z=>z
end W2
open PySem.W
namespace PySem.W.Fast
def tw1783502075163438945:=0
def tw16829901156620180693:=0
def tw5169836053663354092:=0
def tw11785327158397874497:=0
def tw7708906644017329712:=0
def tw3442970403706853190:=0
def tw3984312452685751439:=0
def tw5895443015694234995:=0
def tw7923337396610720852:=0
def tw5970425258358802832:=0
def tw10071794880553225369:=0
def tw17010797121083434542:=0
def tw10800437348532691025:=0
def tw3703697421448259146:=0
def tw4668650343468026148:=0
def tw4626917079847854902:=0
def tw8114854867034917447:=0
def tw9304611400765102097:=0
def tw8246240458743168158:=0
def tw18445263031226223589:=0
def tw6364355195818820088:=0
def tw11472320086593452683:=0
def tw5080299363253840372:=0
def tw5407952993168202623:=0
def tw13181661111519333411:=0
def tw16181228440403902045:=0
def tw15567746712108132765:=0
def tw11827009903806629055:=0
def tw5021687543826972879:=0
def tw4842930501265555204:=0
def tw4011708237467333877:=0
def tw17793304925459914297:=0
def tw12968098602178951273:=0
def tw7772474419437963337:=0
def tw6309856298268920626:=0
def tw17040363736867544875:=0
def tw2072708810506848577:=0
def tw5264274962235309966:=0
def tw1913538934095052394:=0
def tw3321460656057877503:=0
def tw2261455607700170038:=0
def tw1089624957867322022:=0
def tw17018190808052584338:=0
def tw1244263334524177484:=0
def tw2159517047729509220:=0
def tw16159661645849498693:=0
def tw3732079042541032269:=0
def tw16936043319503486563:=0
def tw1475464377004388361:=0
def tw6017037583157106202:=0
def tw17984742013775257956:=0
def tw15752986964709486189:=0
def tw11416941535751941430:=0
def tw16781177032115090414:=0
def tw8715571347957383499:=0
def tw9403674233795185248:=0
def tw18134756493125864387:=0
def tw5997605545022393530:=0
def tw81744529590213278:=0
def tw10820934765467457584:=0
def tw15300105476885076898:=0
def tw12991643890671138606:=0
def tw15619874181240031153:=0
def tw2228539048680646222:=0
def tw16960953621517132277:=0
def tw3437439451711829075:=0
def tw14183987387067069652:=0
def tw16009404657814839859:=0
def tw5298121414905594471:=0
def tw14332084361182078811:=0
def tw5844500471066803637:=0
def tw2136568561896070989:=0
def tw13813951110172906019:=0
def tw9455802234424396879:=0
def tw15484519999899392296:=0
def tw2767046455961199332:=0
def tw1929538161069308608:=0
def tw14468141753268934088:=0
def tw3057611778757104142:=0
def tw1660414687480558179:=0
def tw10506349521685085605:=0
def tw15313712973892728711:=0
def tw5463051743362415252:=0
def tw18310128654954759789:=0
def tw10714231070865453393:=0
def tw6761360500021492052:=0
def tw3992224614999660910:=0
def tw19673212272969930:=0
def tw15235979982191897525:=0
def tw1717184211917296274:=0
def tw3489172223168895644:=0
def tw5052061759348248148:=0
def tw9634010604720843865:=0
def tw11140516100863979073:=0
def tw13260655837427500388:=0
def tw11031031743294163635:=0
def tw12846964794026983752:=0
def tw4990064246055291863:=0
def tw15635577161348658870:=0
def tw2372119883818351686:=0
def tw4891787274808995018:=0
def tw11707331912035058028:=0
def tw14859563790194253290:=0
def tw10895199689410847843:=0
def tw7032237306301487454:=0
def tw11038076361078743513:=0
def tw3275982086824101944:=0
def tw14235583741775754760:=0
def tw17349938418814159767:=0
def tw2033535096424030432:=0
def tw3239133483028306278:=0
def tw4413018851243051558:=0
def tw7826023375461028261:=0
def tw17445571464846795618:=0
def tw6894025136208791268:=0
def tw14359803871551683285:=0
def tw16564308506003986639:=0
def tw2363570237579715210:=0
def tw13436088731718565717:=0
def tw7377861098020395641:=0
def tw11566912054420446261:=0
def tw15121241508351456104:=0
def tw6064382482422696903:=0
def tw3991312321499793663:=0
def tw15170536704177686356:=0
def tw10356286630448021221:=0
def tw2709831898941732488:=0
def tw3729437002120275162:=0
def tw2667611957339233998:=0
def tw11980287782965262785:=0
def tw16570510128332113879:=0
def tw14401669720031661390:=0
def tw1471961381291961280:=0
def tw18162691468543123863:=0
def tw17017397695972161839:=0
def tw7335742319241648206:=0
def tw15519510046801790595:=0
def tw5492213584560211814:=0
def tw6884567597198724383:=0
def tw8222113819816746317:=0
def tw6116244323540362631:=0
def tw16963205975297993139:=0
def tw15301280794470971209:=0
def tw749980231136368633:=0
def tw3188172113601428716:=0
def tw7998458139686750004:=0
def tw6310615754020385655:=0
def tw8812623715443096784:=0
def tw6328859642284031189:=0
def tw12621478586614368557:=0
def tw4403917478640747507:=0
def tw16303087076798717165:=0
def tw7643496851476518125:=0
def tw13903461695173995434:=0
def tw3005458231418021303:=0
def tw18031844448792335485:=0
def tw7891560342831414677:=0
def tw14624147756306444983:=0
def tw15428422780450815505:=0
def tw11362312041800393356:=0
def tw10775953257401587891:=0
def tw4559757428712919324:=0
def tw11606200150497529925:=0
def tw7229649314503067964:=0
def tw17829265394850114072:=0
def tw12135992986930731366:=0
def tw2207524332900414472:=0
def tw16172507781137531679:=0
def tw9961687639004207845:=0
def tw17386689791733681319:=0
def tw12997419072360866213:=0
def tw3804855217555646148:=0
def tw7966016761657504871:=0
def tw9332230532245097267:=0
def tw18240730214484491062:=0
def tw10696272672924507688:=0
def tw13409058662526236065:=0
def tw12248715814185673501:=0
def tw11208076096187345290:=0
def tw14434459515828368429:=0
def tw10145529163883847096:=0
def tw15769548147074836858:=0
def tw1929735567238254610:=0
def tw270048013458534901:=0
def tw2569601649935897642:=0
def tw14278553006152946715:=0
def tw15281108760403323705:=0
def tw10131831256082944471:=0
def tw9784376983268739337:=0
def tw12146886806967593763:=0
def tw17950713343994117964:=0
def tw4878671958391716887:=0
def tw14713604808570696002:=0
def tw14698770357884500064:=0
def tw17044170155561456259:=0
def tw368189994580341521:=0
def tw7720054364172505326:=0
def tw9595793260065277413:=0
def tw9315100305399793990:=0
def tw5308637307663696654:=0
def tw8450140601859580812:=0
def tw8193488083907544822:=0
def tw5355419981052861609:=0
def tw3679551073230370862:=0
def tw13014727197303283802:=0
def tw15765531333649722432:=0
def tw826343275094615228:=0
def tw5069280432676623189:=0
def tw3806033114017692640:=0
def tw3438075011423492580:=0
def tw648537026915599048:=0
def tw15612552612256736950:=0
def tw955886863860259952:=0
def tw7166187606994168089:=0
def tw932625951379581885:=0
def tw850857824473950219:=0
def tw7870614037431164216:=0
def tw13675525674334563792:=0
def tw5505307333820293253:=0
def tw1594456300846530833:=0
def tw9970097177655395368:=0
end PySem.W.Fast
end
set_option maxRecDepth 100000 in
set_option maxHeartbeats 0 in
theorem PySem.Challenge.cw_retrace_k11_whole_read_back_holds : PySem.Challenge.rw_retrace_k11_whole_read_back.Holds := by
 w_on;o_law;k_head;(case hw=>w_witness2);k_fill;refine W2.walk (l:=PySem.Challenge.rw_retrace_k11_whole_read_back) rfl rfl (λw h Y=>PySem.W.kIn_of Y) ?F;case F=>intro w mg fa h KX G hmg;refine' W2.Xp KX G hmg ?T ?Z ?V ?Vw ?Vr ?M0 ?M1 ?M2 ?M3 ?M4 ?M5 ⟨?S0,?S1,?S2,?S3,?S4,?S5,?S6,?S7,?S8,?S9,?S10,?S11,?S12,?S13,?S14,?S15,?S16,?S17,?S18,?S19,?S20,?S21,?S22,?S23,?S24,?S25,?S26,?S27,?S28,?S29,?S30,?S31,?S32,?S33,?S34,?S35,?S36,?S37,?S38,?S39,?S40,?S41,?S42,?S43,?S44,?S45,?S46,?S47,?S48,?S49,?S50,?S51,?S52,?S53,?S54,?S55,?S56,?S57,?S58,?S59,?S60,?S61,?S62,?S63,?S64,?S65,?S66⟩ ?a3 ?l3 ?c3 ?k3;(case a3|l3|c3|k3=>k_is);(case V|Vw|Vr=>refine' W2.VO KX G ?m ?pg ?hd ?po ?sa ?na;(case m|pg|hd|po|sa=>k_is);(case na=>(repeat(refine' W2.nac ?q1 ?_;(case q1=>k_is)));exact trivial));(case M0|M1|M2=>refine' W2.R7 (by decide) (λ_ _ _ _ _ _ _ _ _ _ _=>rfl) ?a ?i ?l ?c ?k ?mk ?kc;(case a|i|l|c|k|mk|kc=>k_is));(case M3|M4|M5=>refine' W2.R8 (by decide) (λ_ _ _ _ _ _ _ _ _ _ _=>rfl) ?a ?i ?l ?c ?k;(case a|i|l|c|k=>k_is));(case S0|S1|S2|S3|S4|S5|S6|S7|S8|S9|S10|S11|S12|S13|S14|S15|S16|S17|S18|S19|S20|S21|S22|S23|S24|S25|S26|S27|S28|S29|S30|S31|S32|S33|S34|S35|S36|S37|S38|S39|S40|S41|S42|S43|S44|S45|S46|S47|S48|S49|S50|S51|S52|S53|S54|S55|S56|S57|S58|S59|S60|S61|S62|S63|S64|S65|S66=>refine' W2.Ze KX G (by decide) (λ_ _ _ _ _ _ _ _ _ _ _=>rfl) ?a ?l ?c ?k;(case a|l|c|k=>k_is));(case T=>refine' W2.Zn KX G ?z0 ?z1 ?z2 ?z3 ?z4 ?z5 ?z6 ?z7 ?z8 ?z9 ?z10 ?z11 ?z12 ?z13 ?m0 ?m1 ?m2 ?m3 ?m4 ?m5 ?m6 ?m7 ?m8 ?m9 ?m10 ?m11 ?m12 ?m13 ?m14 ?m15 ?mv ?mr ?ml ?tv ?tr ?tf;(case z0|z1|z2|z3|z4|z5|z6|z7|z8|z9|z10|z11|z12|z13|m0|m1|m2|m3|m4|m5|m6|m7|m8|m9|m10|m11|m12|m13|m14|m15|mv|mr|ml=>k_is);(case tv|tr=>refine' W2.Zj ?tla ?to ?tq;(case tla=>k_is);(case to=>decide);(case tq=>(repeat(refine' W2.rkc ?ke ?kl ?kc ?kn ?kd ?kz ?kv ?_;(case ke=>rfl);(case kl=>k_is);(case kc|kn|kd=>rfl);(case kz=>decide);(case kv=>repeat(first|exact .nil|refine .cons ⟨_,rfl⟩ ?_))));exact trivial));(case tf=>refine' W2.Sw ?tlb ?tob ?tqb;(case tlb=>k_is);(case tob=>decide);(case tqb=>(repeat(refine' W2.rfc KX G ?ke ?ka ?_;(case ke=>rfl);(case ka=>k_is)));exact trivial)));(case Z=>refine' W2.V7 KX G ?n1 ?n2 ?n3 ?n5 ?e1 ?e2 ?e3 ?e5;(case n1|n2|n3|n5=>k_is);(case e1|e2|e3|e5=>refine' W2.Ph ?ex;(case ex=>k_exc)))
